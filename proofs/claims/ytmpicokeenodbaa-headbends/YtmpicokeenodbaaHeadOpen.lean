/- A head.Head that comes in. -/
import Derived.Test.YtmpicokeenodbaaHead
import Derived.Lib.SmallJoins
import Derived.ChangeSame
import Derived.OpenShut
namespace Go.Proofs.Ytmpicokeenodbaa
open Go.RowKit Go.Joins Go.ChangeShapes Go.WideShapes
set_option linter.unusedVariables false

theorem Try.cellsHd : Try.prog.cellsOf 28 = 14 := by kernel_rfl
theorem Try.cellsArr4 : Try.prog.cellsOf 26 = 4 := by kernel_rfl
theorem Try.cellsHu16 : Try.prog.cellsOf 23 = 1 := by kernel_rfl
theorem Try.cellsHu32 : Try.prog.cellsOf 22 = 1 := by kernel_rfl
theorem Try.cellsHu64 : Try.prog.cellsOf 24 = 1 := by kernel_rfl
theorem Try.cellsHi16 : Try.prog.cellsOf 25 = 1 := by kernel_rfl
theorem Try.cellsHbool : Try.prog.cellsOf 4 = 1 := by kernel_rfl

section
variable {H : Type} {enc : TypeId × Value → H} {W : World} {base : Nat} {v : Value} {d : DataW H} {p : List MemPlace}

theorem read_int {m : Nat} {c : Value} {t : TypeId} {k : IntKind} {y : DataW H × List MemPlace} (ht : Try.prog.underlying t = some (.int k)) (h : DataW.trod enc Try.prog W 0 (fun _ => true) true m t [c] = some y) : ∃ a, c = .int k a ∧ (Lit.int k a).wf = true := by
  obtain ⟨a, e, _, wa⟩ := DataW.trod_int ht h
  simp at e
  exact ⟨a, e, wa⟩
theorem read_bool {m : Nat} {c : Value} {y : DataW H × List MemPlace} (h : DataW.trod enc Try.prog W 0 (fun _ => true) true m 4 [c] = some y) : ∃ b, c = .bool b := by
  obtain ⟨a, e, _⟩ := DataW.trod_bool Try.underlying4 h
  simp at e
  exact ⟨a, e⟩

set_option maxRecDepth 100000 in
theorem open_hd (hv : Value.okWide Try.prog W .any base 28 v) (h : DataW.Trod enc Try.prog W 0 (fun _ => true) true 28 v d p) :
    ∃ h : Hd, v = hdV h ∧ h.ok := by
  obtain ⟨cs, rfl, hsz⟩ := okWide_struct Try.underlying28 hv
  obtain ⟨l⟩ := cs
  have hl : l.length = 14 := hsz.trans Try.cellsHd
  obtain ⟨fuel, hf⟩ := h
  obtain ⟨xs, n, _, _, _, hxl, hg⟩ := DataW.trod_struct Try.underlying28 hf
  clear hf hv hsz
  match l, hl with
  | [c0, c1, c2, c3, c4, c5, c6, c7, c8, c9, c10, c11, c12, c13], _ =>
    have h0 := hg 0 _ rfl
    have h1 := hg 1 _ rfl
    have h2 := hg 2 _ rfl
    have h3 := hg 3 _ rfl
    have h4 := hg 4 _ rfl
    have h5 := hg 5 _ rfl
    have h6 := hg 6 _ rfl
    have h7 := hg 7 _ rfl
    have h8 := hg 8 _ rfl
    have h9 := hg 9 _ rfl
    have h10 := hg 10 _ rfl
    match xs, hxl with
    | [y0, y1, y2, y3, y4, y5, y6, y7, y8, y9, y10], _ =>
      simp [Try.cellsArr4, Try.cellsHu16, Try.cellsHu32, Try.cellsHu64, Try.cellsHi16, Try.cellsHbool, Value.cells] at h0 h1 h2 h3 h4 h5 h6 h7 h8 h9 h10
      obtain ⟨ys, m, _, _, _, hyl, ha⟩ := DataW.trod_array Try.underlying26 h6
      have key : ∀ i, i < 4 → ∀ c, ([c6, c7, c8, c9] : List Value)[i]? = some c → ∃ a, c = .int .i16 a ∧ -32768 ≤ a ∧ a < 32768 := by
        intro i hi c hc
        have h2 := ha i hi
        rw [Try.cellsHi16, Nat.mul_one, List.getElem?_eq_getElem (by omega)] at h2
        obtain ⟨hlt, hce⟩ := List.getElem?_eq_some_iff.1 hc
        rw [List.drop_eq_getElem_cons hlt, List.take_succ_cons, List.take_zero, hce] at h2
        obtain ⟨a, e, wa⟩ := read_int Try.underlying25 h2
        have := bounds_i16 wa
        exact ⟨a, e, by omega, by omega⟩
      obtain ⟨rv, rfl, b0⟩ := read_int Try.underlying22 h0
      obtain ⟨ad, rfl, b1⟩ := read_int Try.underlying22 h1
      obtain ⟨fl, rfl, b2⟩ := read_int Try.underlying23 h2
      obtain ⟨un, rfl, b3⟩ := read_int Try.underlying23 h3
      obtain ⟨cr, rfl, b4⟩ := read_int Try.underlying24 h4
      obtain ⟨mo, rfl, b5⟩ := read_int Try.underlying24 h5
      obtain ⟨x0, rfl, q0⟩ := key 0 (by omega) c6 rfl
      obtain ⟨x1, rfl, q1⟩ := key 1 (by omega) c7 rfl
      obtain ⟨x2, rfl, q2⟩ := key 2 (by omega) c8 rfl
      obtain ⟨x3, rfl, q3⟩ := key 3 (by omega) c9 rfl
      obtain ⟨st, rfl, b7⟩ := read_int Try.underlying23 h7
      obtain ⟨lo, rfl, b8⟩ := read_int Try.underlying23 h8
      obtain ⟨hi, rfl, b9⟩ := read_int Try.underlying25 h9
      obtain ⟨lg, rfl⟩ := read_bool h10
      have := bounds_u32 b0
      have := bounds_u32 b1
      have := bounds_u16 b2
      have := bounds_u16 b3
      have := bounds_u64 b4
      have := bounds_u64 b5
      have := bounds_u16 b7
      have := bounds_u16 b8
      have := bounds_i16 b9
      refine ⟨⟨rv, ad, fl, un, cr, mo, x0, x1, x2, x3, st, lo, hi, lg⟩, rfl, ⟨by simp only; omega, by simp only; omega, by simp only; omega, by simp only; omega, by simp only; omega, by simp only; omega, fun x hx => ?_, by simp only; omega, by simp only; omega, by simp only; omega⟩⟩
      simp only [Hd.box, List.mem_cons, List.not_mem_nil, or_false] at hx
      rcases hx with rfl | rfl | rfl | rfl <;> assumption
end

end Go.Proofs.Ytmpicokeenodbaa
