/- A maxp.Maxp that comes in. -/
import Derived.Test.YtmpicokeenodbaaMaxp
import Derived.Lib.SmallJoins
import Derived.ChangeSame
import Derived.OpenShut
namespace Go.Proofs.Ytmpicokeenodbaa
open Go.RowKit Go.Joins Go.ChangeShapes Go.WideShapes
set_option linter.unusedVariables false

theorem Try.cellsMp : Try.prog.cellsOf 53 = 14 := by kernel_rfl
theorem Try.cellsArr : Try.prog.cellsOf 51 = 13 := by kernel_rfl
theorem Try.cellsU16 : Try.prog.cellsOf 23 = 1 := by kernel_rfl

section
variable {H : Type} {enc : TypeId × Value → H} {W : World} {base : Nat} {v : Value} {d : DataW H} {p : List MemPlace}

theorem read_u16 {m : Nat} {c : Value} {y : DataW H × List MemPlace} (h : DataW.trod enc Try.prog W 0 (fun _ => true) true m 23 [c] = some y) : ∃ a, c = .int .u16 a ∧ 0 ≤ a ∧ a < 65536 := by
  obtain ⟨a, e, _, wa⟩ := DataW.trod_int Try.underlying23 h
  simp at e
  subst e
  have := bounds_u16 wa
  exact ⟨a, rfl, by omega⟩

set_option maxRecDepth 100000 in
theorem open_mp (hv : Value.okWide Try.prog W .any base 53 v) (h : DataW.Trod enc Try.prog W 0 (fun _ => true) true 53 v d p) :
    ∃ m : Mp, v = mpV m ∧ m.ok := by
  obtain ⟨cs, rfl, hsz⟩ := okWide_struct Try.underlying53 hv
  obtain ⟨l⟩ := cs
  have hl : l.length = 14 := hsz.trans Try.cellsMp
  obtain ⟨fuel, hf⟩ := h
  obtain ⟨xs, n, _, _, _, hxl, hg⟩ := DataW.trod_struct Try.underlying53 hf
  clear hf hv hsz
  match l, hl with
  | [c0, c1, c2, c3, c4, c5, c6, c7, c8, c9, c10, c11, c12, c13], _ =>
    have h0 := hg 0 _ rfl
    have h1 := hg 1 _ rfl
    match xs, hxl with
    | [y0, y1], _ =>
      simp [Try.cellsArr, Try.cellsU16, Value.cells] at h0 h1
      obtain ⟨ys, m, _, _, _, hyl, ha⟩ := DataW.trod_array Try.underlying51 h1
      have key : ∀ i, i < 13 → ∀ c, ([c1, c2, c3, c4, c5, c6, c7, c8, c9, c10, c11, c12, c13] : List Value)[i]? = some c → ∃ a, c = .int .u16 a ∧ 0 ≤ a ∧ a < 65536 := by
        intro i hi c hc
        have h2 := ha i hi
        rw [Try.cellsU16, Nat.mul_one, List.getElem?_eq_getElem (by omega)] at h2
        obtain ⟨hlt, hce⟩ := List.getElem?_eq_some_iff.1 hc
        rw [List.drop_eq_getElem_cons hlt, List.take_succ_cons, List.take_zero, hce] at h2
        exact read_u16 h2
      obtain ⟨g, rfl, g0⟩ := read_u16 h0
      obtain ⟨r0, rfl, b0⟩ := key 0 (by omega) c1 rfl
      obtain ⟨r1, rfl, b1⟩ := key 1 (by omega) c2 rfl
      obtain ⟨r2, rfl, b2⟩ := key 2 (by omega) c3 rfl
      obtain ⟨r3, rfl, b3⟩ := key 3 (by omega) c4 rfl
      obtain ⟨r4, rfl, b4⟩ := key 4 (by omega) c5 rfl
      obtain ⟨r5, rfl, b5⟩ := key 5 (by omega) c6 rfl
      obtain ⟨r6, rfl, b6⟩ := key 6 (by omega) c7 rfl
      obtain ⟨r7, rfl, b7⟩ := key 7 (by omega) c8 rfl
      obtain ⟨r8, rfl, b8⟩ := key 8 (by omega) c9 rfl
      obtain ⟨r9, rfl, b9⟩ := key 9 (by omega) c10 rfl
      obtain ⟨r10, rfl, b10⟩ := key 10 (by omega) c11 rfl
      obtain ⟨r11, rfl, b11⟩ := key 11 (by omega) c12 rfl
      obtain ⟨r12, rfl, b12⟩ := key 12 (by omega) c13 rfl
      refine ⟨⟨g, r0, r1, r2, r3, r4, r5, r6, r7, r8, r9, r10, r11, r12⟩, rfl, g0, fun x hx => ?_⟩
      simp only [Mp.rest, List.mem_cons, List.not_mem_nil, or_false] at hx
      rcases hx with rfl | rfl | rfl | rfl | rfl | rfl | rfl | rfl | rfl | rfl | rfl | rfl | rfl <;> assumption
end

end Go.Proofs.Ytmpicokeenodbaa
