/- Outlines' boxes and points that come in. -/
import Derived.Test.YtlcnonhebppeiaaSimA
import Derived.Test.YtlcnonhebppeiaaBsOpen
import Derived.Lib.SmallJoins
import Derived.ProofKit
import Derived.ChangeSame
import Derived.OpenShut
namespace Go.Proofs.Ytlcnonhebppeiaa
open Go.RowKit Go.Joins Go.ChangeShapes Go.WideShapes
set_option linter.unusedVariables false

theorem Try.cellsSp : Try.prog.cellsOf 60 = 3 := by kernel_rfl
theorem Try.cellsI16 : Try.prog.cellsOf 22 = 1 := by kernel_rfl
theorem Try.cellsBool : Try.prog.cellsOf 4 = 1 := by kernel_rfl
theorem Try.cellsArr4 : Try.prog.cellsOf 23 = 4 := by kernel_rfl

def Sp.ok (p : Sp) : Prop := (-32768 ≤ p.1 ∧ p.1 ≤ 32767) ∧ (-32768 ≤ p.2.1 ∧ p.2.1 ≤ 32767)

section
variable {H : Type} {enc : TypeId × Value → H} {W : World} {base : Nat} {v : Value} {d : DataW H} {p : List MemPlace}

theorem read_i16 {m : Nat} {c : Value} {y : DataW H × List MemPlace} (h : DataW.trod enc Try.prog W 0 (fun _ => true) true m 22 [c] = some y) : ∃ a, c = .int .i16 a ∧ -32768 ≤ a ∧ a ≤ 32767 := by
  obtain ⟨a, e, _, wa⟩ := DataW.trod_int Try.underlying22 h
  simp at e
  subst e
  have := bounds_i16 wa
  exact ⟨a, rfl, by omega⟩

set_option maxRecDepth 100000 in
theorem read_sp {m : Nat} {cs : List Value} {y : DataW H × List MemPlace} (h : DataW.trod enc Try.prog W 0 (fun _ => true) true m 60 cs = some y) : ∃ p : Sp, cs = encSp p ∧ Sp.ok p := by
  obtain ⟨xs, n, _, _, hl, hxl, hf⟩ := DataW.trod_struct Try.underlying60 h
  rw [Try.cellsSp] at hl
  match cs, hl with
  | [c0, c1, c2], _ =>
    match xs, hxl with
    | [y0, y1, y2], _ =>
      have h0 := hf 0 _ rfl
      have h1 := hf 1 _ rfl
      have h2 := hf 2 _ rfl
      simp [Try.cellsI16, Try.cellsBool] at h0 h1 h2
      obtain ⟨a, rfl, a0, a1⟩ := read_i16 h0
      obtain ⟨b, rfl, b0, b1⟩ := read_i16 h1
      obtain ⟨o, e2, _⟩ := DataW.trod_bool Try.underlying4 h2
      simp at e2
      subst e2
      exact ⟨(a, b, o), rfl, ⟨a0, a1⟩, ⟨b0, b1⟩⟩

set_option maxRecDepth 100000 in
theorem open_sps (hv : Value.okWide Try.prog W .any base 24 v) (h : DataW.Trod enc Try.prog W 0 (fun _ => true) true 24 v d p) :
    ∃ A len cap l, v = .slice A len cap ∧ RowS encSp 3 W A len l ∧ (∀ q ∈ l, Sp.ok q) ∧ len ≤ 9223372036854775807 ∧ len ≤ cap := by
  obtain ⟨a, len, cap, rfl⟩ := okWide_slice Try.underlying24 hv
  refine ⟨a, len, cap, ?_⟩
  rcases open_sliceK Try.underlying24 Try.cellsSp h with ⟨rfl, rfl, rfl⟩ | ⟨x, rfl, hl, hm, hi⟩
  · exact ⟨[], rfl, RowS.empty _ _, (fun q hq => by cases hq), by omega, by omega⟩
  · obtain ⟨l, hll, hp⟩ := list_of (p := fun i (q : Sp) => Sp.ok q ∧ ∀ j u, (encSp q)[j]? = some u → W.cell? (x.add (i * 3 + j)) = some u) len (fun i hlt => by
      obtain ⟨cs, m, y, hcl, hc, ht⟩ := hi i hlt
      obtain ⟨q, rfl, hq⟩ := read_sp ht
      refine ⟨q, hq, fun j u hu => ?_⟩
      have hj : j < 3 := (List.getElem?_eq_some_iff.1 hu).1
      rw [hc j hj]
      exact hu)
    simp only [maxLen] at hm
    refine ⟨l, rfl, rowS_in encSp_len l hll (fun i y hy => (hp i y hy).2), fun q hq => ?_, by omega, hl⟩
    obtain ⟨i, hi2⟩ := List.mem_iff_getElem?.1 hq
    exact (hp i q hi2).1

set_option maxRecDepth 100000 in
theorem open_box (hv : Value.okWide Try.prog W .any base 23 v) (h : DataW.Trod enc Try.prog W 0 (fun _ => true) true 23 v d p) :
    ∃ x0 x1 x2 x3, v = .agg #[.int .i16 x0, .int .i16 x1, .int .i16 x2, .int .i16 x3] ∧ ∀ x ∈ [x0, x1, x2, x3], -32768 ≤ x ∧ x ≤ 32767 := by
  obtain ⟨fuel, hf⟩ := h
  obtain ⟨ys, m, _, _, hcl, hyl, ha⟩ := DataW.trod_array Try.underlying23 hf
  rw [Try.cellsArr4] at hcl
  have hvv : ∃ cs, v = .agg cs := by
    cases v with
    | agg cs => exact ⟨cs, rfl⟩
    | _ => simp [Value.cells] at hcl
  obtain ⟨⟨l⟩, rfl⟩ := hvv
  simp only [Value.cells] at hcl ha
  match l, hcl with
  | [c0, c1, c2, c3], _ =>
    have key : ∀ i, i < 4 → ∀ c, ([c0, c1, c2, c3] : List Value)[i]? = some c → ∃ a, c = .int .i16 a ∧ -32768 ≤ a ∧ a ≤ 32767 := by
      intro i hi c hc
      have h2 := ha i hi
      rw [Try.cellsI16, Nat.mul_one, List.getElem?_eq_getElem (by omega)] at h2
      obtain ⟨hlt, hce⟩ := List.getElem?_eq_some_iff.1 hc
      rw [List.drop_eq_getElem_cons hlt, List.take_succ_cons, List.take_zero, hce] at h2
      exact read_i16 h2
    obtain ⟨a0, rfl, b0⟩ := key 0 (by omega) c0 rfl
    obtain ⟨a1, rfl, b1⟩ := key 1 (by omega) c1 rfl
    obtain ⟨a2, rfl, b2⟩ := key 2 (by omega) c2 rfl
    obtain ⟨a3, rfl, b3⟩ := key 3 (by omega) c3 rfl
    exact ⟨a0, a1, a2, a3, rfl, fun x hx => by simp at hx; rcases hx with rfl | rfl | rfl | rfl <;> assumption⟩
end

end Go.Proofs.Ytlcnonhebppeiaa
