/- An outline that comes in. -/
import Derived.Test.YtlcnonhebppeiaaSimI
import Derived.Test.YtlcnonhebppeiaaSimA
namespace Go.Proofs.Ytlcnonhebppeiaa
open Go.RowKit Go.Joins Go.ChangeShapes Go.WideShapes
set_option linter.unusedVariables false

theorem Try.cellsU16 : Try.prog.cellsOf 54 = 1 := by kernel_rfl
theorem Try.cellsU16s : Try.prog.cellsOf 27 = 1 := by kernel_rfl
theorem Try.cellsB1 : Try.prog.cellsOf 25 = 1 := by kernel_rfl
theorem Try.cellsO1 : Try.prog.cellsOf 5 = 1 := by kernel_rfl
theorem Try.cellsSps : Try.prog.cellsOf 24 = 1 := by kernel_rfl
theorem Try.cellsGl : Try.prog.cellsOf 29 = 7 := by kernel_rfl

section
variable {H : Type} {enc : TypeId × Value → H} {W : World} {base : Nat} {v : Value} {d : DataW H} {p : List MemPlace}

theorem field_slice {t e : TypeId} (ht : Try.prog.underlying t = some (.slice e)) {m : Nat} {c : Value} {y : DataW H × List MemPlace} (h : DataW.trod enc Try.prog W 0 (fun _ => true) true m t [c] = some y) :
    ∃ A n k, c = .slice A n k ∧ DataW.Trod enc Try.prog W 0 (fun _ => true) true t (.slice A n k) y.1 y.2 := by
  have hs : ∃ A n k, c = .slice A n k := by
    rcases DataW.trod_slice ht h with ⟨hcs, _⟩ | ⟨x, l, k, elems, rest, n, _, hcs, _⟩
    · simp at hcs; exact ⟨none, 0, 0, hcs⟩
    · simp at hcs; exact ⟨some x, l, k, hcs⟩
  obtain ⟨A, n, k, rfl⟩ := hs
  exact ⟨A, n, k, rfl, m, by simpa [Value.cells] using h⟩

theorem trod_sps {A : Option Addr} {len cap : Nat} (h : DataW.Trod enc Try.prog W 0 (fun _ => true) true 24 (.slice A len cap) d p) :
    ∃ l, RowS encSp 3 W A len l ∧ (∀ q ∈ l, Sp.ok q) ∧ len ≤ 9223372036854775807 ∧ len ≤ cap := by
  rcases open_sliceK Try.underlying24 Try.cellsSp h with ⟨rfl, rfl, rfl⟩ | ⟨x, rfl, hl, hm, hi⟩
  · exact ⟨[], RowS.empty _ _, (fun q hq => by cases hq), by omega, by omega⟩
  · obtain ⟨l, hll, hp⟩ := list_of (p := fun i (q : Sp) => Sp.ok q ∧ ∀ j u, (encSp q)[j]? = some u → W.cell? (x.add (i * 3 + j)) = some u) len (fun i hlt => by
      obtain ⟨cs, m, y, hcl, hc, ht⟩ := hi i hlt
      obtain ⟨q, rfl, hq⟩ := read_sp ht
      refine ⟨q, hq, fun j u hu => ?_⟩
      have hj : j < 3 := (List.getElem?_eq_some_iff.1 hu).1
      rw [hc j hj]
      exact hu)
    simp only [maxLen] at hm
    refine ⟨l, rowS_in encSp_len l hll (fun i y hy => (hp i y hy).2), fun q hq => ?_, by omega, hl⟩
    obtain ⟨i, hi2⟩ := List.mem_iff_getElem?.1 hq
    exact (hp i q hi2).1

theorem flat_u16 (l : List Int) : flat (fun q : Int => [Value.int .u16 q]) l = cellsOf .u16 l := by
  unfold flat cellsOf
  induction l with
  | nil => rfl
  | cons x l ih => rw [List.flatMap_cons, ih]; rfl
theorem trod_u16s {A : Option Addr} {len cap : Nat} (h : DataW.Trod enc Try.prog W 0 (fun _ => true) true 27 (.slice A len cap) d p) :
    ∃ l, Row W A len (cellsOf .u16 l) ∧ (∀ q ∈ l, 0 ≤ q ∧ q < 65536) ∧ len ≤ 9223372036854775807 ∧ len ≤ cap := by
  rcases open_sliceK Try.underlying27 Try.cellsU16 h with ⟨rfl, rfl, rfl⟩ | ⟨x, rfl, hl, hm, hi⟩
  · exact ⟨[], Row.empty _ _, (fun q hq => by cases hq), by omega, by omega⟩
  · obtain ⟨l, hll, hp⟩ := list_of (p := fun i (q : Int) => (0 ≤ q ∧ q < 65536) ∧ W.cell? (x.add i) = some (.int .u16 q)) len (fun i hlt => by
      obtain ⟨cs, m', y', hcl, hc, ht⟩ := hi i hlt
      have h0 := hc 0 (by omega)
      match cs, hcl with
      | [c0], _ =>
        obtain ⟨a, e, _, wa⟩ := DataW.trod_int Try.underlying54 ht
        simp at e
        subst e
        have := bounds_u16 wa
        refine ⟨a, by omega, ?_⟩
        simpa using h0)
    simp only [maxLen] at hm
    have hR := rowS_in (enc := fun q : Int => [Value.int .u16 q]) (k := 1) (fun _ => rfl) (w := W) (x := x) l hll (fun i q hq j u hu => by
      have hj : j = 0 := by have := (List.getElem?_eq_some_iff.1 hu).1; simp at this; omega
      subst hj
      simp at hu
      subst hu
      simpa using (hp i q hq).2)
    refine ⟨l, ?_, fun z hz => ?_, by omega, hl⟩
    · have h2 := hR.2
      rw [Nat.mul_one, show flat (fun q : Int => [Value.int .u16 q]) l = cellsOf .u16 l from flat_u16 l] at h2
      exact h2
    · obtain ⟨i, hi2⟩ := List.mem_iff_getElem?.1 hz
      exact (hp i z hi2).1

theorem flat_o8 (l : List Int) : flat (fun q : Int => [Value.int .u8 q]) l = cellsOf .u8 l := by
  unfold flat cellsOf
  induction l with
  | nil => rfl
  | cons x l ih => rw [List.flatMap_cons, ih]; rfl
theorem trod_o8s {A : Option Addr} {len cap : Nat} (h : DataW.Trod enc Try.prog W 0 (fun _ => true) true 25 (.slice A len cap) d p) :
    ∃ l, Row W A len (cellsOf .u8 l) ∧ (∀ q ∈ l, 0 ≤ q ∧ q ≤ 255) ∧ len ≤ 9223372036854775807 ∧ len ≤ cap := by
  rcases open_sliceK Try.underlying25 Try.cellsO1 h with ⟨rfl, rfl, rfl⟩ | ⟨x, rfl, hl, hm, hi⟩
  · exact ⟨[], Row.empty _ _, (fun q hq => by cases hq), by omega, by omega⟩
  · obtain ⟨l, hll, hp⟩ := list_of (p := fun i (q : Int) => (0 ≤ q ∧ q ≤ 255) ∧ W.cell? (x.add i) = some (.int .u8 q)) len (fun i hlt => by
      obtain ⟨cs, m', y', hcl, hc, ht⟩ := hi i hlt
      have h0 := hc 0 (by omega)
      match cs, hcl with
      | [c0], _ =>
        obtain ⟨a, e, _, wa⟩ := DataW.trod_int Try.underlying5 ht
        simp at e
        subst e
        have := bounds_u8 wa
        refine ⟨a, by omega, ?_⟩
        simpa using h0)
    simp only [maxLen] at hm
    have hR := rowS_in (enc := fun q : Int => [Value.int .u8 q]) (k := 1) (fun _ => rfl) (w := W) (x := x) l hll (fun i q hq j u hu => by
      have hj : j = 0 := by have := (List.getElem?_eq_some_iff.1 hu).1; simp at this; omega
      subst hj
      simp at hu
      subst hu
      simpa using (hp i q hq).2)
    refine ⟨l, ?_, fun z hz => ?_, by omega, hl⟩
    · have h2 := hR.2
      rw [Nat.mul_one, show flat (fun q : Int => [Value.int .u8 q]) l = cellsOf .u8 l from flat_o8 l] at h2
      exact h2
    · obtain ⟨i, hi2⟩ := List.mem_iff_getElem?.1 hz
      exact (hp i z hi2).1

set_option maxRecDepth 100000 in
theorem read_arr {m : Nat} {c0 c1 c2 c3 : Value} {y : DataW H × List MemPlace} (h : DataW.trod enc Try.prog W 0 (fun _ => true) true m 23 [c0, c1, c2, c3] = some y) :
    ∃ x0 x1 x2 x3, c0 = .int .i16 x0 ∧ c1 = .int .i16 x1 ∧ c2 = .int .i16 x2 ∧ c3 = .int .i16 x3 ∧ ∀ x ∈ [x0, x1, x2, x3], -32768 ≤ x ∧ x ≤ 32767 := by
  obtain ⟨ys, m, _, _, hcl, hyl, ha⟩ := DataW.trod_array Try.underlying23 h
  have key : ∀ i, i < 4 → ∀ c, ([c0, c1, c2, c3] : List Value)[i]? = some c → ∃ a, c = .int .i16 a ∧ -32768 ≤ a ∧ a ≤ 32767 := by
    intro i hi c hc
    have h2 := ha i hi
    rw [Try.cellsI16, Nat.mul_one, List.getElem?_eq_getElem (by omega)] at h2
    obtain ⟨hlt, hce⟩ := List.getElem?_eq_some_iff.1 hc
    rw [List.drop_eq_getElem_cons hlt, List.take_succ_cons, List.take_zero, hce] at h2
    exact read_i16 h2
  obtain ⟨a0, e0, b0⟩ := key 0 (by omega) c0 rfl
  obtain ⟨a1, e1, b1⟩ := key 1 (by omega) c1 rfl
  obtain ⟨a2, e2, b2⟩ := key 2 (by omega) c2 rfl
  obtain ⟨a3, e3, b3⟩ := key 3 (by omega) c3 rfl
  exact ⟨a0, a1, a2, a3, e0, e1, e2, e3, fun x hx => by simp at hx; rcases hx with rfl | rfl | rfl | rfl <;> assumption⟩

set_option maxRecDepth 100000 in
theorem open_gl (hv : Value.okWide Try.prog W .any base 29 v) (h : DataW.Trod enc Try.prog W 0 (fun _ => true) true 29 v d p) :
    ∃ g : GlV, v = g.val ∧ g.rows W ∧ g.g.ok ∧ g.en ≤ 9223372036854775807 ∧ g.pn ≤ 9223372036854775807 ∧ g.sn ≤ 9223372036854775807 ∧ g.en ≤ g.ec ∧ g.sn ≤ g.sc := by
  obtain ⟨fuel, hf⟩ := h
  obtain ⟨xs, n, _, _, hl, hxl, hfd⟩ := DataW.trod_struct Try.underlying29 hf
  rw [Try.cellsGl] at hl
  have hvv : ∃ cs, v = .agg cs := by
    cases v with
    | agg cs => exact ⟨cs, rfl⟩
    | _ => simp [Value.cells] at hl
  obtain ⟨⟨l⟩, rfl⟩ := hvv
  simp only [Value.cells] at hl hfd
  match l, hl with
  | [c0, c1, c2, c3, c4, c5, c6], _ =>
    match xs, hxl with
    | [y0, y1, y2, y3], _ =>
      have h0 := hfd 0 _ rfl
      have h1 := hfd 1 _ rfl
      have h2 := hfd 2 _ rfl
      have h3 := hfd 3 _ rfl
      simp [Try.cellsArr4, Try.cellsU16s, Try.cellsB1, Try.cellsSps] at h0 h1 h2 h3
      obtain ⟨b0, b1, b2, b3, e0, e1, e2, e3, hb⟩ := read_arr h0
      subst e0 e1 e2 e3
      obtain ⟨EA, en, ec, rfl, k1⟩ := field_slice Try.underlying27 h1
      obtain ⟨PA, pn, pc, rfl, k2⟩ := field_slice Try.underlying25 h2
      obtain ⟨SA, sn, sc, rfl, k3⟩ := field_slice Try.underlying24 h3
      obtain ⟨es, r1, o1, m1, q1⟩ := trod_u16s k1
      obtain ⟨pr, r2, o2, m2, q2⟩ := trod_o8s k2
      obtain ⟨ps, r3, o3, m3, q3⟩ := trod_sps k3
      exact ⟨⟨⟨b0, b1, b2, b3, es, pr, ps⟩, EA, en, ec, PA, pn, pc, SA, sn, sc⟩, rfl, ⟨r1, r2, r3⟩, ⟨hb, o1, o2, o3⟩, m1, m2, m3, q1, q3⟩
end
end Go.Proofs.Ytlcnonhebppeiaa
