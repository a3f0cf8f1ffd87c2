/- Tables that come in. -/
import Derived.Test.YtlkidnacfljpkaaTab
import Derived.Lib.SmallJoins
import Derived.ChangeSame
import Derived.OpenShut
import Derived.ShutString
import Derived.ChangeOld
namespace Go.Proofs.Ytlkidnacfljpkaa
open Go.RowKit Go.Joins Go.ChangeShapes Go.WideShapes
set_option linter.unusedVariables false

theorem Try.cellsTab : Try.prog.cellsOf 30 = 2 := by kernel_rfl
theorem Try.cellsStr : Try.prog.cellsOf 9 = 1 := by kernel_rfl
theorem Try.cellsBs : Try.prog.cellsOf 27 = 1 := by kernel_rfl
theorem Try.cellsU8 : Try.prog.cellsOf 5 = 1 := by kernel_rfl

theorem flat_ints (l : List Int) : flat (fun q : Int => [Value.int .u8 q]) l = cellsOf .u8 l := by
  unfold flat cellsOf
  induction l with
  | nil => rfl
  | cons x l ih => rw [List.flatMap_cons, ih]; rfl

section
variable {H : Type} {enc : TypeId × Value → H} {W : World} {base : Nat} {v : Value} {d : DataW H} {p : List MemPlace}

/-- Bytes behind a slice that is a field. -/
theorem read_bs {m : Nat} {c : Value} {y : DataW H × List MemPlace} (h : DataW.trod enc Try.prog W 0 (fun _ => true) true m 27 [c] = some y) :
    ∃ A n k zs, c = .slice A n k ∧ Row W A n (cellsOf .u8 zs) ∧ Bytes zs ∧ n ≤ 9223372036854775807 := by
  have hs : ∃ A n k, c = .slice A n k := by
    rcases DataW.trod_slice Try.underlying27 h with ⟨hcs, _⟩ | ⟨x, l, k, elems, rest, n, _, hcs, _⟩
    · simp at hcs; exact ⟨none, 0, 0, hcs⟩
    · simp at hcs; exact ⟨some x, l, k, hcs⟩
  obtain ⟨A, n, k, rfl⟩ := hs
  rcases open_sliceK (P := Try.prog) (enc := enc) (w := W) (d := y.1) (p := y.2) Try.underlying27 Try.cellsU8 ⟨m, by simpa [Value.cells] using h⟩ with ⟨rfl, rfl, rfl⟩ | ⟨x, rfl, hl, hm, hi⟩
  · exact ⟨none, 0, 0, [], rfl, Row.empty _ _, (fun z hz => by cases hz), by omega⟩
  · obtain ⟨l, hll, hp⟩ := list_of (p := fun i (q : Int) => (0 ≤ q ∧ q ≤ 255) ∧ W.cell? (x.add i) = some (.int .u8 q)) n (fun i hlt => by
      obtain ⟨cs, m', y', hcl, hc, ht⟩ := hi i hlt
      have h0 := hc 0 (by omega)
      match cs, hcl with
      | [c0], _ =>
        obtain ⟨a, e, _, wa⟩ := DataW.trod_int Try.underlying5 ht
        simp at e
        subst e
        have := bounds_u8 wa
        refine ⟨a, this, ?_⟩
        simpa using h0)
    simp only [maxLen] at hm
    have hR := rowS_in (enc := fun q : Int => [Value.int .u8 q]) (k := 1) (fun _ => rfl) (w := W) (x := x) l hll (fun i q hq j u hu => by
      have hj : j = 0 := by have := (List.getElem?_eq_some_iff.1 hu).1; simp at this; omega
      subst hj
      simp at hu
      subst hu
      simpa using (hp i q hq).2)
    refine ⟨some x, n, k, l, rfl, ?_, fun z hz => ?_, by omega⟩
    · have h2 := hR.2
      rw [Nat.mul_one, show flat (fun q : Int => [Value.int .u8 q]) l = cellsOf .u8 l from flat_ints l] at h2
      exact h2
    · obtain ⟨i, hi2⟩ := List.mem_iff_getElem?.1 hz
      exact (hp i z hi2).1

set_option maxRecDepth 100000 in
theorem read_tab {m : Nat} {cs : List Value} {y : DataW H × List MemPlace} (h : DataW.trod enc Try.prog W 0 (fun _ => true) true m 30 cs = some y) :
    ∃ t : Tab, cs = encT t ∧ Row W t.A t.n (cellsOf .u8 t.zs) ∧ Bytes t.zs ∧ t.n ≤ 9223372036854775807 := by
  obtain ⟨xs, n, _, _, hl, hxl, hf⟩ := DataW.trod_struct Try.underlying30 h
  rw [Try.cellsTab] at hl
  match cs, hl with
  | [c0, c1], _ =>
    match xs, hxl with
    | [y0, y1], _ =>
      have h0 := hf 0 _ rfl
      have h1 := hf 1 _ rfl
      simp [Try.cellsStr, Try.cellsBs] at h0 h1
      obtain ⟨s, e0, _⟩ := DataW.trod_string Try.underlying9 h0
      simp at e0
      subst e0
      obtain ⟨A, n, k, zs, rfl, h2, h3, h4⟩ := read_bs h1
      exact ⟨⟨s, A, n, k, zs⟩, rfl, h2, h3, h4⟩

set_option maxRecDepth 100000 in
theorem open_tabs (hv : Value.okWide Try.prog W .any base 22 v) (h : DataW.Trod enc Try.prog W 0 (fun _ => true) true 22 v d p) :
    ∃ A len cap l, v = .slice A len cap ∧ RowS encT 2 W A len l ∧ (∀ t ∈ l, Row W t.A t.n (cellsOf .u8 t.zs) ∧ Bytes t.zs ∧ t.n ≤ 9223372036854775807) ∧ len ≤ 9223372036854775807 := by
  obtain ⟨a, len, cap, rfl⟩ := okWide_slice Try.underlying22 hv
  refine ⟨a, len, cap, ?_⟩
  rcases open_sliceK Try.underlying22 Try.cellsTab h with ⟨rfl, rfl, rfl⟩ | ⟨x, rfl, hl, hm, hi⟩
  · exact ⟨[], rfl, RowS.empty _ _, (fun t ht => by cases ht), by omega⟩
  · obtain ⟨l, hll, hp⟩ := list_of (p := fun i (q : Tab) => (Row W q.A q.n (cellsOf .u8 q.zs) ∧ Bytes q.zs ∧ q.n ≤ 9223372036854775807) ∧ ∀ j u, (encT q)[j]? = some u → W.cell? (x.add (i * 2 + j)) = some u) len (fun i hlt => by
      obtain ⟨cs, m, y, hcl, hc, ht⟩ := hi i hlt
      obtain ⟨q, rfl, hq⟩ := read_tab ht
      refine ⟨q, hq, fun j u hu => ?_⟩
      have hj : j < 2 := (List.getElem?_eq_some_iff.1 hu).1
      rw [hc j hj]
      exact hu)
    simp only [maxLen] at hm
    refine ⟨l, rfl, rowS_in encT_len l hll (fun i y hy => (hp i y hy).2), fun t ht => ?_, by omega⟩
    obtain ⟨i, hi2⟩ := List.mem_iff_getElem?.1 ht
    exact (hp i t hi2).1
end

end Go.Proofs.Ytlkidnacfljpkaa
