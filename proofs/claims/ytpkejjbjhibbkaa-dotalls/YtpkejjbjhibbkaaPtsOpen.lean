/- A slice of points that comes in. -/
import Derived.Test.YtpkejjbjhibbkaaDotAll
import Derived.Test.YtpkejjbjhibbkaaDotOpen
namespace Go.Proofs.Ytpkejjbjhibbkaa
open Go.RowKit Go.Joins Go.ChangeShapes Go.WideShapes
set_option linter.unusedVariables false

section
variable {H : Type} {enc : TypeId × Value → H} {W : World} {base : Nat} {v : Value} {d : DataW H} {p : List MemPlace}

set_option maxRecDepth 100000 in
theorem read_pt {m : Nat} {cs : List Value} {y : DataW H × List MemPlace} (h : DataW.trod enc Try.prog W 0 (fun _ => true) true m 65 cs = some y) : ∃ p : Pt, cs = encPt p := by
  obtain ⟨xs, n, _, _, hl, hxl, hf⟩ := DataW.trod_struct Try.underlying65 h
  rw [Try.cellsPt] at hl
  match cs, hl with
  | [c0, c1, c2], _ =>
    match xs, hxl with
    | [y0, y1, y2], _ =>
      have h0 := hf 0 _ rfl
      have h1 := hf 1 _ rfl
      have h2 := hf 2 _ rfl
      simp [Try.cells1i, Try.cells1b] at h0 h1 h2
      obtain ⟨a, e0, _⟩ := DataW.trod_int Try.underlying3 h0
      obtain ⟨b, e1, _⟩ := DataW.trod_int Try.underlying3 h1
      obtain ⟨o, e2, _⟩ := DataW.trod_bool Try.underlying4 h2
      simp at e0 e1 e2
      subst e0 e1 e2
      exact ⟨(a, b, o), rfl⟩

set_option maxRecDepth 100000 in
theorem open_pts (hv : Value.okWide Try.prog W .any base 75 v) (h : DataW.Trod enc Try.prog W 0 (fun _ => true) true 75 v d p) :
    ∃ A len cap l, v = .slice A len cap ∧ RowS encPt 3 W A len l ∧ len ≤ 9223372036854775807 := by
  obtain ⟨a, len, cap, rfl⟩ := okWide_slice Try.underlying75 hv
  refine ⟨a, len, cap, ?_⟩
  rcases open_sliceK Try.underlying75 Try.cellsPt h with ⟨rfl, rfl, rfl⟩ | ⟨x, rfl, hl, hm, hi⟩
  · exact ⟨[], rfl, RowS.empty _ _, by omega⟩
  · obtain ⟨l, hll, hp⟩ := list_of (p := fun i (q : Pt) => ∀ j u, (encPt q)[j]? = some u → W.cell? (x.add (i * 3 + j)) = some u) len (fun i hlt => by
      obtain ⟨cs, m, y, hcl, hc, ht⟩ := hi i hlt
      obtain ⟨q, rfl⟩ := read_pt ht
      refine ⟨q, fun j u hu => ?_⟩
      have hj : j < 3 := (List.getElem?_eq_some_iff.1 hu).1
      rw [hc j hj]
      exact hu)
    simp only [maxLen] at hm
    exact ⟨l, rfl, rowS_in encPt_len l hll hp, by omega⟩
end

end Go.Proofs.Ytpkejjbjhibbkaa
