/- What is told of an outline fits. -/
import Derived.Test.YtlcnonhebppeiaaSimV2
namespace Go.Proofs.Ytlcnonhebppeiaa
open Go.RowKit
set_option linter.unusedVariables false

theorem oParse_ok {zs : List Int} (hB : Bytes zs) {g : Gl} {a : Nat} (h : oParse zs = some (g, a)) : g.ok ∧ g.es.length ≤ 1000000 ∧ g.pr.length ≤ 1000000 ∧ g.ps.length ≤ 1000000 := by
  obtain ⟨s, hg, he, rfl, rfl⟩ := oParse_inv h
  have hg2 := hg
  rw [oTold_eq hg he]
  obtain ⟨h1, h2, h3, h4⟩ := hg
  unfold oPk at h4
  simp only [Bool.and_eq_true] at h4
  have hl : s.fl.length = cntE (oEs zs (n2at zs 0).toNat) := by
    unfold oFs at h3
    exact (fAll_some _ _ _ (Nat.sub_le _ _) (Nat.zero_le _) h3).1
  have hc := cntE_le (oEs_bd hB (n2at zs 0).toNat)
  have hz := n2at_lt hB 0
  have hsg : ∀ i, -32768 ≤ sgn (n2at zs i) ∧ sgn (n2at zs i) ≤ 32767 := fun i => sgn_bd (n2at_lt hB i).1 (n2at_lt hB i).2
  refine ⟨⟨?_, oEs_bd hB _, ?_, ?_⟩, ?_, ?_, ?_⟩
  · intro x hx
    simp only [Gl.box, oGl, List.mem_cons, List.not_mem_nil, or_false] at hx
    rcases hx with rfl | rfl | rfl | rfl <;> exact hsg _
  · intro x hx
    exact hB x (List.mem_of_mem_drop (List.mem_of_mem_take hx))
  · intro p hp
    simp only [oGl, oPs, List.mem_map, List.mem_range] at hp
    obtain ⟨i, hi, rfl⟩ := hp
    exact ⟨pkOk_at h4.1 (by omega), pkOk_at h4.2 (by omega)⟩
  · show (oEs zs _).length ≤ _
    rw [oEs_len]
    omega
  · show ((zs.drop _).take _).length ≤ _
    rw [List.length_take]
    have : oSz zs (n2at zs 0).toNat < 65536 := by
      unfold oSz
      have := n2at_lt hB (10 + 2 * (n2at zs 0).toNat)
      omega
    omega
  · show (oPs zs s _).length ≤ _
    rw [oPs_len]
    omega

end Go.Proofs.Ytlcnonhebppeiaa
