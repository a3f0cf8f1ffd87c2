/- simple: more bytes behind an outline say nothing; of fewer there is none: plain lists. -/
import Derived.Test.YtlcnonhebppeiaaSimV
namespace Go.Proofs.Ytlcnonhebppeiaa
open Go.RowKit
set_option linter.unusedVariables false

theorem oParse_inv {zs : List Int} {g : Gl} {a : Nat} (h : oParse zs = some (g, a)) : ∃ s, oGood zs s ∧ oEnd zs s ≤ zs.length ∧ g = oTold zs s ∧ a = oEnd zs s := by
  by_cases hex : ∃ s, oGood zs s
  · obtain ⟨s, hs⟩ := hex
    by_cases he : oEnd zs s ≤ zs.length
    · rw [oParse_some hs he] at h
      cases h
      exact ⟨s, hs, he, rfl, rfl⟩
    · rw [oParse_no2 hs (by omega)] at h
      cases h
  · rw [oParse_no1 (fun s hs => hex ⟨s, hs⟩)] at h
    cases h

section
variable {zs ms : List Int}
theorem told_ext {i m : Nat} (h : i + m ≤ zs.length) : told ((zs ++ ms).drop i) m = told (zs.drop i) m := by
  unfold told
  rw [if_pos (by rw [List.length_drop, List.length_append]; omega), if_pos (by rw [List.length_drop]; omega), List.drop_append_of_le_length (by omega), List.take_append_of_le_length (by rw [List.length_drop]; omega)]
theorem n1at_ext {i : Nat} (h : i + 1 ≤ zs.length) : n1at (zs ++ ms) i = n1at zs i := by unfold n1at num; rw [told_ext h]
theorem n2at_ext {i : Nat} (h : i + 2 ≤ zs.length) : n2at (zs ++ ms) i = n2at zs i := by unfold n2at num; rw [told_ext h]

theorem fMore_ext {i : Nat} (h : i + fSize zs i ≤ zs.length) : fMore (zs ++ ms) i = fMore zs i ∧ fSize (zs ++ ms) i = fSize zs i ∧ n1at (zs ++ ms) i = n1at zs i := by
  have h1 : 1 ≤ fSize zs i := by unfold fSize; split <;> omega
  have e1 : n1at (zs ++ ms) i = n1at zs i := n1at_ext (by omega)
  refine ⟨?_, by unfold fSize; rw [e1], e1⟩
  unfold fMore
  rw [e1]
  unfold fSize at h
  split
  · rename_i h8
    rw [if_pos h8] at h
    rw [n1at_ext (by omega)]
  · rfl
theorem fAll_ext {n : Nat} : ∀ (k : Nat) (s t : FS), n - s.fl.length ≤ k → fAll zs n s = some t → s.fl.length ≤ n → t.at_ ≤ zs.length → fAll (zs ++ ms) n s = some t := by
  intro k
  induction k with
  | zero =>
    intro s t h ht hs hl
    rw [fAll_done (by omega)] at ht ⊢
    exact ht
  | succ k ih =>
    intro s t h ht hs hl
    by_cases hlt : s.fl.length < n
    · cases hk : fOk zs n s with
      | false => rw [fAll_not hlt hk] at ht; cases ht
      | true =>
        rw [fAll_step hlt hk] at ht
        have hz := fNext_len zs s
        have hle : s.fl.length + 1 + fMore zs s.at_ ≤ n := by unfold fOk at hk; simp at hk; omega
        have hat := (fAll_some n (fNext zs s) t (Nat.sub_le _ _) (by omega) ht).2
        obtain ⟨e1, e2, e3⟩ := fMore_ext (zs := zs) (ms := ms) (i := s.at_) (by show s.at_ + fSize zs s.at_ ≤ _; exact Nat.le_trans hat hl)
        have hn : fNext (zs ++ ms) s = fNext zs s := by unfold fNext; rw [e1, e2, e3]
        have hk2 : fOk (zs ++ ms) n s = true := by unfold fOk at hk ⊢; rw [e1, e3]; exact hk
        rw [fAll_step hlt hk2, hn]
        exact ih _ _ (by omega) ht (by omega) hl
    · rw [fAll_done (by omega)] at ht ⊢
      exact ht
theorem cv_ext {sh pl f : Int} {i : Nat} (h : i + cw sh pl f ≤ zs.length) : cv (zs ++ ms) sh pl f i = cv zs sh pl f i := by
  unfold cw at h
  unfold cv
  by_cases h1 : fb f sh = true
  · rw [if_pos h1] at h
    rw [if_pos h1, if_pos h1, n1at_ext h]
  · rw [if_neg h1] at h
    rw [if_neg h1, if_neg h1]
    by_cases h2 : fb f pl = true
    · rw [if_pos h2, if_pos h2]
    · rw [if_neg h2] at h
      rw [if_neg h2, if_neg h2, n2at_ext h]
theorem pkAt_ext {sh pl : Int} {fl : List Int} {a : Nat} : ∀ k, (pkAt zs sh pl fl a k).1 ≤ zs.length → pkAt (zs ++ ms) sh pl fl a k = pkAt zs sh pl fl a k := by
  intro k
  induction k with
  | zero => intro _; rfl
  | succ k ih =>
    intro h
    have h1 : (pkAt zs sh pl fl a k).1 + cw sh pl (fl.getD k 0) ≤ zs.length := h
    have e := ih (by omega)
    unfold pkAt
    rw [e, cv_ext h1]
theorem pk_all {sh pl : Int} {fl : List Int} {a n : Nat} (h : (pkAt zs sh pl fl a n).1 ≤ zs.length) : ∀ k, k ≤ n → pkAt (zs ++ ms) sh pl fl a k = pkAt zs sh pl fl a k := fun k hk => pkAt_ext k (by
  have := pkAt_mono (zs := zs) (sh := sh) (pl := pl) (fl := fl) (a := a) k (n - k)
  rw [show k + (n - k) = n by omega] at this
  omega)
theorem pkOk_ext {sh pl : Int} {fl : List Int} {a n : Nat} (h : (pkAt zs sh pl fl a n).1 ≤ zs.length) : pkOk (zs ++ ms) sh pl fl a n = pkOk zs sh pl fl a n := by
  unfold pkOk
  rw [Bool.eq_iff_iff, List.all_eq_true, List.all_eq_true]
  constructor
  · intro h2 i hi
    have := h2 i hi
    rwa [pk_all h (i + 1) (by have := List.mem_range.1 hi; omega)] at this
  · intro h2 i hi
    rw [pk_all h (i + 1) (by have := List.mem_range.1 hi; omega)]
    exact h2 i hi

/-- More bytes behind say nothing. -/
theorem oParse_ext {g : Gl} {a : Nat} (h : oParse zs = some (g, a)) : oParse (zs ++ ms) = some (g, a) ∧ a ≤ zs.length := by
  obtain ⟨s, hs, he, rfl, rfl⟩ := oParse_inv h
  refine ⟨?_, he⟩
  obtain ⟨g1, g2, g3, g4⟩ := hs
  have h3 := g3
  unfold oFs at h3
  obtain ⟨h4, h5⟩ := fAll_some _ _ _ (Nat.sub_le _ _) (Nat.zero_le _) h3
  obtain ⟨h6, h7⟩ := oXe_le zs s
  simp only at h5
  have hA : 12 + 2 * (n2at zs 0).toNat + oSz zs (n2at zs 0).toNat ≤ zs.length := by have : oA zs (n2at zs 0).toNat = 12 + 2 * (n2at zs 0).toNat + oSz zs (n2at zs 0).toNat := rfl; omega
  have e0 : n2at (zs ++ ms) 0 = n2at zs 0 := n2at_ext (by omega)
  have eE : oEs (zs ++ ms) (n2at zs 0).toNat = oEs zs (n2at zs 0).toNat := by
    unfold oEs
    apply List.map_congr_left
    intro i hi
    exact n2at_ext (by have := List.mem_range.1 hi; omega)
  have eS : oSz (zs ++ ms) (n2at zs 0).toNat = oSz zs (n2at zs 0).toNat := by unfold oSz; rw [n2at_ext (by omega)]
  have eA : oA (zs ++ ms) (n2at zs 0).toNat = oA zs (n2at zs 0).toNat := by unfold oA; rw [eS]
  have eF : oFs (zs ++ ms) (n2at zs 0).toNat = some s := by
    unfold oFs
    rw [eE, eA]
    exact fAll_ext _ _ _ (Nat.sub_le _ _) h3 (Nat.zero_le _) (by omega)
  have eX : ∀ k, k ≤ s.fl.length → pkAt (zs ++ ms) 2 16 s.fl s.at_ k = pkAt zs 2 16 s.fl s.at_ k := pk_all (by show oXe zs s ≤ _; omega)
  have eXe : oXe (zs ++ ms) s = oXe zs s := by unfold oXe; rw [eX _ (Nat.le_refl _)]
  have eY : ∀ k, k ≤ s.fl.length → pkAt (zs ++ ms) 4 32 s.fl (oXe zs s) k = pkAt zs 4 32 s.fl (oXe zs s) k := pk_all (by show oEnd zs s ≤ _; omega)
  have eEn : oEnd (zs ++ ms) s = oEnd zs s := by unfold oEnd; rw [eXe, eY _ (Nat.le_refl _)]
  have ePk : oPk (zs ++ ms) s = true := by
    unfold oPk at g4 ⊢
    rw [eXe, pkOk_ext (by show oXe zs s ≤ _; omega), pkOk_ext (by show oEnd zs s ≤ _; omega)]
    exact g4
  have hgood : oGood (zs ++ ms) s := ⟨by omega, by rw [e0, eE]; exact g2, by rw [e0]; exact eF, ePk⟩
  rw [oParse_some hgood (by rw [eEn, List.length_append]; omega), eEn]
  congr 1
  congr 1
  unfold oTold
  rw [e0, eE, eS, n2at_ext (by omega), n2at_ext (by omega), n2at_ext (by omega), n2at_ext (by omega), told_ext (by omega)]
  congr 1
  unfold oPs
  apply List.map_congr_left
  intro i hi
  have hi2 : i < s.fl.length := by rw [h4]; exact List.mem_range.1 hi
  rw [eX (i + 1) (by omega), eXe, eY (i + 1) (by omega)]
end

/-- Of fewer bytes there is no outline. -/
theorem oParse_cut {zs : List Int} {g : Gl} (h : oParse zs = some (g, zs.length)) {k : Nat} (hk : k < zs.length) : oParse (zs.take k) = none := by
  cases hc : oParse (zs.take k) with
  | none => rfl
  | some p =>
    obtain ⟨g2, a⟩ := p
    obtain ⟨h1, h2⟩ := oParse_ext (ms := zs.drop k) hc
    rw [List.take_append_drop, h] at h1
    simp only [Option.some.injEq, Prod.mk.injEq] at h1
    rw [List.length_take] at h2
    omega

end Go.Proofs.Ytlcnonhebppeiaa
