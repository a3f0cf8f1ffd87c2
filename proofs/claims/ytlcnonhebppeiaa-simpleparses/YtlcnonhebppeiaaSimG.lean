/- The document's Parse of outlines: plain lists. -/
import Derived.Test.YtlcnonhebppeiaaSimV2
import Derived.Test.YtlcnonhebppeiaaSimO2
namespace Go.Proofs.Ytlcnonhebppeiaa
open Go.RowKit
set_option linter.unusedVariables false

/-- The points while only X is told, and while Y is being told. -/
def oMx (zs : List Int) (s : FS) (k : Nat) : List Sp := (List.range k).map fun i => ((pkAt zs 2 16 s.fl s.at_ (i + 1)).2, 0, fb (s.fl.getD i 0) 1)
def oMy (zs : List Int) (s : FS) (n k : Nat) : List Sp := (List.range n).map fun i => ((pkAt zs 2 16 s.fl s.at_ (i + 1)).2, (if i < k then (pkAt zs 4 32 s.fl (oXe zs s) (i + 1)).2 else 0), fb (s.fl.getD i 0) 1)
theorem oMx_len (zs : List Int) (s : FS) (k : Nat) : (oMx zs s k).length = k := by simp [oMx]
theorem oMy_len (zs : List Int) (s : FS) (n k : Nat) : (oMy zs s n k).length = n := by simp [oMy]
theorem oMx_succ (zs : List Int) (s : FS) (k : Nat) : oMx zs s (k + 1) = oMx zs s k ++ [((pkAt zs 2 16 s.fl s.at_ (k + 1)).2, 0, fb (s.fl.getD k 0) 1)] := by simp [oMx, List.range_succ]
theorem oMy_0 (zs : List Int) (s : FS) (n : Nat) : oMy zs s n 0 = oMx zs s n := by simp [oMy, oMx]
theorem oMy_all (zs : List Int) (s : FS) (n : Nat) : oMy zs s n n = oPs zs s n := by
  unfold oMy oPs
  apply List.map_congr_left
  intro i hi
  rw [if_pos (List.mem_range.1 hi)]
theorem oMy_get (zs : List Int) (s : FS) {n k i : Nat} (h : i < n) : (oMy zs s n k)[i]? = some ((pkAt zs 2 16 s.fl s.at_ (i + 1)).2, (if i < k then (pkAt zs 4 32 s.fl (oXe zs s) (i + 1)).2 else 0), fb (s.fl.getD i 0) 1) := by simp [oMy, h]
theorem oMy_set (zs : List Int) (s : FS) {n k : Nat} (h : k < n) : (oMy zs s n k).set k ((pkAt zs 2 16 s.fl s.at_ (k + 1)).2, (pkAt zs 4 32 s.fl (oXe zs s) (k + 1)).2, fb (s.fl.getD k 0) 1) = oMy zs s n (k + 1) := by
  apply List.ext_getElem?
  intro i
  by_cases hi : i < n
  · rw [oMy_get zs s hi]
    by_cases hk : i = k
    · subst hk
      rw [List.getElem?_set_self (by rw [oMy_len]; exact hi), if_pos (by omega)]
    · rw [List.getElem?_set_ne (fun e => hk e.symm), oMy_get zs s hi]
      by_cases h2 : i < k
      · rw [if_pos h2, if_pos (by omega)]
      · rw [if_neg h2, if_neg (by omega)]
  · rw [List.getElem?_eq_none (by rw [List.length_set, oMy_len]; omega), List.getElem?_eq_none (by rw [oMy_len]; omega)]

theorem oSome {zs : List Int} (h : oParse zs ≠ none) : ∃ s, oGood zs s ∧ oEnd zs s ≤ zs.length := by
  cases hp : oParse zs with
  | none => exact absurd hp h
  | some p =>
    obtain ⟨g, a⟩ := p
    obtain ⟨s, h1, h2, _⟩ := oParse_inv hp
    exact ⟨s, h1, h2⟩
theorem oNo {zs : List Int} (h : ∀ s, oGood zs s → oEnd zs s ≤ zs.length → False) : oParse zs = none := by
  cases hp : oParse zs with
  | none => rfl
  | some p =>
    obtain ⟨s, h1, h2⟩ := oSome (zs := zs) (by rw [hp]; intro e; cases e)
    exact absurd h2 (fun h2 => h s h1 h2)
theorem oGood_at {zs : List Int} {s : FS} (h : oGood zs s) : oA zs (n2at zs 0).toNat ≤ s.at_ ∧ s.fl.length = cntE (oEs zs (n2at zs 0).toNat) := by
  have h3 := h.2.2.1
  unfold oFs at h3
  obtain ⟨h4, h5⟩ := fAll_some _ _ _ (Nat.sub_le _ _) (Nat.zero_le _) h3
  exact ⟨h5, h4⟩
theorem oNo_at {zs : List Int} (h : zs.length < oA zs (n2at zs 0).toNat) : oParse zs = none := oNo fun s hs he => by
  have h1 := (oGood_at hs).1
  have h2 := oXe_le zs s
  omega
theorem oNo_len {zs : List Int} (h : 32767 < n2at zs 0 ∨ zs.length < 12 + 2 * (n2at zs 0).toNat) : oParse zs = none := by
  rcases h with h | h
  · exact oNo fun s hs _ => by have := hs.1; omega
  · exact oNo_at (by unfold oA; omega)
theorem oNo_rise {zs : List Int} (h : riseN (oEs zs (n2at zs 0).toNat) (n2at zs 0).toNat = false) : oParse zs = none := oNo fun s hs _ => by
  have := hs.2.1
  rw [h] at this
  cases this
theorem oNo_flags {zs : List Int} (h : oFs zs (n2at zs 0).toNat = none) : oParse zs = none := oNo fun s hs _ => by
  have := hs.2.2.1
  rw [h] at this
  cases this
theorem fAll_past {zs : List Int} {n : Nat} {s t : FS} (h : s.fl.length < n) (ht : fAll zs n s = some t) : s.at_ + fSize zs s.at_ ≤ t.at_ := by
  cases hk : fOk zs n s with
  | false => rw [fAll_not h hk] at ht; cases ht
  | true =>
    have h2 := ht
    rw [fAll_step h hk] at h2
    have h3 : (fNext zs s).fl.length ≤ n := by
      rw [fNext_len]
      unfold fOk at hk
      simp at hk
      omega
    exact (fAll_some _ _ _ (Nat.sub_le _ _) h3 h2).2
theorem oNo_past {zs : List Int} {s : FS} (h : fAll zs (cntE (oEs zs (n2at zs 0).toNat)) s = oFs zs (n2at zs 0).toNat) (hl : s.fl.length < cntE (oEs zs (n2at zs 0).toNat)) (he : zs.length < s.at_ + fSize zs s.at_) : oParse zs = none := oNo fun t ht h2 => by
  have h3 := ht.2.2.1
  rw [← h] at h3
  have h4 := fAll_past hl h3
  have h5 := oXe_le zs t
  omega
theorem fSize_pos (zs : List Int) (i : Nat) : 1 ≤ fSize zs i := by unfold fSize; split <;> omega
theorem oNo_xs {zs : List Int} {s : FS} (h : oFs zs (n2at zs 0).toNat = some s) {k : Nat} (hk : k < s.fl.length) (hb : fitsB (pkAt zs 2 16 s.fl s.at_ (k + 1)).2 = false ∨ zs.length < (pkAt zs 2 16 s.fl s.at_ (k + 1)).1) : oParse zs = none := oNo fun t ht he => by
  have h3 := ht.2.2.1
  rw [h] at h3
  obtain rfl : s = t := Option.some.inj h3
  have h4 := ht.2.2.2
  unfold oPk at h4
  simp only [Bool.and_eq_true] at h4
  rcases hb with hb | hb
  · rw [pkOk_not hb hk] at h4
    cases h4.1
  · have h5 := pkAt_mono (zs := zs) (sh := 2) (pl := 16) (fl := s.fl) (a := s.at_) (k + 1) (s.fl.length - (k + 1))
    rw [show k + 1 + (s.fl.length - (k + 1)) = s.fl.length by omega] at h5
    have h6 := (oXe_le zs s).2
    unfold oXe at h6
    omega
theorem oNo_ys {zs : List Int} {s : FS} (h : oFs zs (n2at zs 0).toNat = some s) {k : Nat} (hk : k < s.fl.length) (hb : fitsB (pkAt zs 4 32 s.fl (oXe zs s) (k + 1)).2 = false ∨ zs.length < (pkAt zs 4 32 s.fl (oXe zs s) (k + 1)).1) : oParse zs = none := oNo fun t ht he => by
  have h3 := ht.2.2.1
  rw [h] at h3
  obtain rfl : s = t := Option.some.inj h3
  have h4 := ht.2.2.2
  unfold oPk at h4
  simp only [Bool.and_eq_true] at h4
  rcases hb with hb | hb
  · rw [pkOk_not hb hk] at h4
    cases h4.2
  · have h5 := pkAt_mono (zs := zs) (sh := 4) (pl := 32) (fl := s.fl) (a := oXe zs s) (k + 1) (s.fl.length - (k + 1))
    rw [show k + 1 + (s.fl.length - (k + 1)) = s.fl.length by omega] at h5
    unfold oEnd at he
    omega
theorem oYes {zs : List Int} {s : FS} (h0 : n2at zs 0 ≤ 32767) (h1 : riseN (oEs zs (n2at zs 0).toNat) (n2at zs 0).toNat = true) (h2 : oFs zs (n2at zs 0).toNat = some s) (h3 : pkOk zs 2 16 s.fl s.at_ s.fl.length = true) (h4 : pkOk zs 4 32 s.fl (oXe zs s) s.fl.length = true) (he : oEnd zs s ≤ zs.length) :
    oParse zs = some (oGl zs (n2at zs 0).toNat s, oEnd zs s) := by
  have hg : oGood zs s := ⟨h0, h1, h2, by unfold oPk; rw [h3, h4]; rfl⟩
  rw [oParse_some hg he, oTold_eq hg he]

end Go.Proofs.Ytlcnonhebppeiaa
