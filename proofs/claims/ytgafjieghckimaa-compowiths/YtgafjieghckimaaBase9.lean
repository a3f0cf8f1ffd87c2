/- What the laws of this seat lean on: ComV2 ComI DotOpen LComKh LComK0. -/
import Derived.Lib.MinMax
import Derived.Lib.SmallJoins
import Derived.ChangeSame
import Derived.Test.YtgafjieghckimaaBase1
import Derived.Test.YtgafjieghckimaaBase2
import Derived.Test.YtgafjieghckimaaBase4
import Derived.Test.YtgafjieghckimaaBase7
import Derived.Test.YtgafjieghckimaaBase8

/- compo: of more bytes the same is read, of fewer there is nothing; what is read is written again: plain lists. -/
namespace Go.Proofs.Ytgafjieghckimaa
open Go.RowKit
set_option linter.unusedVariables false

theorem pSz_pos (k : Int) (wd : Bool) : 6 ≤ pSz k wd := by unfold pSz; split <;> omega
theorem pLoop_mono (zs : List Int) : ∀ (n : Nat) (s : PS), s.at_ ≤ (pLoop zs n s).at_
  | 0, s => Nat.le_refl _
  | n + 1, s => by
    unfold pLoop
    split
    · have := pLoop_mono zs n (pNext zs s)
      have h2 : s.at_ ≤ (pNext zs s).at_ := by unfold pNext; simp only; omega
      omega
    · exact Nat.le_refl _

section
variable {zs ms : List Int}
theorem mA_ext {k : Int} {j : Nat} (h : j + mSz k ≤ zs.length) : mA (zs ++ ms) k j = mA zs k j := by
  unfold mSz at h
  unfold mA
  by_cases h8 : k = 8
  · rw [if_pos h8] at h
    rw [if_pos h8, if_pos h8, n2at_ext (by omega)]
  · rw [if_neg h8] at h
    rw [if_neg h8, if_neg h8]
    by_cases h64 : k = 64
    · rw [if_pos h64] at h
      rw [if_pos h64, if_pos h64, n2at_ext (by omega), n2at_ext (by omega)]
    · rw [if_neg h64] at h
      rw [if_neg h64, if_neg h64]
      by_cases h128 : k = 128
      · rw [if_pos h128] at h
        rw [if_pos h128, if_pos h128, n2at_ext (by omega), n2at_ext (by omega), n2at_ext (by omega), n2at_ext (by omega)]
      · rw [if_neg h128, if_neg h128]
theorem rdP_ext {f k : Int} {wd : Bool} {i : Nat} (h : i + pSz k wd ≤ zs.length) : rdP (zs ++ ms) f k wd i = rdP zs f k wd i := by
  unfold pSz at h
  have hm : (i + 4 + if wd = true then 4 else 2) + mSz k ≤ zs.length := by cases wd <;> simp at h ⊢ <;> omega
  unfold rdP
  rw [mA_ext hm, n2at_ext (by omega)]
  cases wd
  · simp only [Bool.false_eq_true, if_false] at h ⊢
    rw [n1at_ext (by omega), n1at_ext (by omega)]
  · simp only [if_true] at h ⊢
    rw [n2at_ext (by omega), n2at_ext (by omega)]
theorem pNext_ext {s : PS} (h : (pNext zs s).at_ ≤ zs.length) : pNext (zs ++ ms) s = pNext zs s := by
  unfold pNext at *
  simp only at h
  have := pSz_pos (knd (n2at zs s.at_)) (fb (n2at zs s.at_) 1)
  rw [n2at_ext (by omega), rdP_ext h]
theorem pLoop_ext : ∀ (n : Nat) (s : PS), (pLoop zs n s).at_ ≤ zs.length → pLoop (zs ++ ms) n s = pLoop zs n s
  | 0, s, _ => rfl
  | n + 1, s, h => by
    by_cases hg : s.go = true
    · rw [pLoop_step hg (by omega)] at h ⊢
      rw [pLoop_step hg (by omega)]
      have h1 := pLoop_mono zs (n + 1 - 1) (pNext zs s)
      rw [pNext_ext (by omega)]
      exact pLoop_ext n _ h
    · rw [pLoop_end (.inl (by simpa using hg)), pLoop_end (.inl (by simpa using hg))]
theorem cgRd_ext {i : Nat} (h : cgEnd zs i ≤ zs.length) : cgRd (zs ++ ms) i = cgRd zs i ∧ cgEnd (zs ++ ms) i = cgEnd zs i := by
  have hle : (pAll zs (i + 8)).at_ ≤ zs.length := by
    unfold cgEnd at h
    split at h <;> omega
  have hi : i + 8 ≤ (pAll zs (i + 8)).at_ := pLoop_mono zs 201 ⟨[], i + 8, true⟩
  have e : pAll (zs ++ ms) (i + 8) = pAll zs (i + 8) := pLoop_ext _ _ hle
  unfold cgRd cgEnd at *
  rw [e, n2at_ext (by omega), n2at_ext (by omega), n2at_ext (by omega), n2at_ext (by omega)]
  cases hc : codeB (pAll zs (i + 8)).ps
  · simp only [Bool.false_eq_true, if_false, and_self]
  · rw [hc] at h
    simp only [if_true] at h ⊢
    rw [n2at_ext (by omega), told_ext (by omega)]
    exact ⟨rfl, rfl⟩
theorem cOk_ext (h : cOk zs = true) : cOk (zs ++ ms) = true ∧ cgRd (zs ++ ms) 2 = cgRd zs 2 ∧ cgEnd (zs ++ ms) 2 = cgEnd zs 2 := by
  unfold cOk at *
  simp only [Bool.and_eq_true, decide_eq_true_eq] at h ⊢
  obtain ⟨⟨h0, h1⟩, h2⟩ := h
  obtain ⟨e1, e2⟩ := cgRd_ext (ms := ms) h1
  have hi : 2 + 8 ≤ (pAll zs (2 + 8)).at_ := pLoop_mono zs 201 ⟨[], 2 + 8, true⟩
  have hle : (pAll zs (2 + 8)).at_ ≤ zs.length := by
    unfold cgEnd at h1
    split at h1 <;> omega
  rw [n2at_ext (by omega), e1, e2, List.length_append]
  exact ⟨⟨⟨h0, by omega⟩, h2⟩, rfl, rfl⟩
end

/-- Fewer bytes are none. -/
theorem cB_cut (g : Cg) (ho : g.ok) (hr : cRight g = true) {k : Nat} (hk : k < (cB g).length) : cOk ((cB g).take k) = false := by
  rw [Bool.eq_false_iff]
  intro h
  obtain ⟨_, h1, h2⟩ := cOk_ext (ms := (cB g).drop k) h
  rw [List.take_append_drop] at h1 h2
  have h3 := (cB_dec g ho hr []).2.2
  rw [List.append_nil] at h3
  unfold cOk at h
  simp only [Bool.and_eq_true, decide_eq_true_eq] at h
  have h4 := h.1.2
  rw [← h2, h3, List.length_take] at h4
  omega

/-- What is read is written again. -/
theorem b2s_win {zs : List Int} (hB : Bytes zs) {i : Nat} (h : i + 2 ≤ zs.length) : b2 (sgn (n2at zs i) % 65536) = (zs.drop i).take 2 := by
  have := n2at_lt hB i
  rw [← b2_win hB h]
  congr 1
  unfold sgn
  split <;> omega
theorem b1s_win {zs : List Int} (hB : Bytes zs) {i : Nat} (h : i + 1 ≤ zs.length) : [sgb (n1at zs i) % 256] = (zs.drop i).take 1 := by
  have h1 := n1at_get (zs := zs) (i := i) (List.getElem?_eq_getElem (by omega))
  have h2 := n1at_lt hB i
  rw [List.drop_eq_getElem_cons (by omega), List.take_succ_cons, List.take_zero, ← h1]
  congr 1
  unfold sgb
  split <;> omega
theorem clr_back {f : Int} : (if fb f 32 then clr f + 32 else clr f) = f := by
  unfold clr
  split <;> omega
theorem ptB_win {zs : List Int} (hB : Bytes zs) {i : Nat} (hr : ptRight (rdP zs (n2at zs i) (knd (n2at zs i)) (fb (n2at zs i) 1) i) = true) (h : i + pSz (knd (n2at zs i)) (fb (n2at zs i) 1) ≤ zs.length) :
    ptB (rdP zs (n2at zs i) (knd (n2at zs i)) (fb (n2at zs i) 1) i) (fb (n2at zs i) 32) = (zs.drop i).take (pSz (knd (n2at zs i)) (fb (n2at zs i) 1)) := by
  have hF := ptF_of hr
  have hkn := hF.kn
  have ef : (rdP zs (n2at zs i) (knd (n2at zs i)) (fb (n2at zs i) 1) i).f = clr (n2at zs i) := rfl
  rw [ef, knd_clr] at hkn
  have hsz := pSz_pos (knd (n2at zs i)) (fb (n2at zs i) 1)
  unfold ptB
  rw [ef, clr_back, knd_clr, (fb_clr _).1, b2_win hB (by omega)]
  have ei : (rdP zs (n2at zs i) (knd (n2at zs i)) (fb (n2at zs i) 1) i).i = n2at zs (i + 2) := rfl
  rw [ei, b2_win hB (by omega), win_join]
  generalize hwd : fb (n2at zs i) 1 = wd at *
  generalize hk : knd (n2at zs i) = k at *
  unfold pSz at h ⊢
  have hxy : (if wd = true then b2 ((rdP zs (n2at zs i) k wd i).x % 65536) ++ b2 ((rdP zs (n2at zs i) k wd i).y % 65536) else [(rdP zs (n2at zs i) k wd i).x % 256, (rdP zs (n2at zs i) k wd i).y % 256]) = (zs.drop (i + 4)).take (if wd = true then 4 else 2) := by
    cases wd
    · simp only [Bool.false_eq_true, if_false] at h ⊢
      have e1 := b1s_win hB (i := i + 4) (by omega)
      have e2 := b1s_win hB (i := i + 5) (by omega)
      rw [show (2 : Nat) = 1 + 1 by rfl, ← win_join, ← e1, show i + 4 + 1 = i + 5 by omega, ← e2]
      rfl
    · simp only [if_true] at h ⊢
      have e1 := b2s_win hB (i := i + 4) (by omega)
      have e2 := b2s_win hB (i := i + 6) (by omega)
      rw [show (4 : Nat) = 2 + 2 by rfl, ← win_join, show i + (2 + 2) = i + 4 by rfl, ← e1, show i + 4 + 2 = i + 6 by omega, ← e2]
      rfl
  rw [hxy, show i + 4 = i + (2 + 2) by rfl, win_join]
  generalize hj : (if wd = true then 4 else 2) = j at *
  have hM : ((matL k (rdP zs (n2at zs i) k wd i)).flatMap fun v => b2 (v % 65536)) = (zs.drop (i + (2 + 2 + j))).take (mSz k) := by
    have em : (rdP zs (n2at zs i) k wd i).xx = (mA zs k (i + 4 + j)).1 ∧ (rdP zs (n2at zs i) k wd i).xy = (mA zs k (i + 4 + j)).2.1 ∧ (rdP zs (n2at zs i) k wd i).yx = (mA zs k (i + 4 + j)).2.2.1 ∧ (rdP zs (n2at zs i) k wd i).yy = (mA zs k (i + 4 + j)).2.2.2 := by
      unfold rdP
      rw [hj]
      exact ⟨rfl, rfl, rfl, rfl⟩
    obtain ⟨m1, m2, m3, m4⟩ := em
    unfold matL
    rw [m1, m2, m3, m4, show i + (2 + 2 + j) = i + 4 + j by omega]
    generalize hqe : i + 4 + j = q at *
    have hq : q + mSz k ≤ zs.length := by omega
    clear hqe
    unfold mA
    rcases hkn with rfl | rfl | rfl | rfl
    · rfl
    · have hq' : q + 2 ≤ zs.length := hq
      rw [if_pos rfl, if_pos rfl]
      show b2 _ ++ [] = _
      rw [List.append_nil, b2s_win hB hq']
      rfl
    · have hq' : q + 4 ≤ zs.length := hq
      rw [if_neg (by decide), if_pos rfl, if_neg (by decide), if_pos rfl]
      show b2 _ ++ (b2 _ ++ []) = _
      rw [List.append_nil, b2s_win hB (by omega), b2s_win hB (by omega), win_join]
      rfl
    · have hq' : q + 8 ≤ zs.length := hq
      rw [if_neg (by decide), if_neg (by decide), if_pos rfl, if_neg (by decide), if_neg (by decide), if_pos rfl]
      show b2 _ ++ (b2 _ ++ (b2 _ ++ (b2 _ ++ []))) = _
      rw [List.append_nil, b2s_win hB (by omega), b2s_win hB (by omega), b2s_win hB (by omega), b2s_win hB (by omega), ← List.append_assoc, ← List.append_assoc, win_join, show q + 4 = q + (2 + 2) by rfl, win_join, show q + 6 = q + (2 + 2 + 2) by rfl, win_join]
      rfl
  rw [hM, win_join]

/-- The bytes of parts of which the last one is followed, or not. -/
def ptsG (ps : List Pt) (go : Bool) : List Int := (List.range ps.length).flatMap fun i => match ps[i]? with
  | some p => ptB p (decide (i + 1 < ps.length) || go)
  | none => []
theorem flatMap_congrC {α β : Type} {f g : α → List β} : ∀ (l : List α), (∀ x ∈ l, f x = g x) → l.flatMap f = l.flatMap g
  | [], _ => rfl
  | x :: r, h => by
    rw [List.flatMap_cons, List.flatMap_cons, h x (by simp), flatMap_congrC r (fun y hy => h y (by simp [hy]))]
theorem ptsG_false (ps : List Pt) : ptsG ps false = ptsB ps ps.length := by
  unfold ptsG ptsB
  refine flatMap_congrC _ fun i _ => ?_
  cases ps[i]? <;> simp
theorem ptsG_snoc (ps : List Pt) (p : Pt) (go : Bool) : ptsG (ps ++ [p]) go = ptsG ps true ++ ptB p go := by
  unfold ptsG
  rw [List.length_append, List.length_cons, List.length_nil, List.range_succ, List.flatMap_append]
  congr 1
  · refine flatMap_congrC _ fun i hi => ?_
    have hi := List.mem_range.1 hi
    rw [List.getElem?_append_left hi]
    simp [show i < ps.length by omega]
  · simp
theorem pLoop_win {zs : List Int} (hB : Bytes zs) (i : Nat) : ∀ (n : Nat) (s : PS), (∀ p ∈ (pLoop zs n s).ps, ptRight p = true) → (pLoop zs n s).at_ ≤ zs.length → (s.go = true ∨ 0 < s.ps.length) → i ≤ s.at_ → ptsG s.ps s.go = (zs.drop i).take (s.at_ - i) →
    ptsG (pLoop zs n s).ps (pLoop zs n s).go = (zs.drop i).take ((pLoop zs n s).at_ - i)
  | 0, s, _, _, _, _, h => h
  | n + 1, s, hr, hl, hg0, hi, h => by
    by_cases hg : s.go = true
    · rw [pLoop_step hg (by omega)] at hr hl ⊢
      have hmem : ∀ (m : Nat) (t : PS) (p : Pt), p ∈ t.ps → p ∈ (pLoop zs m t).ps := by
        intro m
        induction m with
        | zero => intro t p hp; exact hp
        | succ m ih =>
          intro t p hp
          unfold pLoop
          split
          · exact ih _ p (by unfold pNext; simp [hp])
          · exact hp
      have hmono := pLoop_mono zs (n + 1 - 1) (pNext zs s)
      have hrp := hr (rdP zs (n2at zs s.at_) (knd (n2at zs s.at_)) (fb (n2at zs s.at_) 1) s.at_) (hmem _ _ _ (by unfold pNext; simp))
      have hat : (pNext zs s).at_ = s.at_ + pSz (knd (n2at zs s.at_)) (fb (n2at zs s.at_) 1) := rfl
      refine pLoop_win hB i n (pNext zs s) hr hl (.inr (by rw [pNext_len]; omega)) (by omega) ?_
      have hw := ptB_win hB hrp (by omega)
      have e : ptsG (pNext zs s).ps (pNext zs s).go = ptsG s.ps true ++ ptB (rdP zs (n2at zs s.at_) (knd (n2at zs s.at_)) (fb (n2at zs s.at_) 1) s.at_) (fb (n2at zs s.at_) 32) := ptsG_snoc _ _ _
      rw [e, hw]
      rw [hg] at h
      rw [h, hat]
      obtain ⟨d, hd⟩ : ∃ d, s.at_ = i + d := ⟨s.at_ - i, by omega⟩
      rw [hd, show i + d - i = d by omega, win_join, show i + d + pSz (knd (n2at zs (i + d))) (fb (n2at zs (i + d)) 1) - i = d + pSz (knd (n2at zs (i + d))) (fb (n2at zs (i + d)) 1) by omega]
    · have hg' : s.go = false := by simpa using hg
      rw [pLoop_end (.inl hg')]
      exact h
theorem pLoop_stop {zs : List Int} : ∀ (n : Nat) (s : PS), (pLoop zs n s).go = true → (pLoop zs n s).ps.length = s.ps.length + n
  | 0, s, _ => rfl
  | n + 1, s, h => by
    by_cases hg : s.go = true
    · rw [pLoop_step hg (by omega)] at h ⊢
      have := pLoop_stop n (pNext zs s) h
      rw [pNext_len] at this
      simp only [Nat.add_sub_cancel]
      omega
    · have hg' : s.go = false := by simpa using hg
      rw [pLoop_end (.inl hg')] at h
      rw [hg'] at h
      cases h
theorem cB_inv {zs : List Int} (hB : Bytes zs) (h : cOk zs = true) : cB (cgRd zs 2) = zs.take (cgEnd zs 2) := by
  unfold cOk at h
  simp only [Bool.and_eq_true, decide_eq_true_eq] at h
  obtain ⟨⟨h0, h1⟩, h2⟩ := h
  obtain ⟨hq1, hq2, hp1, hps⟩ := cRight_parts h2
  have eps : (cgRd zs 2).ps = (pAll zs (2 + 8)).ps := rfl
  rw [eps] at hq1 hq2 hps
  have hi : 2 + 8 ≤ (pAll zs (2 + 8)).at_ := pLoop_mono zs 201 ⟨[], 2 + 8, true⟩
  have hle : (pAll zs (2 + 8)).at_ ≤ zs.length := by
    unfold cgEnd at h1
    split at h1 <;> omega
  have hgo : (pAll zs (2 + 8)).go = false := by
    rw [Bool.eq_false_iff]
    intro hg
    have := pLoop_stop 201 ⟨[], 2 + 8, true⟩ hg
    simp only [List.length_nil] at this
    have e : (pAll zs (2 + 8)).ps.length = 0 + 201 := this
    omega
  have hpr : ∀ p ∈ (pAll zs (2 + 8)).ps, ptRight p = true := by
    intro p hp
    obtain ⟨k, hk⟩ := List.getElem?_of_mem hp
    exact partsOk_at hps (List.getElem?_eq_some_iff.1 hk).1 hk
  have hw := pLoop_win hB 10 201 ⟨[], 2 + 8, true⟩ hpr hle (.inl rfl) (by simp) (by simp [ptsG])
  have hw2 : ptsB (pAll zs (2 + 8)).ps (pAll zs (2 + 8)).ps.length = (zs.drop 10).take ((pAll zs (2 + 8)).at_ - 10) := by
    rw [← ptsG_false, ← hgo]
    exact hw
  have hfr : b2 65535 ++ boxB [(cgRd zs 2).x0, (cgRd zs 2).x1, (cgRd zs 2).x2, (cgRd zs 2).x3] = zs.take 10 := by
    have e : boxB [(cgRd zs 2).x0, (cgRd zs 2).x1, (cgRd zs 2).x2, (cgRd zs 2).x3] = b2 (sgn (n2at zs 2) % 65536) ++ (b2 (sgn (n2at zs 4) % 65536) ++ (b2 (sgn (n2at zs 6) % 65536) ++ b2 (sgn (n2at zs 8) % 65536))) := by simp [boxB, cgRd]
    have e0 : b2 65535 = (zs.drop 0).take 2 := by rw [← h0]; exact b2_win hB (by omega)
    rw [e, e0, b2s_win hB (by omega), b2s_win hB (by omega), b2s_win hB (by omega), b2s_win hB (by omega)]
    rw [← List.append_assoc, ← List.append_assoc, ← List.append_assoc, show (zs.drop 2) = zs.drop (0 + 2) by rfl, win_join, show (zs.drop 4) = zs.drop (0 + (2 + 2)) by rfl, win_join, show (zs.drop 6) = zs.drop (0 + (2 + 2 + 2)) by rfl, win_join, show (zs.drop 8) = zs.drop (0 + (2 + 2 + 2 + 2)) by rfl, win_join]
    rfl
  unfold cB
  rw [hfr, eps, hw2]
  obtain ⟨d, hd⟩ : ∃ d, (pAll zs (2 + 8)).at_ = 10 + d := ⟨(pAll zs (2 + 8)).at_ - 10, by omega⟩
  have hj : zs.take 10 ++ (zs.drop 10).take ((pAll zs (2 + 8)).at_ - 10) = zs.take (pAll zs (2 + 8)).at_ := by
    rw [hd, show 10 + d - 10 = d by omega]
    have := win_join zs 0 10 d
    simpa using this
  rw [hj]
  unfold cgEnd at h1 ⊢
  cases hc : codeB (pAll zs (2 + 8)).ps
  · simp only [Bool.false_eq_true, if_false, List.append_nil]
  · rw [hc] at h1
    simp only [if_true] at h1 ⊢
    have ep : (cgRd zs 2).pr = told (zs.drop ((pAll zs (2 + 8)).at_ + 2)) (n2at zs (pAll zs (2 + 8)).at_).toNat := by unfold cgRd; rw [hc]; rfl
    rw [ep]
    have hn := n2at_lt hB (pAll zs (2 + 8)).at_
    have et : told (zs.drop ((pAll zs (2 + 8)).at_ + 2)) (n2at zs (pAll zs (2 + 8)).at_).toNat = (zs.drop ((pAll zs (2 + 8)).at_ + 2)).take (n2at zs (pAll zs (2 + 8)).at_).toNat := by
      unfold told
      rw [if_pos (by rw [List.length_drop]; omega)]
    rw [et, List.length_take, List.length_drop, Nat.min_eq_left (by omega), Int.toNat_of_nonneg hn.1, b2_win hB (by omega), ← List.append_assoc]
    generalize (pAll zs (2 + 8)).at_ = a at *
    generalize (n2at zs a).toNat = m at *
    have e1 := win_join zs 0 a 2
    have e2 := win_join zs 0 (a + 2) m
    simp only [List.drop_zero, Nat.zero_add] at e1 e2
    rw [e1, e2]

/-- What is written is bytes. -/
theorem b2_bytesC (x : Int) : Bytes (b2 x) := by
  intro y hy
  simp [b2] at hy
  omega
theorem ptB_bytes (p : Pt) (go : Bool) : Bytes (ptB p go) := by
  unfold ptB
  refine Bytes.app (Bytes.app (Bytes.app (b2_bytesC _) (b2_bytesC _)) ?_) (bytes_flatMap _ fun v _ => b2_bytesC _)
  split
  · exact Bytes.app (b2_bytesC _) (b2_bytesC _)
  · intro y hy
    simp at hy
    omega
theorem cB_bytes (g : Cg) (ho : g.ok) (hr : cRight g = true) : Bytes (cB g) := by
  unfold cB
  refine Bytes.app (Bytes.app (Bytes.app (b2_bytesC _) (bytes_flatMap _ fun v _ => b2_bytesC _)) (bytes_flatMap _ fun i _ => ?_)) ?_
  · split
    · exact ptB_bytes _ _
    · intro y hy; cases hy
  · split
    · exact Bytes.app (b2_bytesC _) ho.pr
    · intro y hy; cases hy

end Go.Proofs.Ytgafjieghckimaa

/- compo: Is; the document's example. -/
namespace Go.Proofs.Ytgafjieghckimaa
open Go.RowKit
set_option linter.unusedVariables false
set_option linter.unusedSimpArgs false

/-- Do the bytes begin as such a glyph's do? -/
def cIs (zs : List Int) : Bool := decide (sgn (n2at (zs.take 2) 0) < 0)
theorem take_bytes2 {zs : List Int} (h : Bytes zs) : Bytes (zs.take 2) := fun x hx => h x (List.mem_of_mem_take hx)

theorem cis_any (A : Option Addr) (n c : Nat) (zs : List Int) (w : World) (hr : Row w A n (cellsOf .u8 zs)) (hB : Bytes zs) (hn : n ≤ 1000000) (hc : n ≤ c) : Calls Try.prog 46 #[.slice A n c] w (Ret w (.bool (cIs zs))) := by
  have hl := hr.len
  obtain ⟨m, hm⟩ : ∃ m : Nat, m = min n 2 := ⟨_, rfl⟩
  have hmE : min (n : Int) 2 = (m : Int) := by omega
  have ht : zs.take m = zs.take 2 := by
    by_cases h : 2 ≤ n
    · rw [show m = 2 by omega]
    · rw [List.take_of_length_le (by omega), List.take_of_length_le (by omega)]
  have hr2 : Row w A m (cellsOf .u8 (zs.take 2)) := by
    have := hr.take (k := m) (by omega)
    rwa [cellsOf_take, ht] at this
  have HB := Lib.hid (take_bytes2 hB)
  have HN := Lib.hid (new_any A m c (zs.take 2) w hr2 (by omega))
  have hl2 : (zs.take 2).length ≤ 2 := by rw [List.length_take]; omega
  have s0 : (0 : Int) ≤ (m : Int) := by omega
  have s1 : (m : Int) ≤ (n : Int) := by omega
  have s3 : (m : Int) ≤ (c : Int) := by omega
  unfold cIs
  clear hr hB hl ht hr2 hm
  generalize zs.take 2 = ys at *
  go_enter Try.func46, Try.ntmps46
  go_wp2_with fail
  with_reducible refine HN.out.mono ?_
  rintro e w1 ⟨b, rfl, hrd, hb1⟩
  have hrq := RdQ.new hrd
  have hfr := hrd.from_
  have HI := Lib.hid (rdq_i16 hrq HB.out (by omega))
  have hbb : w.heap.size ≤ b := hfr
  clear hrd hrq HN hfr
  go_wp2_with fail
  with_reducible refine HI.out.mono ?_
  rintro e w2 ⟨rfl, h2, g2⟩
  have hb2 := hb1.grown g2 hb1.size (fun k e => by cases e; exact hbb)
  clear HI
  go_wp2
  go_ret
  exact ⟨rfl, hb2⟩

def ex13 : Cg := ⟨0, 0, 0, 0, [⟨3, 3, 1, 2, 16384, 0, 0, 16384⟩], []⟩
theorem ex13_ok : ex13.ok := ⟨by decide, (fun p hp => by
  simp only [ex13, List.mem_cons, List.not_mem_nil, or_false] at hp
  subst hp
  exact ⟨by decide, by decide, by decide, by decide, by decide, by decide, by decide, by decide⟩), (fun x hx => by cases hx)⟩
theorem ex13_B : cBytes ex13 = [255, 255, 0, 0, 0, 0, 0, 0, 0, 0, 0, 3, 0, 3, 0, 1, 0, 2] := by decide +kernel
theorem ex13_is : cIs [255, 255, 0, 0, 0, 0, 0, 0, 0, 0, 0, 3, 0, 3, 0, 1, 0, 2] = true := by decide +kernel

set_option maxRecDepth 100000 in
set_option maxHeartbeats 2000000 in
theorem awake13_any (w : World) : Calls Try.prog 15 #[] w (True_ w) := by
  have HB0 : Hid (∀ W : World, Calls Try.prog 17 #[.agg #[.int .i16 0, .int .i16 0, .int .i16 0, .int .i16 0, .slice (some ⟨W.heap.size, 0, none⟩) 1 1, .slice none 0 0]] (W.alloc (.cells #[.int .u16 3, .int .u16 3, .int .i16 1, .int .i16 2, .int .i16 16384, .int .i16 0, .int .i16 0, .int .i16 16384] 29)) (RetB (W.alloc (.cells #[.int .u16 3, .int .u16 3, .int .i16 1, .int .i16 2, .int .i16 16384, .int .i16 0, .int .i16 0, .int .i16 16384] 29)) [255, 255, 0, 0, 0, 0, 0, 0, 0, 0, 0, 3, 0, 3, 0, 1, 0, 2])) := fun W => by
    have h := cbytes_any ⟨ex13, some ⟨W.heap.size, 0, none⟩, 1, 1, none, 0, 0⟩ (W.alloc (.cells #[.int .u16 3, .int .u16 3, .int .i16 1, .int .i16 2, .int .i16 16384, .int .i16 0, .int .i16 0, .int .i16 16384] 29)) ⟨rowS_vals encPt_len W 29 [⟨3, 3, 1, 2, 16384, 0, 0, 16384⟩] _ rfl 1 rfl, Row.empty _ _⟩ (by show (1 : Nat) ≤ 1000000; omega) (by show (0 : Nat) ≤ 1000000; omega) ex13_ok
    rw [show CgV.g ⟨ex13, some ⟨W.heap.size, 0, none⟩, 1, 1, none, 0, 0⟩ = ex13 from rfl, ex13_B] at h
    exact h
  go_enter Try.func15, Try.ntmps15
  go_wp2_with fail
  refine (unit_any _).mono ?_
  rintro e w0 ⟨rfl, hb0⟩
  have HB := Lib.hid (HB0.out w0)
  have hA := hb0.alloc hb0.size (.cells #[.int .u16 3, .int .u16 3, .int .i16 1, .int .i16 2, .int .i16 16384, .int .i16 0, .int .i16 0, .int .i16 16384] 29)
  clear HB0 hb0
  go_wp2_with fail
  with_reducible refine HB.out.mono ?_
  rintro e w1 ⟨A1, n1, c1, rfl, hown1, hb1⟩
  have hl1 := hown1.len
  simp only [List.length_cons, List.length_nil] at hl1
  obtain rfl : n1 = 18 := by omega
  have hcap := hown1.cap
  have hbw := hA.trans (hb1.mono hA.size)
  have hrow := hown1.row
  obtain ⟨g, off, rfl, hg, _⟩ := hrow.at (j := 0) (u := .int .u8 255) rfl
  have hrow2 : Row w1 (some ⟨g, off + 10, none⟩) 8 (cellsOf .u8 [0, 3, 0, 3, 0, 1, 0, 2]) := by have := hrow.drop 10; rw [cellsOf_drop] at this; simpa [Addr.add_lit] using this
  have hA2 := (Below.refl w1.heap.size w1).alloc (Nat.le_refl _) (.cells #[.int .u8 0, .int .u8 3, .int .u8 0, .int .u8 3, .int .u8 0, .int .u8 1, .int .u8 0, .int .u8 2] 5)
  have HS := Lib.hid (same_any (some ⟨g, off + 10, none⟩) (some ⟨w1.heap.size, 0, none⟩) 8 (c1 - 10) 8 8 [0, 3, 0, 3, 0, 1, 0, 2] [0, 3, 0, 3, 0, 1, 0, 2] _ (hrow2.below hA2) (row_lit w1 .u8 5 [0, 3, 0, 3, 0, 1, 0, 2] 8 rfl) (by omega) (by omega))
  rw [sameB_refl] at HS
  have hbw2 := hbw.trans (hA2.mono hbw.size)
  have hc14 : ¬ c1 = 10 := by omega
  have hrow3 := hrow.below hA2
  clear HB hA hown1 hb1 hl1 hrow hrow2 hA2 hbw
  go_wp2_with fail
  refine HS.out.mono ?_
  rintro e w2 ⟨rfl, q, hq⟩
  have hbw3 : Below w.heap.size w w2 := by rw [hq]; exact below_drewN hbw2 q
  have HI := Lib.hid (cis_any (some ⟨g, off, none⟩) 18 c1 _ w2 (by rw [hq]; exact hrow3) (by intro x hx; simp at hx; omega) (by omega) hcap)
  rw [ex13_is] at HI
  clear hq HS hrow3 hbw2
  go_wp2_with fail
  with_reducible refine HI.out.mono ?_
  rintro e w3 ⟨rfl, hb3⟩
  go_wp2
  go_ret
  exact ⟨rfl, hbw3.trans (hb3.mono hbw3.size)⟩

end Go.Proofs.Ytgafjieghckimaa

/- Points and matrices that come in. -/
namespace Go.Proofs.Ytgafjieghckimaa
open Go.RowKit Go.Joins Go.ChangeShapes Go.WideShapes
set_option linter.unusedVariables false

theorem Try.cellsPt : Try.prog.cellsOf 87 = 3 := by kernel_rfl
theorem Try.cells1i : Try.prog.cellsOf 3 = 1 := by kernel_rfl
theorem Try.cells1b : Try.prog.cellsOf 4 = 1 := by kernel_rfl
theorem Try.cellsMx : Try.prog.cellsOf 24 = 4 := by kernel_rfl

section
variable {H : Type} {enc : TypeId × Value → H} {W : World} {base : Nat} {v : Value} {d : DataW H} {p : List MemPlace}

set_option maxRecDepth 100000 in
theorem open_pt (hv : Value.okWide Try.prog W .any base 87 v) (h : DataW.Trod enc Try.prog W 0 (fun _ => true) true 87 v d p) :
    ∃ x y on, v = ptV x y on ∧ (Lit.int .i64 x).wf = true ∧ (Lit.int .i64 y).wf = true := by
  obtain ⟨c0, c1, c2, y0, y1, y2, m, rfl, rfl, rfl, h0, h1, h2⟩ := open_agg3 Try.underlying87 (by kernel_rfl) Try.cellsPt hv h
  obtain ⟨a, e0, rfl, wa⟩ := DataW.trod_int Try.underlying3 h0
  obtain ⟨b, e1, rfl, wb⟩ := DataW.trod_int Try.underlying3 h1
  obtain ⟨o, e2, rfl⟩ := DataW.trod_bool Try.underlying4 h2
  simp at e0 e1 e2
  subst e0 e1 e2
  exact ⟨a, b, o, rfl, wa, wb⟩

set_option maxRecDepth 100000 in
theorem open_mx (hv : Value.okWide Try.prog W .any base 24 v) (h : DataW.Trod enc Try.prog W 0 (fun _ => true) true 24 v d p) :
    ∃ a b c e, v = mxV a b c e ∧ (-32768 ≤ a ∧ a ≤ 32767) ∧ (-32768 ≤ b ∧ b ≤ 32767) ∧ (-32768 ≤ c ∧ c ≤ 32767) ∧ (-32768 ≤ e ∧ e ≤ 32767) := by
  obtain ⟨c0, c1, c2, c3, y0, y1, y2, y3, m, rfl, rfl, rfl, h0, h1, h2, h3⟩ := open_agg4 Try.underlying24 (by kernel_rfl) Try.cellsMx hv h
  obtain ⟨a, e0, rfl, wa⟩ := DataW.trod_int Try.underlying22 h0
  obtain ⟨b, e1, rfl, wb⟩ := DataW.trod_int Try.underlying22 h1
  obtain ⟨c, e2, rfl, wc⟩ := DataW.trod_int Try.underlying22 h2
  obtain ⟨e, e3, rfl, we⟩ := DataW.trod_int Try.underlying22 h3
  simp at e0 e1 e2 e3
  subst e0 e1 e2 e3
  exact ⟨a, b, c, e, rfl, bounds_i16 wa, bounds_i16 wb, bounds_i16 wc, bounds_i16 we⟩
end

end Go.Proofs.Ytgafjieghckimaa

/- The one part of a glyph, by its kind. A part's matrix is told by none, one, two, or four numbers; one that its flags don't fit isn't one. -/
namespace Go.Proofs.Ytgafjieghckimaa
open Go.RowKit
set_option linter.unusedVariables false
set_option linter.unusedSimpArgs false

/-- The one part, by its kind. -/
def kPt (f xx xy yx yy : Int) : Pt := ⟨f, 0, 0, 0, xx, xy, yx, yy⟩
def kG (f xx xy yx yy : Int) : Cg := ⟨0, 0, 0, 0, [kPt f xx xy yx yy], []⟩
theorem kG_right (f xx xy yx yy : Int) (h : fb f 256 = false) : cRight (kG f xx xy yx yy) = ptRight (kPt f xx xy yx yy) := by
  have h1 : codeB [kPt f xx xy yx yy] = false := h
  unfold cRight partsOk
  simp [kG, h1, kPt]
theorem kG_len (f xx xy yx yy : Int) (h : fb f 256 = false) (hr : ptRight (kPt f xx xy yx yy) = true) : (cB (kG f xx xy yx yy)).length = 10 + pSz (knd f) (fb f 1) := by
  have h1 : codeB [kPt f xx xy yx yy] = false := h
  have h2 := ptB_len_eq (kPt f xx xy yx yy) false (ptF_of hr).kn
  unfold cB ptsB
  simp [kG, h1, boxB, b2_len, h2]
  simp [kPt]
  omega
theorem kPt_ok {f xx xy yx yy : Int} (hf : 0 ≤ f ∧ f ≤ 65535) (h0 : -32768 ≤ xx ∧ xx ≤ 32767) (h1 : -32768 ≤ xy ∧ xy ≤ 32767) (h2 : -32768 ≤ yx ∧ yx ≤ 32767) (h3 : -32768 ≤ yy ∧ yy ≤ 32767) : (kPt f xx xy yx yy).ok := ⟨hf, ⟨by simp [kPt], by simp [kPt]⟩, ⟨by simp [kPt], by simp [kPt]⟩, ⟨by simp [kPt], by simp [kPt]⟩, h0, h1, h2, h3⟩
theorem kG_ok {f xx xy yx yy : Int} (h : (kPt f xx xy yx yy).ok) : (kG f xx xy yx yy).ok := ⟨by intro x hx; simp [kG] at hx; omega, by intro p hp; simp [kG] at hp; subst hp; exact h, by intro x hx; cases hx⟩
theorem cells4 {w : World} {b : Nat} {t : TypeId} {x0 x1 x2 x3 : Value} (h : w.heap[b]? = some (.cells #[x0, x1, x2, x3] t (0, 0))) :
    w.cell? ⟨b, 0, none⟩ = some x0 ∧ w.cell? ⟨b, 1, none⟩ = some x1 ∧ w.cell? ⟨b, 2, none⟩ = some x2 ∧ w.cell? ⟨b, 3, none⟩ = some x3 :=
  ⟨cell_of_row _ _ 0 _ _ _ h, cell_of_row _ _ 1 _ _ _ h, cell_of_row _ _ 2 _ _ _ h, cell_of_row _ _ 3 _ _ _ h⟩
def strB (xy yx : Int) : Bool := decide (xy = 0) && decide (yx = 0)

end Go.Proofs.Ytgafjieghckimaa

/- A part's matrix, of kind 0. -/
namespace Go.Proofs.Ytgafjieghckimaa
open Go.RowKit
set_option linter.unusedVariables false
set_option linter.unusedSimpArgs false

set_option maxRecDepth 1000000 in
set_option maxHeartbeats 8000000 in
theorem kinds_0_t (xx xy yx yy n : Int) (u e : Bool) (w : World) (n0 : 0 ≤ n) (n1 : n ≤ 255) (hK : n % 6 = 0) (h0 : -32768 ≤ xx ∧ xx ≤ 32767) (h1 : -32768 ≤ xy ∧ xy ≤ 32767) (h2 : -32768 ≤ yx ∧ yx ≤ 32767) (h3 : -32768 ≤ yy ∧ yy ≤ 32767) (hxy : xy = 0) (hyx : yx = 0)
    (hU : decide ([xx, xy, yx, yy] = [16384, 0, 0, 16384]) = u) (hE : decide (xx = yy) = e) (hE2 : (xx == yy) = e) (hR : ptRight (kPt 2 xx xy yx yy) = u) :
    Calls Try.prog 3 #[mxV xx xy yx yy, .int .u8 n] w (True_ w) := by
  subst hxy hyx
  have HAw := Lib.hid (fun W => awake13_any W)
  have Hok := Lib.hid (kPt_ok (f := 2) (by decide) h0 h1 h2 h3)
  have HRt := Lib.hid hR
  have heq := fun W => eq_mx xx 0 0 yy 16384 0 0 16384 W
  rw [hU] at heq
  have hA := (Below.refl w.heap.size w).alloc (Nat.le_refl _) (.cells #[.int .i16 xx, .int .i16 0, .int .i16 0, .int .i16 yy] 24)
  have hk := heap_alloc_new w (.cells #[.int .i16 xx, .int .i16 0, .int .i16 0, .int .i16 yy] 24)
  have hq : Int.tmod n 6 = 0 := by rw [Int.tmod_eq_emod_of_nonneg n0]; exact hK
  unfold mxV
  clear h0 h1 h2 h3 hU hR hK
  go_enter Try.func3, Try.ntmps3
  go_wp2_with fail
  with_reducible refine (HAw.out _).mono ?_
  rintro e0 w0 ⟨rfl, hb0⟩
  have hk0 := kept_block hk hb0
  have hbw := hA.trans (hb0.mono hA.size)
  have hlt : w.heap.size < w0.heap.size := lt_of_block hk0
  clear HAw hA hk hb0
  go_upto_region 4 with fail
  have hk1 := kept_alloc hk0 (.cells #[.int .u16 0, .int .u16 8, .int .u16 64, .int .u16 128, .int .u16 72, .int .u16 192] 26)
  have hb1 := hbw.alloc hbw.size (.cells #[.int .u16 0, .int .u16 8, .int .u16 64, .int .u16 128, .int .u16 72, .int .u16 192] 26)
  have hlt1 := lt_of_block hk1
  clear hk0 hbw hlt
  generalize w0.alloc _ = V0 at *
  have hor : bits .or .u16 2 0 = 2 := by decide
  obtain ⟨c0, c1, c2, c3⟩ := cells4 hk1
  have hA2 := (Below.refl V0.heap.size V0).alloc (Nat.le_refl _) (.cells #[.int .u16 2, .int .u16 0, .int .i16 0, .int .i16 0, .int .i16 xx, .int .i16 0, .int .i16 0, .int .i16 yy] 29)
  have hA3 := hA2.alloc hA2.size (.cells #[.int .i16 0, .int .i16 0, .int .i16 0, .int .i16 0, .slice (some ⟨V0.heap.size, 0, none⟩) 1 1, .slice none 0 0] 34)
  have hk2 := kept_block hk1 hA3
  have hb2 := hb1.trans (hA3.mono hb1.size)
  have hg2 := heap_alloc_new (V0.alloc (.cells #[.int .u16 2, .int .u16 0, .int .i16 0, .int .i16 0, .int .i16 xx, .int .i16 0, .int .i16 0, .int .i16 yy] 29)) (.cells #[.int .i16 0, .int .i16 0, .int .i16 0, .int .i16 0, .slice (some ⟨V0.heap.size, 0, none⟩) 1 1, .slice none 0 0] 34)
  have hps2 : RowS encPt 8 (V0.alloc (.cells #[.int .u16 2, .int .u16 0, .int .i16 0, .int .i16 0, .int .i16 xx, .int .i16 0, .int .i16 0, .int .i16 yy] 29)) (some ⟨V0.heap.size, 0, none⟩) 1 [kPt 2 xx 0 0 yy] := rowS_vals encPt_len V0 29 [kPt 2 xx 0 0 yy] _ rfl 1 rfl
  have hps3 := hps2.below ((Below.refl _ (V0.alloc (.cells #[.int .u16 2, .int .u16 0, .int .i16 0, .int .i16 0, .int .i16 xx, .int .i16 0, .int .i16 0, .int .i16 yy] 29))).alloc (Nat.le_refl _) (.cells #[.int .i16 0, .int .i16 0, .int .i16 0, .int .i16 0, .slice (some ⟨V0.heap.size, 0, none⟩) 1 1, .slice none 0 0] 34))
  have hnew := heap_alloc_new (V0.alloc (.cells #[.int .u16 2, .int .u16 0, .int .i16 0, .int .i16 0, .int .i16 xx, .int .i16 0, .int .i16 0, .int .i16 yy] 29)) (.cells #[.int .i16 0, .int .i16 0, .int .i16 0, .int .i16 0, .slice none 0 0, .slice none 0 0] 34)
  have hgs : (V0.alloc (.cells #[.int .u16 2, .int .u16 0, .int .i16 0, .int .i16 0, .int .i16 xx, .int .i16 0, .int .i16 0, .int .i16 yy] 29)).heap.size = V0.heap.size + 1 := by simp
  clear hA2 hA3 hps2 hk1 hb1
  go_upto_region 5 with fail
  clear hnew c0 c1 c2 c3 hor
  rw [hgs] at hg2
  have hgs2 := lt_of_block hg2
  clear hgs
  generalize (V0.alloc (.cells #[.int .u16 2, .int .u16 0, .int .i16 0, .int .i16 0, .int .i16 xx, .int .i16 0, .int .i16 0, .int .i16 yy] 29)).alloc _ = V at *
  generalize V0.heap.size = gp at *
  obtain ⟨c0, c1, c2, c3⟩ := cells4 hk2
  go_upto_region 6 with fail
  have q0 : V.drew.cell? ⟨w.heap.size, 0, none⟩ = _ := c0
  have q1 : V.drew.cell? ⟨w.heap.size, 1, none⟩ = _ := c1
  have q2 : V.drew.cell? ⟨w.heap.size, 2, none⟩ = _ := c2
  have q3 : V.drew.cell? ⟨w.heap.size, 3, none⟩ = _ := c3
  refine regF_start (by kernel_rfl) ?_
  refine regF_take (i := 0) (d := some 35) (v := ?_) (Ext.refl _) rfl rfl (by kernel_rfl) (by kernel_rfl) (by kernel_rfl) (fun _ _ _ h => h) (Or.inl ⟨by rfl, ?_⟩) ?_
  rotate_left
  · intro w' hx; have r0 := hx.cell q0; have r1 := hx.cell q1; have r2 := hx.cell q2; have r3 := hx.cell q3; (go_simp <;> with_reducible rfl)
  simp only [Act.put, List.setIfInBounds_toArray, List.set_cons_zero, List.set_cons_succ]
  refine regF_take (i := 3) (d := some 38) (v := ?_) (Ext.refl _) rfl rfl (by kernel_rfl) (by kernel_rfl) (by kernel_rfl) (fun _ _ _ h => h) (Or.inl ⟨by rfl, ?_⟩) ?_
  rotate_left
  · intro w' hx; (go_simp <;> with_reducible rfl)
  simp only [Act.put, List.setIfInBounds_toArray, List.set_cons_zero, List.set_cons_succ]
  refine regF_take (i := 11) (d := some 46) (v := ?_) (Ext.refl _) rfl rfl (by kernel_rfl) (by kernel_rfl) (by kernel_rfl) (fun _ _ _ h => h) (Or.inl ⟨by rfl, ?_⟩) ?_
  rotate_left
  · intro w' hx; (go_simp <;> with_reducible rfl)
  simp only [Act.put, List.setIfInBounds_toArray, List.set_cons_zero, List.set_cons_succ]
  refine regF_take (i := 13) (d := some 48) (v := ?_) (Ext.refl _) rfl rfl (by kernel_rfl) (by kernel_rfl) (by kernel_rfl) (fun _ _ _ h => h) (Or.inl ⟨by rfl, ?_⟩) ?_
  rotate_left
  · intro w' hx; (go_simp <;> with_reducible rfl)
  simp only [Act.put, List.setIfInBounds_toArray, List.set_cons_zero, List.set_cons_succ]
  refine regF_take (i := 14) (d := some 49) (v := ?_) (Ext.refl _) rfl rfl (by kernel_rfl) (by kernel_rfl) (by kernel_rfl) (fun _ _ _ h => h) (Or.inl ⟨by rfl, ?_⟩) ?_
  rotate_left
  · intro w' hx; (go_simp <;> with_reducible rfl)
  simp only [Act.put, List.setIfInBounds_toArray, List.set_cons_zero, List.set_cons_succ]
  refine regF_one 1 _ (by kernel_rfl) rfl ?_
  intro K hK
  go_simp
  refine (unit_any _).mono ?_
  rintro e4 W4 ⟨rfl, hb4⟩
  unfold mxV
  have hX1 := (Ext.refl V.drew).call hb4
  refine hK.out _ _ hX1 ?_
  clear hK K
  refine regF_take (i := 2) (d := some 37) (v := ?_) hX1 rfl rfl (by kernel_rfl) (by kernel_rfl) (by kernel_rfl) (fun _ _ _ h => h) (Or.inl ⟨by rfl, ?_⟩) ?_
  rotate_left
  · intro w' hx; (go_simp <;> with_reducible rfl)
  simp only [Act.put, List.setIfInBounds_toArray, List.set_cons_zero, List.set_cons_succ]
  refine regF_take (i := 4) (d := some 39) (v := ?_) hX1 rfl rfl (by kernel_rfl) (by kernel_rfl) (by kernel_rfl) (fun _ _ _ h => h) (Or.inl ⟨by rfl, ?_⟩) ?_
  rotate_left
  · intro w' hx; (go_simp <;> with_reducible rfl)
  simp only [Act.put, List.setIfInBounds_toArray, List.set_cons_zero, List.set_cons_succ]
  refine regF_take (i := 5) (d := some 40) (v := ?_) hX1 rfl rfl (by kernel_rfl) (by kernel_rfl) (by kernel_rfl) (fun _ _ _ h => h) (Or.inl ⟨by rfl, ?_⟩) ?_
  rotate_left
  · intro w' hx; (go_simp <;> with_reducible rfl)
  simp only [Act.put, List.setIfInBounds_toArray, List.set_cons_zero, List.set_cons_succ]
  refine regF_take (i := 6) (d := some 41) (v := ?_) hX1 rfl rfl (by kernel_rfl) (by kernel_rfl) (by kernel_rfl) (fun _ _ _ h => h) (Or.inl ⟨by rfl, ?_⟩) ?_
  rotate_left
  · intro w' hx; have r0 := hx.cell q0; have r1 := hx.cell q1; have r2 := hx.cell q2; have r3 := hx.cell q3; (go_simp <;> with_reducible rfl)
  simp only [Act.put, List.setIfInBounds_toArray, List.set_cons_zero, List.set_cons_succ]
  refine regF_take (i := 7) (d := some 42) (v := ?_) hX1 rfl rfl (by kernel_rfl) (by kernel_rfl) (by kernel_rfl) (fun _ _ _ h => h) (Or.inl ⟨by rfl, ?_⟩) ?_
  rotate_left
  · intro w' hx; (go_simp <;> with_reducible rfl)
  simp only [Act.put, List.setIfInBounds_toArray, List.set_cons_zero, List.set_cons_succ]
  refine regF_take (i := 8) (d := some 43) (v := ?_) hX1 rfl rfl (by kernel_rfl) (by kernel_rfl) (by kernel_rfl) (fun _ _ _ h => h) (Or.inl ⟨by rfl, ?_⟩) ?_
  rotate_left
  · intro w' hx; have r0 := hx.cell q0; have r1 := hx.cell q1; have r2 := hx.cell q2; have r3 := hx.cell q3; (go_simp <;> with_reducible rfl)
  simp only [Act.put, List.setIfInBounds_toArray, List.set_cons_zero, List.set_cons_succ]
  refine regF_take (i := 9) (d := some 44) (v := ?_) hX1 rfl rfl (by kernel_rfl) (by kernel_rfl) (by kernel_rfl) (fun _ _ _ h => h) (Or.inl ⟨by rfl, ?_⟩) ?_
  rotate_left
  · intro w' hx; (go_simp <;> with_reducible rfl)
  simp only [Act.put, List.setIfInBounds_toArray, List.set_cons_zero, List.set_cons_succ]
  refine regF_take (i := 10) (d := some 45) (v := ?_) hX1 rfl rfl (by kernel_rfl) (by kernel_rfl) (by kernel_rfl) (fun _ _ _ h => h) (Or.inl ⟨by rfl, ?_⟩) ?_
  rotate_left
  · intro w' hx; (go_simp <;> with_reducible rfl)
  simp only [Act.put, List.setIfInBounds_toArray, List.set_cons_zero, List.set_cons_succ]
  refine regF_one 12 _ (by kernel_rfl) rfl ?_
  intro K hK
  go_simp
  have hX2 := hX1.new (.cells #[.bool u, .bool e, .bool true, .bool true, .bool false, .bool false] 4)
  have hkn := heap_alloc_new W4 (.cells #[.bool u, .bool e, .bool true, .bool true, .bool false, .bool false] 4)
  have cK : (W4.alloc (.cells #[.bool u, .bool e, .bool true, .bool true, .bool false, .bool false] 4)).cell? ⟨W4.heap.size, 0, none⟩ = some (.bool u) := cell_of_row _ _ 0 _ _ _ hkn
  refine hK.out _ _ hX2 ?_
  generalize W4.alloc _ = W5 at *
  clear hK K hkn
  refine regF_one 15 _ (by kernel_rfl) rfl ?_
  intro K hK
  go_simp
  refine hK.out _ _ hX2 ?_
  clear hK K
  refine regF_one 16 _ (by kernel_rfl) rfl ?_
  intro K hK
  go_simp
  refine hK.out _ _ hX2 ?_
  clear hK K
  refine regF_one 17 _ (by kernel_rfl) rfl ?_
  intro K hK
  go_simp
  refine hK.out _ _ hX2 ?_
  clear hK K
  refine wpAnyH_done (by kernel_rfl) ?_ _
  have hb5 := hb2.drew.trans (hX2.mono hb2.size)
  have hk5 : W5.heap[w.heap.size]? = _ := kept_block (w := V.drew) hk2 hX2
  have hg5 : W5.heap[gp + 1]? = _ := kept_block (w := V.drew) hg2 hX2
  have hps5 := (hps3.below (Below.refl _ V).drew).below hX2
  clear hb2 hk2 hg2 hps3 c0 c1 c2 c3 q0 q1 q2 q3 hb4 hX1 hX2
  have hgo : (kG 2 xx 0 0 yy).ok := kG_ok Hok.out
  have hcr : cRight (kG 2 xx 0 0 yy) = u := (kG_right _ _ _ _ _ (by decide)).trans HRt.out
  go_upto_region 8 with fail
  clear cK
  have hb6 := hb5.alloc hb5.size (.cells #[.int .i64 0, .int .i64 2, .int .i64 4, .int .i64 8, .int .i64 0, .int .i64 0] 3)
  have hX6 := (Below.refl W5.heap.size W5).alloc (Nat.le_refl _) (.cells #[.int .i64 0, .int .i64 2, .int .i64 4, .int .i64 8, .int .i64 0, .int .i64 0] 3)
  have hk6 := kept_block hk5 hX6
  have hg6 := kept_block hg5 hX6
  have hps6 := hps5.below hX6
  clear hb5 hk5 hg5 hps5 hX6
  generalize W5.alloc _ = W6 at *
  have hrows : CgV.rows W6 ⟨(kG 2 xx 0 0 yy), some ⟨gp, 0, none⟩, 1, 1, none, 0, 0⟩ := ⟨hps6, Row.empty _ _⟩
  have HBy : Hid (Calls Try.prog 17 #[.agg #[.int .i16 0, .int .i16 0, .int .i16 0, .int .i16 0, .slice (some ⟨gp, 0, none⟩) 1 1, .slice none 0 0]] W6 (RetB W6 (cBytes (kG 2 xx 0 0 yy)))) := cbytes_any ⟨(kG 2 xx 0 0 yy), some ⟨gp, 0, none⟩, 1, 1, none, 0, 0⟩ W6 hrows (by show (1 : Nat) ≤ 1000000; omega) (by show (0 : Nat) ≤ 1000000; omega) hgo
  have HRi : Hid (∀ W, Below W6.heap.size W6 W → Calls Try.prog 18 #[.agg #[.int .i16 0, .int .i16 0, .int .i16 0, .int .i16 0, .slice (some ⟨gp, 0, none⟩) 1 1, .slice none 0 0]] W (Ret W (.bool u))) := fun W hW => by
    have h := cright_any ⟨(kG 2 xx 0 0 yy), some ⟨gp, 0, none⟩, 1, 1, none, 0, 0⟩ W (hrows.below hW) (by show (1 : Nat) ≤ 1000000; omega) (by show (0 : Nat) ≤ 1000000; omega) hgo
    rw [show CgV.g ⟨(kG 2 xx 0 0 yy), some ⟨gp, 0, none⟩, 1, 1, none, 0, 0⟩ = (kG 2 xx 0 0 yy) from rfl, hcr] at h
    exact h
  have HGo := Lib.hid hgo
  have HCr := Lib.hid hcr
  clear hrows hps6 hcr hgo
  obtain ⟨c0, c1, c2, c3, c4, c5⟩ := cells6 hg6
  go_wp2_with fail
  with_reducible refine HBy.out.mono ?_
  rintro e7 w7 ⟨A, an, ac, rfl, hown, hb7⟩
  have hk7 := kept_block hk6 hb7
  have hg7 := kept_block hg6 hb7
  have hbw7 := hb6.trans (hb7.mono hb6.size)
  clear HBy hk6 hg6 hb6 c0 c1 c2 c3 c4 c5
  obtain ⟨c0, c1, c2, c3, c4, c5⟩ := cells6 hg7
  unfold cBytes at hown
  cases u
  · skip
    rw [HCr.out, if_neg (by decide)] at hown
    obtain rfl : an = 0 := hown.len.symm
    have HR1 := Lib.hid (HRi.out _ hb7)
    clear HRi
    go_wp2_with fail
    with_reducible refine HR1.out.mono ?_
    rintro e8 w8 ⟨rfl, hb8⟩
    go_wp2
    go_ret
    exact ⟨rfl, hbw7.trans (hb8.mono hbw7.size)⟩
  · skip
    rw [HCr.out, if_pos rfl] at hown
    have hlen := kG_len 2 xx 0 0 yy (by decide) HRt.out
    rw [show 10 + pSz (knd 2) (fb 2 1) = 16 by decide] at hlen
    obtain rfl : an = 16 := hown.len.symm.trans hlen
    have HPa := Lib.hid (cparse_any A 16 ac _ w7 hown.row (cB_bytes _ HGo.out HCr.out) (by omega) hown.cap)
    have HOk := cOk_cB _ HGo.out HCr.out []
    have hdec := (cB_dec _ HGo.out HCr.out []).2.1
    rw [List.append_nil] at HOk hdec
    clear hlen hown
    go_upto_region 11 with fail
    go_wp2_with fail
    with_reducible refine HPa.out.mono ?_
    rintro e8 w8 ⟨hb8, hway⟩
    rcases hway with ⟨hno, _⟩ | ⟨_, v, rfl, hvr, hvg, _, _⟩
    · rw [HOk] at hno
      cases hno
    rw [hdec] at hvg
    obtain ⟨g2, QA, q, qc, PA, pn, pc⟩ := v
    simp only at hvg
    subst hvg
    have hq1 : (1 : Nat) = q := hvr.ps.len
    subst hq1
    have hpn : (0 : Nat) = pn := hvr.pr.len
    subst hpn
    clear HPa HOk hdec
    have hb78 := hb7.trans (hb8.mono hb7.size)
    have hk8 := kept_block hk7 hb8
    have hg8 := kept_block hg7 hb8
    have hb8w := hbw7.trans (hb8.mono hbw7.size)
    have hAx := (Below.refl w8.heap.size w8).alloc (Nat.le_refl _) (.cells #[.int .i16 0, .int .i16 0, .int .i16 0, .int .i16 0, .slice QA 1 qc, .slice PA 0 pc] 34)
    have hx9 := heap_alloc_new w8 (.cells #[.int .i16 0, .int .i16 0, .int .i16 0, .int .i16 0, .slice QA 1 qc, .slice PA 0 pc] 34)
    have hk9 := kept_block hk8 hAx
    have hg9 := kept_block hg8 hAx
    have hb9w := hb8w.trans (hAx.mono hb8w.size)
    have hps9 := hvr.ps.below hAx
    have hb79 := hb78.trans (hAx.mono hb78.size)
    have hnew := heap_alloc_new w8 (.cells #[.int .i16 0, .int .i16 0, .int .i16 0, .int .i16 0, .slice none 0 0, .slice none 0 0] 34)
    clear hb8 hb78 hk8 hg8 hb8w hAx hvr hk7 hg7 hbw7 hb7 c0 c1 c2 c3 c4 c5
    unfold CgV.val CgV.cells kG
    simp only
    go_upto_region 12 with fail
    clear hnew
    generalize w8.alloc _ = w9 at *
    have HR1 := Lib.hid (HRi.out _ hb79.drew)
    clear HRi hb79
    have heq2 := fun W => eq_mx xx 0 0 yy xx 0 0 yy W
    rw [show decide (([xx, 0, 0, yy] : List Int) = [xx, 0, 0, yy]) = true from decide_eq_true rfl] at heq2
    obtain ⟨gq, off, rfl, hgq, _, _, _, _, d4, d5, d6, d7⟩ := atPt hps9 (j := 0) rfl
    simp only [Nat.zero_mul, Nat.add_zero, kPt] at d4 d5 d6 d7
    obtain ⟨q0, q1, q2, q3⟩ := cells4 (w := w9.drew) hk9
    obtain ⟨c0, c1, c2, c3, c4, c5⟩ := cells6 (w := w9.drew) hg9
    obtain ⟨x0, x1, x2, x3, x4, x5⟩ := cells6 (w := w9.drew) hx9
    replace d4 : w9.drew.cell? _ = _ := d4
    replace d5 : w9.drew.cell? _ = _ := d5
    replace d6 : w9.drew.cell? _ = _ := d6
    replace d7 : w9.drew.cell? _ = _ := d7
    have hoff4 : off + 4 = off + 4 := rfl
    refine regF_start (by kernel_rfl) ?_
    refine regF_take (i := 0) (d := some 76) (v := ?_) (Ext.refl _) rfl rfl (by kernel_rfl) (by kernel_rfl) (by kernel_rfl) (fun _ _ _ h => h) (Or.inl ⟨by rfl, ?_⟩) ?_
    rotate_left
    · intro w' hx; have r0 := hx.cell c0; have r1 := hx.cell c1; have r2 := hx.cell c2; have r3 := hx.cell c3; have r4 := hx.cell c4; have r5 := hx.cell c5; (go_simp <;> with_reducible rfl)
    simp only [Act.put, List.setIfInBounds_toArray, List.set_cons_zero, List.set_cons_succ]
    refine regF_one 1 _ (by kernel_rfl) rfl ?_
    intro K hK
    go_simp
    refine HR1.out.mono ?_
    rintro e10 w10 ⟨rfl, hb10⟩
    have hX1 := (Ext.refl w9.drew).call hb10
    refine hK.out _ _ hX1 ?_
    clear hK K
    refine regF_take (i := 2) (d := some 78) (v := ?_) hX1 rfl rfl (by kernel_rfl) (by kernel_rfl) (by kernel_rfl) (fun _ _ _ h => h) (Or.inl ⟨by rfl, ?_⟩) ?_
    rotate_left
    · intro w' hx; (go_simp <;> with_reducible rfl)
    simp only [Act.put, List.setIfInBounds_toArray, List.set_cons_zero, List.set_cons_succ]
    refine regF_take (i := 3) (d := some 79) (v := ?_) hX1 rfl rfl (by kernel_rfl) (by kernel_rfl) (by kernel_rfl) (fun _ _ _ h => h) (Or.inl ⟨by rfl, ?_⟩) ?_
    rotate_left
    · intro w' hx; (go_simp <;> with_reducible rfl)
    simp only [Act.put, List.setIfInBounds_toArray, List.set_cons_zero, List.set_cons_succ]
    refine regF_take (i := 4) (d := some 80) (v := ?_) hX1 rfl rfl (by kernel_rfl) (by kernel_rfl) (by kernel_rfl) (fun _ _ _ h => h) (Or.inl ⟨by rfl, ?_⟩) ?_
    rotate_left
    · intro w' hx; (go_simp <;> with_reducible rfl)
    simp only [Act.put, List.setIfInBounds_toArray, List.set_cons_zero, List.set_cons_succ]
    refine regF_take (i := 5) (d := some 81) (v := ?_) hX1 rfl rfl (by kernel_rfl) (by kernel_rfl) (by kernel_rfl) (fun _ _ _ h => h) (Or.inl ⟨by rfl, ?_⟩) ?_
    rotate_left
    · intro w' hx; (go_simp <;> with_reducible rfl)
    simp only [Act.put, List.setIfInBounds_toArray, List.set_cons_zero, List.set_cons_succ]
    refine regF_take (i := 6) (d := some 82) (v := ?_) hX1 rfl rfl (by kernel_rfl) (by kernel_rfl) (by kernel_rfl) (fun _ _ _ h => h) (Or.inl ⟨by rfl, ?_⟩) ?_
    rotate_left
    · intro w' hx; (go_simp <;> with_reducible rfl)
    simp only [Act.put, List.setIfInBounds_toArray, List.set_cons_zero, List.set_cons_succ]
    refine regF_take (i := 7) (d := some 83) (v := ?_) hX1 rfl rfl (by kernel_rfl) (by kernel_rfl) (by kernel_rfl) (fun _ _ _ h => h) (Or.inl ⟨by rfl, ?_⟩) ?_
    rotate_left
    · intro w' hx; (go_simp <;> with_reducible rfl)
    simp only [Act.put, List.setIfInBounds_toArray, List.set_cons_zero, List.set_cons_succ]
    refine regF_take (i := 8) (d := some 84) (v := ?_) hX1 rfl rfl (by kernel_rfl) (by kernel_rfl) (by kernel_rfl) (fun _ _ _ h => h) (Or.inl ⟨by rfl, ?_⟩) ?_
    rotate_left
    · intro w' hx; (go_simp <;> with_reducible rfl)
    simp only [Act.put, List.setIfInBounds_toArray, List.set_cons_zero, List.set_cons_succ]
    refine regF_take (i := 9) (d := some 85) (v := ?_) hX1 rfl rfl (by kernel_rfl) (by kernel_rfl) (by kernel_rfl) (fun _ _ _ h => h) (Or.inl ⟨by rfl, ?_⟩) ?_
    rotate_left
    · intro w' hx; (go_simp <;> with_reducible rfl)
    simp only [Act.put, List.setIfInBounds_toArray, List.set_cons_zero, List.set_cons_succ]
    refine regF_take (i := 10) (d := some 86) (v := ?_) hX1 rfl rfl (by kernel_rfl) (by kernel_rfl) (by kernel_rfl) (fun _ _ _ h => h) (Or.inl ⟨by rfl, ?_⟩) ?_
    rotate_left
    · intro w' hx; (go_simp <;> with_reducible rfl)
    simp only [Act.put, List.setIfInBounds_toArray, List.set_cons_zero, List.set_cons_succ]
    refine regF_take (i := 11) (d := some 87) (v := ?_) hX1 rfl rfl (by kernel_rfl) (by kernel_rfl) (by kernel_rfl) (fun _ _ _ h => h) (Or.inl ⟨by rfl, ?_⟩) ?_
    rotate_left
    · intro w' hx; (go_simp <;> with_reducible rfl)
    simp only [Act.put, List.setIfInBounds_toArray, List.set_cons_zero, List.set_cons_succ]
    refine regF_take (i := 12) (d := some 88) (v := ?_) hX1 rfl rfl (by kernel_rfl) (by kernel_rfl) (by kernel_rfl) (fun _ _ _ h => h) (Or.inl ⟨by rfl, ?_⟩) ?_
    rotate_left
    · intro w' hx; (go_simp <;> with_reducible rfl)
    simp only [Act.put, List.setIfInBounds_toArray, List.set_cons_zero, List.set_cons_succ]
    refine regF_take (i := 13) (d := some 89) (v := ?_) hX1 rfl rfl (by kernel_rfl) (by kernel_rfl) (by kernel_rfl) (fun _ _ _ h => h) (Or.inl ⟨by rfl, ?_⟩) ?_
    rotate_left
    · intro w' hx; (go_simp <;> with_reducible rfl)
    simp only [Act.put, List.setIfInBounds_toArray, List.set_cons_zero, List.set_cons_succ]
    refine regF_take (i := 14) (d := some 90) (v := ?_) hX1 rfl rfl (by kernel_rfl) (by kernel_rfl) (by kernel_rfl) (fun _ _ _ h => h) (Or.inl ⟨by rfl, ?_⟩) ?_
    rotate_left
    · intro w' hx; have r4 := hx.cell x4; (go_simp <;> with_reducible rfl)
    simp only [Act.put, List.setIfInBounds_toArray, List.set_cons_zero, List.set_cons_succ]
    refine regF_take (i := 15) (d := some 91) (v := ?_) hX1 rfl rfl (by kernel_rfl) (by kernel_rfl) (by kernel_rfl) (fun _ _ _ h => h) (Or.inl ⟨by rfl, ?_⟩) ?_
    rotate_left
    · intro w' hx; (go_simp <;> with_reducible rfl)
    simp only [Act.put, List.setIfInBounds_toArray, List.set_cons_zero, List.set_cons_succ]
    refine regF_take (i := 16) (d := some 92) (v := ?_) hX1 rfl rfl (by kernel_rfl) (by kernel_rfl) (by kernel_rfl) (fun _ _ _ h => h) (Or.inl ⟨by rfl, ?_⟩) ?_
    rotate_left
    · intro w' hx; (go_simp <;> with_reducible rfl)
    simp only [Act.put, List.setIfInBounds_toArray, List.set_cons_zero, List.set_cons_succ]
    refine regF_take (i := 17) (d := some 93) (v := ?_) hX1 rfl rfl (by kernel_rfl) (by kernel_rfl) (by kernel_rfl) (fun _ _ _ h => h) (Or.inl ⟨by rfl, ?_⟩) ?_
    rotate_left
    · intro w' hx; have r4 := hx.cell d4; have r5 := hx.cell d5; have r6 := hx.cell d6; have r7 := hx.cell d7; (go_simp <;> with_reducible rfl)
    simp only [Act.put, List.setIfInBounds_toArray, List.set_cons_zero, List.set_cons_succ]
    refine regF_take (i := 18) (d := some 94) (v := ?_) hX1 rfl rfl (by kernel_rfl) (by kernel_rfl) (by kernel_rfl) (fun _ _ _ h => h) (Or.inl ⟨by rfl, ?_⟩) ?_
    rotate_left
    · intro w' hx; have r0 := hx.cell q0; have r1 := hx.cell q1; have r2 := hx.cell q2; have r3 := hx.cell q3; (go_simp <;> with_reducible rfl)
    simp only [Act.put, List.setIfInBounds_toArray, List.set_cons_zero, List.set_cons_succ]
    refine regF_take (i := 19) (d := some 95) (v := ?_) hX1 rfl rfl (by kernel_rfl) (by kernel_rfl) (by kernel_rfl) (fun _ _ _ h => h) (Or.inl ⟨by rfl, ?_⟩) ?_
    rotate_left
    · intro w' hx; (go_simp <;> with_reducible rfl)
    simp only [Act.put, List.setIfInBounds_toArray, List.set_cons_zero, List.set_cons_succ]
    refine regF_take (i := 20) (d := some 96) (v := ?_) hX1 rfl rfl (by kernel_rfl) (by kernel_rfl) (by kernel_rfl) (fun _ _ _ h => h) (Or.inl ⟨by rfl, ?_⟩) ?_
    rotate_left
    · intro w' hx; (go_simp <;> with_reducible rfl)
    simp only [Act.put, List.setIfInBounds_toArray, List.set_cons_zero, List.set_cons_succ]
    refine regF_one 21 _ (by kernel_rfl) rfl ?_
    intro K hK
    go_simp
    refine hK.out _ _ hX1 ?_
    clear hK K
    refine wpAnyH_done (by kernel_rfl) ?_ _
    go_wp2
    go_ret
    exact ⟨rfl, hb9w.drew.trans (hX1.mono hb9w.size)⟩

set_option maxRecDepth 1000000 in
set_option maxHeartbeats 8000000 in
theorem kinds_0_x (xx xy yx yy n : Int) (u e : Bool) (w : World) (n0 : 0 ≤ n) (n1 : n ≤ 255) (hK : n % 6 = 0) (h0 : -32768 ≤ xx ∧ xx ≤ 32767) (h1 : -32768 ≤ xy ∧ xy ≤ 32767) (h2 : -32768 ≤ yx ∧ yx ≤ 32767) (h3 : -32768 ≤ yy ∧ yy ≤ 32767) (hxy : (xy == 0) = false)
    (hU : decide ([xx, xy, yx, yy] = [16384, 0, 0, 16384]) = u) (hE : decide (xx = yy) = e) (hE2 : (xx == yy) = e) (hR : ptRight (kPt 2 xx xy yx yy) = u) :
    Calls Try.prog 3 #[mxV xx xy yx yy, .int .u8 n] w (True_ w) := by
  have HAw := Lib.hid (fun W => awake13_any W)
  have Hok := Lib.hid (kPt_ok (f := 2) (by decide) h0 h1 h2 h3)
  have HRt := Lib.hid hR
  have heq := fun W => eq_mx xx xy yx yy 16384 0 0 16384 W
  rw [hU] at heq
  have hA := (Below.refl w.heap.size w).alloc (Nat.le_refl _) (.cells #[.int .i16 xx, .int .i16 xy, .int .i16 yx, .int .i16 yy] 24)
  have hk := heap_alloc_new w (.cells #[.int .i16 xx, .int .i16 xy, .int .i16 yx, .int .i16 yy] 24)
  have hq : Int.tmod n 6 = 0 := by rw [Int.tmod_eq_emod_of_nonneg n0]; exact hK
  unfold mxV
  clear h0 h1 h2 h3 hU hR hK
  go_enter Try.func3, Try.ntmps3
  go_wp2_with fail
  with_reducible refine (HAw.out _).mono ?_
  rintro e0 w0 ⟨rfl, hb0⟩
  have hk0 := kept_block hk hb0
  have hbw := hA.trans (hb0.mono hA.size)
  have hlt : w.heap.size < w0.heap.size := lt_of_block hk0
  clear HAw hA hk hb0
  go_upto_region 4 with fail
  have hk1 := kept_alloc hk0 (.cells #[.int .u16 0, .int .u16 8, .int .u16 64, .int .u16 128, .int .u16 72, .int .u16 192] 26)
  have hb1 := hbw.alloc hbw.size (.cells #[.int .u16 0, .int .u16 8, .int .u16 64, .int .u16 128, .int .u16 72, .int .u16 192] 26)
  have hlt1 := lt_of_block hk1
  clear hk0 hbw hlt
  generalize w0.alloc _ = V0 at *
  have hor : bits .or .u16 2 0 = 2 := by decide
  obtain ⟨c0, c1, c2, c3⟩ := cells4 hk1
  have hA2 := (Below.refl V0.heap.size V0).alloc (Nat.le_refl _) (.cells #[.int .u16 2, .int .u16 0, .int .i16 0, .int .i16 0, .int .i16 xx, .int .i16 xy, .int .i16 yx, .int .i16 yy] 29)
  have hA3 := hA2.alloc hA2.size (.cells #[.int .i16 0, .int .i16 0, .int .i16 0, .int .i16 0, .slice (some ⟨V0.heap.size, 0, none⟩) 1 1, .slice none 0 0] 34)
  have hk2 := kept_block hk1 hA3
  have hb2 := hb1.trans (hA3.mono hb1.size)
  have hg2 := heap_alloc_new (V0.alloc (.cells #[.int .u16 2, .int .u16 0, .int .i16 0, .int .i16 0, .int .i16 xx, .int .i16 xy, .int .i16 yx, .int .i16 yy] 29)) (.cells #[.int .i16 0, .int .i16 0, .int .i16 0, .int .i16 0, .slice (some ⟨V0.heap.size, 0, none⟩) 1 1, .slice none 0 0] 34)
  have hps2 : RowS encPt 8 (V0.alloc (.cells #[.int .u16 2, .int .u16 0, .int .i16 0, .int .i16 0, .int .i16 xx, .int .i16 xy, .int .i16 yx, .int .i16 yy] 29)) (some ⟨V0.heap.size, 0, none⟩) 1 [kPt 2 xx xy yx yy] := rowS_vals encPt_len V0 29 [kPt 2 xx xy yx yy] _ rfl 1 rfl
  have hps3 := hps2.below ((Below.refl _ (V0.alloc (.cells #[.int .u16 2, .int .u16 0, .int .i16 0, .int .i16 0, .int .i16 xx, .int .i16 xy, .int .i16 yx, .int .i16 yy] 29))).alloc (Nat.le_refl _) (.cells #[.int .i16 0, .int .i16 0, .int .i16 0, .int .i16 0, .slice (some ⟨V0.heap.size, 0, none⟩) 1 1, .slice none 0 0] 34))
  have hnew := heap_alloc_new (V0.alloc (.cells #[.int .u16 2, .int .u16 0, .int .i16 0, .int .i16 0, .int .i16 xx, .int .i16 xy, .int .i16 yx, .int .i16 yy] 29)) (.cells #[.int .i16 0, .int .i16 0, .int .i16 0, .int .i16 0, .slice none 0 0, .slice none 0 0] 34)
  have hgs : (V0.alloc (.cells #[.int .u16 2, .int .u16 0, .int .i16 0, .int .i16 0, .int .i16 xx, .int .i16 xy, .int .i16 yx, .int .i16 yy] 29)).heap.size = V0.heap.size + 1 := by simp
  clear hA2 hA3 hps2 hk1 hb1
  go_upto_region 5 with fail
  clear hnew c0 c1 c2 c3 hor
  rw [hgs] at hg2
  have hgs2 := lt_of_block hg2
  clear hgs
  generalize (V0.alloc (.cells #[.int .u16 2, .int .u16 0, .int .i16 0, .int .i16 0, .int .i16 xx, .int .i16 xy, .int .i16 yx, .int .i16 yy] 29)).alloc _ = V at *
  generalize V0.heap.size = gp at *
  obtain ⟨c0, c1, c2, c3⟩ := cells4 hk2
  go_upto_region 6 with fail
  have q0 : V.drew.cell? ⟨w.heap.size, 0, none⟩ = _ := c0
  have q1 : V.drew.cell? ⟨w.heap.size, 1, none⟩ = _ := c1
  have q2 : V.drew.cell? ⟨w.heap.size, 2, none⟩ = _ := c2
  have q3 : V.drew.cell? ⟨w.heap.size, 3, none⟩ = _ := c3
  refine regF_start (by kernel_rfl) ?_
  refine regF_take (i := 0) (d := some 35) (v := ?_) (Ext.refl _) rfl rfl (by kernel_rfl) (by kernel_rfl) (by kernel_rfl) (fun _ _ _ h => h) (Or.inl ⟨by rfl, ?_⟩) ?_
  rotate_left
  · intro w' hx; have r0 := hx.cell q0; have r1 := hx.cell q1; have r2 := hx.cell q2; have r3 := hx.cell q3; (go_simp <;> with_reducible rfl)
  simp only [Act.put, List.setIfInBounds_toArray, List.set_cons_zero, List.set_cons_succ]
  refine regF_take (i := 3) (d := some 38) (v := ?_) (Ext.refl _) rfl rfl (by kernel_rfl) (by kernel_rfl) (by kernel_rfl) (fun _ _ _ h => h) (Or.inl ⟨by rfl, ?_⟩) ?_
  rotate_left
  · intro w' hx; (go_simp <;> with_reducible rfl)
  simp only [Act.put, List.setIfInBounds_toArray, List.set_cons_zero, List.set_cons_succ]
  refine regF_take (i := 11) (d := some 46) (v := ?_) (Ext.refl _) rfl rfl (by kernel_rfl) (by kernel_rfl) (by kernel_rfl) (fun _ _ _ h => h) (Or.inl ⟨by rfl, ?_⟩) ?_
  rotate_left
  · intro w' hx; (go_simp <;> with_reducible rfl)
  simp only [Act.put, List.setIfInBounds_toArray, List.set_cons_zero, List.set_cons_succ]
  refine regF_take (i := 13) (d := some 48) (v := ?_) (Ext.refl _) rfl rfl (by kernel_rfl) (by kernel_rfl) (by kernel_rfl) (fun _ _ _ h => h) (Or.inl ⟨by rfl, ?_⟩) ?_
  rotate_left
  · intro w' hx; (go_simp <;> with_reducible rfl)
  simp only [Act.put, List.setIfInBounds_toArray, List.set_cons_zero, List.set_cons_succ]
  refine regF_take (i := 14) (d := some 49) (v := ?_) (Ext.refl _) rfl rfl (by kernel_rfl) (by kernel_rfl) (by kernel_rfl) (fun _ _ _ h => h) (Or.inl ⟨by rfl, ?_⟩) ?_
  rotate_left
  · intro w' hx; (go_simp <;> with_reducible rfl)
  simp only [Act.put, List.setIfInBounds_toArray, List.set_cons_zero, List.set_cons_succ]
  refine regF_one 1 _ (by kernel_rfl) rfl ?_
  intro K hK
  go_simp
  refine (unit_any _).mono ?_
  rintro e4 W4 ⟨rfl, hb4⟩
  unfold mxV
  have hX1 := (Ext.refl V.drew).call hb4
  refine hK.out _ _ hX1 ?_
  clear hK K
  refine regF_take (i := 2) (d := some 37) (v := ?_) hX1 rfl rfl (by kernel_rfl) (by kernel_rfl) (by kernel_rfl) (fun _ _ _ h => h) (Or.inl ⟨by rfl, ?_⟩) ?_
  rotate_left
  · intro w' hx; (go_simp <;> with_reducible rfl)
  simp only [Act.put, List.setIfInBounds_toArray, List.set_cons_zero, List.set_cons_succ]
  refine regF_take (i := 4) (d := some 39) (v := ?_) hX1 rfl rfl (by kernel_rfl) (by kernel_rfl) (by kernel_rfl) (fun _ _ _ h => h) (Or.inl ⟨by rfl, ?_⟩) ?_
  rotate_left
  · intro w' hx; (go_simp <;> with_reducible rfl)
  simp only [Act.put, List.setIfInBounds_toArray, List.set_cons_zero, List.set_cons_succ]
  refine regF_take (i := 5) (d := some 40) (v := undef) hX1 rfl rfl (by kernel_rfl) (by kernel_rfl) (by kernel_rfl) (fun _ _ _ h => h) (Or.inr ⟨by rfl, rfl⟩) ?_
  simp only [Act.put, List.setIfInBounds_toArray, List.set_cons_zero, List.set_cons_succ]
  refine regF_take (i := 6) (d := some 41) (v := undef) hX1 rfl rfl (by kernel_rfl) (by kernel_rfl) (by kernel_rfl) (fun _ _ _ h => h) (Or.inr ⟨by rfl, rfl⟩) ?_
  simp only [Act.put, List.setIfInBounds_toArray, List.set_cons_zero, List.set_cons_succ]
  refine regF_take (i := 7) (d := some 42) (v := undef) hX1 rfl rfl (by kernel_rfl) (by kernel_rfl) (by kernel_rfl) (fun _ _ _ h => h) (Or.inr ⟨by rfl, rfl⟩) ?_
  simp only [Act.put, List.setIfInBounds_toArray, List.set_cons_zero, List.set_cons_succ]
  refine regF_take (i := 8) (d := some 43) (v := undef) hX1 rfl rfl (by kernel_rfl) (by kernel_rfl) (by kernel_rfl) (fun _ _ _ h => h) (Or.inr ⟨by rfl, rfl⟩) ?_
  simp only [Act.put, List.setIfInBounds_toArray, List.set_cons_zero, List.set_cons_succ]
  refine regF_take (i := 9) (d := some 44) (v := undef) hX1 rfl rfl (by kernel_rfl) (by kernel_rfl) (by kernel_rfl) (fun _ _ _ h => h) (Or.inr ⟨by rfl, rfl⟩) ?_
  simp only [Act.put, List.setIfInBounds_toArray, List.set_cons_zero, List.set_cons_succ]
  refine regF_take (i := 10) (d := some 45) (v := ?_) hX1 rfl rfl (by kernel_rfl) (by kernel_rfl) (by kernel_rfl) (fun _ _ _ h => h) (Or.inl ⟨by rfl, ?_⟩) ?_
  rotate_left
  · intro w' hx; (go_simp <;> with_reducible rfl)
  simp only [Act.put, List.setIfInBounds_toArray, List.set_cons_zero, List.set_cons_succ]
  refine regF_one 12 _ (by kernel_rfl) rfl ?_
  intro K hK
  go_simp
  have hX2 := hX1.new (.cells #[.bool u, .bool false, .bool false, .bool true, .bool false, .bool false] 4)
  have hkn := heap_alloc_new W4 (.cells #[.bool u, .bool false, .bool false, .bool true, .bool false, .bool false] 4)
  have cK : (W4.alloc (.cells #[.bool u, .bool false, .bool false, .bool true, .bool false, .bool false] 4)).cell? ⟨W4.heap.size, 0, none⟩ = some (.bool u) := cell_of_row _ _ 0 _ _ _ hkn
  refine hK.out _ _ hX2 ?_
  generalize W4.alloc _ = W5 at *
  clear hK K hkn
  refine regF_one 15 _ (by kernel_rfl) rfl ?_
  intro K hK
  go_simp
  refine hK.out _ _ hX2 ?_
  clear hK K
  refine regF_one 16 _ (by kernel_rfl) rfl ?_
  intro K hK
  go_simp
  refine hK.out _ _ hX2 ?_
  clear hK K
  refine regF_one 17 _ (by kernel_rfl) rfl ?_
  intro K hK
  go_simp
  refine hK.out _ _ hX2 ?_
  clear hK K
  refine wpAnyH_done (by kernel_rfl) ?_ _
  have hb5 := hb2.drew.trans (hX2.mono hb2.size)
  have hk5 : W5.heap[w.heap.size]? = _ := kept_block (w := V.drew) hk2 hX2
  have hg5 : W5.heap[gp + 1]? = _ := kept_block (w := V.drew) hg2 hX2
  have hps5 := (hps3.below (Below.refl _ V).drew).below hX2
  clear hb2 hk2 hg2 hps3 c0 c1 c2 c3 q0 q1 q2 q3 hb4 hX1 hX2
  have hgo : (kG 2 xx xy yx yy).ok := kG_ok Hok.out
  have hcr : cRight (kG 2 xx xy yx yy) = u := (kG_right _ _ _ _ _ (by decide)).trans HRt.out
  go_upto_region 8 with fail
  clear cK
  have hb6 := hb5.alloc hb5.size (.cells #[.int .i64 0, .int .i64 2, .int .i64 4, .int .i64 8, .int .i64 0, .int .i64 0] 3)
  have hX6 := (Below.refl W5.heap.size W5).alloc (Nat.le_refl _) (.cells #[.int .i64 0, .int .i64 2, .int .i64 4, .int .i64 8, .int .i64 0, .int .i64 0] 3)
  have hk6 := kept_block hk5 hX6
  have hg6 := kept_block hg5 hX6
  have hps6 := hps5.below hX6
  clear hb5 hk5 hg5 hps5 hX6
  generalize W5.alloc _ = W6 at *
  have hrows : CgV.rows W6 ⟨(kG 2 xx xy yx yy), some ⟨gp, 0, none⟩, 1, 1, none, 0, 0⟩ := ⟨hps6, Row.empty _ _⟩
  have HBy : Hid (Calls Try.prog 17 #[.agg #[.int .i16 0, .int .i16 0, .int .i16 0, .int .i16 0, .slice (some ⟨gp, 0, none⟩) 1 1, .slice none 0 0]] W6 (RetB W6 (cBytes (kG 2 xx xy yx yy)))) := cbytes_any ⟨(kG 2 xx xy yx yy), some ⟨gp, 0, none⟩, 1, 1, none, 0, 0⟩ W6 hrows (by show (1 : Nat) ≤ 1000000; omega) (by show (0 : Nat) ≤ 1000000; omega) hgo
  have HRi : Hid (∀ W, Below W6.heap.size W6 W → Calls Try.prog 18 #[.agg #[.int .i16 0, .int .i16 0, .int .i16 0, .int .i16 0, .slice (some ⟨gp, 0, none⟩) 1 1, .slice none 0 0]] W (Ret W (.bool u))) := fun W hW => by
    have h := cright_any ⟨(kG 2 xx xy yx yy), some ⟨gp, 0, none⟩, 1, 1, none, 0, 0⟩ W (hrows.below hW) (by show (1 : Nat) ≤ 1000000; omega) (by show (0 : Nat) ≤ 1000000; omega) hgo
    rw [show CgV.g ⟨(kG 2 xx xy yx yy), some ⟨gp, 0, none⟩, 1, 1, none, 0, 0⟩ = (kG 2 xx xy yx yy) from rfl, hcr] at h
    exact h
  have HGo := Lib.hid hgo
  have HCr := Lib.hid hcr
  clear hrows hps6 hcr hgo
  obtain ⟨c0, c1, c2, c3, c4, c5⟩ := cells6 hg6
  go_wp2_with fail
  with_reducible refine HBy.out.mono ?_
  rintro e7 w7 ⟨A, an, ac, rfl, hown, hb7⟩
  have hk7 := kept_block hk6 hb7
  have hg7 := kept_block hg6 hb7
  have hbw7 := hb6.trans (hb7.mono hb6.size)
  clear HBy hk6 hg6 hb6 c0 c1 c2 c3 c4 c5
  obtain ⟨c0, c1, c2, c3, c4, c5⟩ := cells6 hg7
  unfold cBytes at hown
  cases u
  · skip
    rw [HCr.out, if_neg (by decide)] at hown
    obtain rfl : an = 0 := hown.len.symm
    have HR1 := Lib.hid (HRi.out _ hb7)
    clear HRi
    go_wp2_with fail
    with_reducible refine HR1.out.mono ?_
    rintro e8 w8 ⟨rfl, hb8⟩
    go_wp2
    go_ret
    exact ⟨rfl, hbw7.trans (hb8.mono hbw7.size)⟩
  · skip
    rw [HCr.out, if_pos rfl] at hown
    have hlen := kG_len 2 xx xy yx yy (by decide) HRt.out
    rw [show 10 + pSz (knd 2) (fb 2 1) = 16 by decide] at hlen
    obtain rfl : an = 16 := hown.len.symm.trans hlen
    have HPa := Lib.hid (cparse_any A 16 ac _ w7 hown.row (cB_bytes _ HGo.out HCr.out) (by omega) hown.cap)
    have HOk := cOk_cB _ HGo.out HCr.out []
    have hdec := (cB_dec _ HGo.out HCr.out []).2.1
    rw [List.append_nil] at HOk hdec
    clear hlen hown
    go_upto_region 11 with fail
    go_wp2_with fail
    with_reducible refine HPa.out.mono ?_
    rintro e8 w8 ⟨hb8, hway⟩
    rcases hway with ⟨hno, _⟩ | ⟨_, v, rfl, hvr, hvg, _, _⟩
    · rw [HOk] at hno
      cases hno
    rw [hdec] at hvg
    obtain ⟨g2, QA, q, qc, PA, pn, pc⟩ := v
    simp only at hvg
    subst hvg
    have hq1 : (1 : Nat) = q := hvr.ps.len
    subst hq1
    have hpn : (0 : Nat) = pn := hvr.pr.len
    subst hpn
    clear HPa HOk hdec
    have hb78 := hb7.trans (hb8.mono hb7.size)
    have hk8 := kept_block hk7 hb8
    have hg8 := kept_block hg7 hb8
    have hb8w := hbw7.trans (hb8.mono hbw7.size)
    have hAx := (Below.refl w8.heap.size w8).alloc (Nat.le_refl _) (.cells #[.int .i16 0, .int .i16 0, .int .i16 0, .int .i16 0, .slice QA 1 qc, .slice PA 0 pc] 34)
    have hx9 := heap_alloc_new w8 (.cells #[.int .i16 0, .int .i16 0, .int .i16 0, .int .i16 0, .slice QA 1 qc, .slice PA 0 pc] 34)
    have hk9 := kept_block hk8 hAx
    have hg9 := kept_block hg8 hAx
    have hb9w := hb8w.trans (hAx.mono hb8w.size)
    have hps9 := hvr.ps.below hAx
    have hb79 := hb78.trans (hAx.mono hb78.size)
    have hnew := heap_alloc_new w8 (.cells #[.int .i16 0, .int .i16 0, .int .i16 0, .int .i16 0, .slice none 0 0, .slice none 0 0] 34)
    clear hb8 hb78 hk8 hg8 hb8w hAx hvr hk7 hg7 hbw7 hb7 c0 c1 c2 c3 c4 c5
    unfold CgV.val CgV.cells kG
    simp only
    go_upto_region 12 with fail
    clear hnew
    generalize w8.alloc _ = w9 at *
    have HR1 := Lib.hid (HRi.out _ hb79.drew)
    clear HRi hb79
    have heq2 := fun W => eq_mx xx xy yx yy xx xy yx yy W
    rw [show decide (([xx, xy, yx, yy] : List Int) = [xx, xy, yx, yy]) = true from decide_eq_true rfl] at heq2
    obtain ⟨gq, off, rfl, hgq, _, _, _, _, d4, d5, d6, d7⟩ := atPt hps9 (j := 0) rfl
    simp only [Nat.zero_mul, Nat.add_zero, kPt] at d4 d5 d6 d7
    obtain ⟨q0, q1, q2, q3⟩ := cells4 (w := w9.drew) hk9
    obtain ⟨c0, c1, c2, c3, c4, c5⟩ := cells6 (w := w9.drew) hg9
    obtain ⟨x0, x1, x2, x3, x4, x5⟩ := cells6 (w := w9.drew) hx9
    replace d4 : w9.drew.cell? _ = _ := d4
    replace d5 : w9.drew.cell? _ = _ := d5
    replace d6 : w9.drew.cell? _ = _ := d6
    replace d7 : w9.drew.cell? _ = _ := d7
    have hoff4 : off + 4 = off + 4 := rfl
    refine regF_start (by kernel_rfl) ?_
    refine regF_take (i := 0) (d := some 76) (v := ?_) (Ext.refl _) rfl rfl (by kernel_rfl) (by kernel_rfl) (by kernel_rfl) (fun _ _ _ h => h) (Or.inl ⟨by rfl, ?_⟩) ?_
    rotate_left
    · intro w' hx; have r0 := hx.cell c0; have r1 := hx.cell c1; have r2 := hx.cell c2; have r3 := hx.cell c3; have r4 := hx.cell c4; have r5 := hx.cell c5; (go_simp <;> with_reducible rfl)
    simp only [Act.put, List.setIfInBounds_toArray, List.set_cons_zero, List.set_cons_succ]
    refine regF_one 1 _ (by kernel_rfl) rfl ?_
    intro K hK
    go_simp
    refine HR1.out.mono ?_
    rintro e10 w10 ⟨rfl, hb10⟩
    have hX1 := (Ext.refl w9.drew).call hb10
    refine hK.out _ _ hX1 ?_
    clear hK K
    refine regF_take (i := 2) (d := some 78) (v := ?_) hX1 rfl rfl (by kernel_rfl) (by kernel_rfl) (by kernel_rfl) (fun _ _ _ h => h) (Or.inl ⟨by rfl, ?_⟩) ?_
    rotate_left
    · intro w' hx; (go_simp <;> with_reducible rfl)
    simp only [Act.put, List.setIfInBounds_toArray, List.set_cons_zero, List.set_cons_succ]
    refine regF_take (i := 3) (d := some 79) (v := ?_) hX1 rfl rfl (by kernel_rfl) (by kernel_rfl) (by kernel_rfl) (fun _ _ _ h => h) (Or.inl ⟨by rfl, ?_⟩) ?_
    rotate_left
    · intro w' hx; (go_simp <;> with_reducible rfl)
    simp only [Act.put, List.setIfInBounds_toArray, List.set_cons_zero, List.set_cons_succ]
    refine regF_take (i := 4) (d := some 80) (v := ?_) hX1 rfl rfl (by kernel_rfl) (by kernel_rfl) (by kernel_rfl) (fun _ _ _ h => h) (Or.inl ⟨by rfl, ?_⟩) ?_
    rotate_left
    · intro w' hx; (go_simp <;> with_reducible rfl)
    simp only [Act.put, List.setIfInBounds_toArray, List.set_cons_zero, List.set_cons_succ]
    refine regF_take (i := 5) (d := some 81) (v := ?_) hX1 rfl rfl (by kernel_rfl) (by kernel_rfl) (by kernel_rfl) (fun _ _ _ h => h) (Or.inl ⟨by rfl, ?_⟩) ?_
    rotate_left
    · intro w' hx; (go_simp <;> with_reducible rfl)
    simp only [Act.put, List.setIfInBounds_toArray, List.set_cons_zero, List.set_cons_succ]
    refine regF_take (i := 6) (d := some 82) (v := ?_) hX1 rfl rfl (by kernel_rfl) (by kernel_rfl) (by kernel_rfl) (fun _ _ _ h => h) (Or.inl ⟨by rfl, ?_⟩) ?_
    rotate_left
    · intro w' hx; (go_simp <;> with_reducible rfl)
    simp only [Act.put, List.setIfInBounds_toArray, List.set_cons_zero, List.set_cons_succ]
    refine regF_take (i := 7) (d := some 83) (v := ?_) hX1 rfl rfl (by kernel_rfl) (by kernel_rfl) (by kernel_rfl) (fun _ _ _ h => h) (Or.inl ⟨by rfl, ?_⟩) ?_
    rotate_left
    · intro w' hx; (go_simp <;> with_reducible rfl)
    simp only [Act.put, List.setIfInBounds_toArray, List.set_cons_zero, List.set_cons_succ]
    refine regF_take (i := 8) (d := some 84) (v := ?_) hX1 rfl rfl (by kernel_rfl) (by kernel_rfl) (by kernel_rfl) (fun _ _ _ h => h) (Or.inl ⟨by rfl, ?_⟩) ?_
    rotate_left
    · intro w' hx; (go_simp <;> with_reducible rfl)
    simp only [Act.put, List.setIfInBounds_toArray, List.set_cons_zero, List.set_cons_succ]
    refine regF_take (i := 9) (d := some 85) (v := ?_) hX1 rfl rfl (by kernel_rfl) (by kernel_rfl) (by kernel_rfl) (fun _ _ _ h => h) (Or.inl ⟨by rfl, ?_⟩) ?_
    rotate_left
    · intro w' hx; (go_simp <;> with_reducible rfl)
    simp only [Act.put, List.setIfInBounds_toArray, List.set_cons_zero, List.set_cons_succ]
    refine regF_take (i := 10) (d := some 86) (v := ?_) hX1 rfl rfl (by kernel_rfl) (by kernel_rfl) (by kernel_rfl) (fun _ _ _ h => h) (Or.inl ⟨by rfl, ?_⟩) ?_
    rotate_left
    · intro w' hx; (go_simp <;> with_reducible rfl)
    simp only [Act.put, List.setIfInBounds_toArray, List.set_cons_zero, List.set_cons_succ]
    refine regF_take (i := 11) (d := some 87) (v := ?_) hX1 rfl rfl (by kernel_rfl) (by kernel_rfl) (by kernel_rfl) (fun _ _ _ h => h) (Or.inl ⟨by rfl, ?_⟩) ?_
    rotate_left
    · intro w' hx; (go_simp <;> with_reducible rfl)
    simp only [Act.put, List.setIfInBounds_toArray, List.set_cons_zero, List.set_cons_succ]
    refine regF_take (i := 12) (d := some 88) (v := ?_) hX1 rfl rfl (by kernel_rfl) (by kernel_rfl) (by kernel_rfl) (fun _ _ _ h => h) (Or.inl ⟨by rfl, ?_⟩) ?_
    rotate_left
    · intro w' hx; (go_simp <;> with_reducible rfl)
    simp only [Act.put, List.setIfInBounds_toArray, List.set_cons_zero, List.set_cons_succ]
    refine regF_take (i := 13) (d := some 89) (v := ?_) hX1 rfl rfl (by kernel_rfl) (by kernel_rfl) (by kernel_rfl) (fun _ _ _ h => h) (Or.inl ⟨by rfl, ?_⟩) ?_
    rotate_left
    · intro w' hx; (go_simp <;> with_reducible rfl)
    simp only [Act.put, List.setIfInBounds_toArray, List.set_cons_zero, List.set_cons_succ]
    refine regF_take (i := 14) (d := some 90) (v := ?_) hX1 rfl rfl (by kernel_rfl) (by kernel_rfl) (by kernel_rfl) (fun _ _ _ h => h) (Or.inl ⟨by rfl, ?_⟩) ?_
    rotate_left
    · intro w' hx; have r4 := hx.cell x4; (go_simp <;> with_reducible rfl)
    simp only [Act.put, List.setIfInBounds_toArray, List.set_cons_zero, List.set_cons_succ]
    refine regF_take (i := 15) (d := some 91) (v := ?_) hX1 rfl rfl (by kernel_rfl) (by kernel_rfl) (by kernel_rfl) (fun _ _ _ h => h) (Or.inl ⟨by rfl, ?_⟩) ?_
    rotate_left
    · intro w' hx; (go_simp <;> with_reducible rfl)
    simp only [Act.put, List.setIfInBounds_toArray, List.set_cons_zero, List.set_cons_succ]
    refine regF_take (i := 16) (d := some 92) (v := ?_) hX1 rfl rfl (by kernel_rfl) (by kernel_rfl) (by kernel_rfl) (fun _ _ _ h => h) (Or.inl ⟨by rfl, ?_⟩) ?_
    rotate_left
    · intro w' hx; (go_simp <;> with_reducible rfl)
    simp only [Act.put, List.setIfInBounds_toArray, List.set_cons_zero, List.set_cons_succ]
    refine regF_take (i := 17) (d := some 93) (v := ?_) hX1 rfl rfl (by kernel_rfl) (by kernel_rfl) (by kernel_rfl) (fun _ _ _ h => h) (Or.inl ⟨by rfl, ?_⟩) ?_
    rotate_left
    · intro w' hx; have r4 := hx.cell d4; have r5 := hx.cell d5; have r6 := hx.cell d6; have r7 := hx.cell d7; (go_simp <;> with_reducible rfl)
    simp only [Act.put, List.setIfInBounds_toArray, List.set_cons_zero, List.set_cons_succ]
    refine regF_take (i := 18) (d := some 94) (v := ?_) hX1 rfl rfl (by kernel_rfl) (by kernel_rfl) (by kernel_rfl) (fun _ _ _ h => h) (Or.inl ⟨by rfl, ?_⟩) ?_
    rotate_left
    · intro w' hx; have r0 := hx.cell q0; have r1 := hx.cell q1; have r2 := hx.cell q2; have r3 := hx.cell q3; (go_simp <;> with_reducible rfl)
    simp only [Act.put, List.setIfInBounds_toArray, List.set_cons_zero, List.set_cons_succ]
    refine regF_take (i := 19) (d := some 95) (v := ?_) hX1 rfl rfl (by kernel_rfl) (by kernel_rfl) (by kernel_rfl) (fun _ _ _ h => h) (Or.inl ⟨by rfl, ?_⟩) ?_
    rotate_left
    · intro w' hx; (go_simp <;> with_reducible rfl)
    simp only [Act.put, List.setIfInBounds_toArray, List.set_cons_zero, List.set_cons_succ]
    refine regF_take (i := 20) (d := some 96) (v := ?_) hX1 rfl rfl (by kernel_rfl) (by kernel_rfl) (by kernel_rfl) (fun _ _ _ h => h) (Or.inl ⟨by rfl, ?_⟩) ?_
    rotate_left
    · intro w' hx; (go_simp <;> with_reducible rfl)
    simp only [Act.put, List.setIfInBounds_toArray, List.set_cons_zero, List.set_cons_succ]
    refine regF_one 21 _ (by kernel_rfl) rfl ?_
    intro K hK
    go_simp
    refine hK.out _ _ hX1 ?_
    clear hK K
    refine wpAnyH_done (by kernel_rfl) ?_ _
    go_wp2
    go_ret
    exact ⟨rfl, hb9w.drew.trans (hX1.mono hb9w.size)⟩

set_option maxRecDepth 1000000 in
set_option maxHeartbeats 8000000 in
theorem kinds_0_y (xx xy yx yy n : Int) (u e : Bool) (w : World) (n0 : 0 ≤ n) (n1 : n ≤ 255) (hK : n % 6 = 0) (h0 : -32768 ≤ xx ∧ xx ≤ 32767) (h1 : -32768 ≤ xy ∧ xy ≤ 32767) (h2 : -32768 ≤ yx ∧ yx ≤ 32767) (h3 : -32768 ≤ yy ∧ yy ≤ 32767) (hxy : xy = 0) (hyx : (yx == 0) = false)
    (hU : decide ([xx, xy, yx, yy] = [16384, 0, 0, 16384]) = u) (hE : decide (xx = yy) = e) (hE2 : (xx == yy) = e) (hR : ptRight (kPt 2 xx xy yx yy) = u) :
    Calls Try.prog 3 #[mxV xx xy yx yy, .int .u8 n] w (True_ w) := by
  subst hxy
  have HAw := Lib.hid (fun W => awake13_any W)
  have Hok := Lib.hid (kPt_ok (f := 2) (by decide) h0 h1 h2 h3)
  have HRt := Lib.hid hR
  have heq := fun W => eq_mx xx 0 yx yy 16384 0 0 16384 W
  rw [hU] at heq
  have hA := (Below.refl w.heap.size w).alloc (Nat.le_refl _) (.cells #[.int .i16 xx, .int .i16 0, .int .i16 yx, .int .i16 yy] 24)
  have hk := heap_alloc_new w (.cells #[.int .i16 xx, .int .i16 0, .int .i16 yx, .int .i16 yy] 24)
  have hq : Int.tmod n 6 = 0 := by rw [Int.tmod_eq_emod_of_nonneg n0]; exact hK
  unfold mxV
  clear h0 h1 h2 h3 hU hR hK
  go_enter Try.func3, Try.ntmps3
  go_wp2_with fail
  with_reducible refine (HAw.out _).mono ?_
  rintro e0 w0 ⟨rfl, hb0⟩
  have hk0 := kept_block hk hb0
  have hbw := hA.trans (hb0.mono hA.size)
  have hlt : w.heap.size < w0.heap.size := lt_of_block hk0
  clear HAw hA hk hb0
  go_upto_region 4 with fail
  have hk1 := kept_alloc hk0 (.cells #[.int .u16 0, .int .u16 8, .int .u16 64, .int .u16 128, .int .u16 72, .int .u16 192] 26)
  have hb1 := hbw.alloc hbw.size (.cells #[.int .u16 0, .int .u16 8, .int .u16 64, .int .u16 128, .int .u16 72, .int .u16 192] 26)
  have hlt1 := lt_of_block hk1
  clear hk0 hbw hlt
  generalize w0.alloc _ = V0 at *
  have hor : bits .or .u16 2 0 = 2 := by decide
  obtain ⟨c0, c1, c2, c3⟩ := cells4 hk1
  have hA2 := (Below.refl V0.heap.size V0).alloc (Nat.le_refl _) (.cells #[.int .u16 2, .int .u16 0, .int .i16 0, .int .i16 0, .int .i16 xx, .int .i16 0, .int .i16 yx, .int .i16 yy] 29)
  have hA3 := hA2.alloc hA2.size (.cells #[.int .i16 0, .int .i16 0, .int .i16 0, .int .i16 0, .slice (some ⟨V0.heap.size, 0, none⟩) 1 1, .slice none 0 0] 34)
  have hk2 := kept_block hk1 hA3
  have hb2 := hb1.trans (hA3.mono hb1.size)
  have hg2 := heap_alloc_new (V0.alloc (.cells #[.int .u16 2, .int .u16 0, .int .i16 0, .int .i16 0, .int .i16 xx, .int .i16 0, .int .i16 yx, .int .i16 yy] 29)) (.cells #[.int .i16 0, .int .i16 0, .int .i16 0, .int .i16 0, .slice (some ⟨V0.heap.size, 0, none⟩) 1 1, .slice none 0 0] 34)
  have hps2 : RowS encPt 8 (V0.alloc (.cells #[.int .u16 2, .int .u16 0, .int .i16 0, .int .i16 0, .int .i16 xx, .int .i16 0, .int .i16 yx, .int .i16 yy] 29)) (some ⟨V0.heap.size, 0, none⟩) 1 [kPt 2 xx 0 yx yy] := rowS_vals encPt_len V0 29 [kPt 2 xx 0 yx yy] _ rfl 1 rfl
  have hps3 := hps2.below ((Below.refl _ (V0.alloc (.cells #[.int .u16 2, .int .u16 0, .int .i16 0, .int .i16 0, .int .i16 xx, .int .i16 0, .int .i16 yx, .int .i16 yy] 29))).alloc (Nat.le_refl _) (.cells #[.int .i16 0, .int .i16 0, .int .i16 0, .int .i16 0, .slice (some ⟨V0.heap.size, 0, none⟩) 1 1, .slice none 0 0] 34))
  have hnew := heap_alloc_new (V0.alloc (.cells #[.int .u16 2, .int .u16 0, .int .i16 0, .int .i16 0, .int .i16 xx, .int .i16 0, .int .i16 yx, .int .i16 yy] 29)) (.cells #[.int .i16 0, .int .i16 0, .int .i16 0, .int .i16 0, .slice none 0 0, .slice none 0 0] 34)
  have hgs : (V0.alloc (.cells #[.int .u16 2, .int .u16 0, .int .i16 0, .int .i16 0, .int .i16 xx, .int .i16 0, .int .i16 yx, .int .i16 yy] 29)).heap.size = V0.heap.size + 1 := by simp
  clear hA2 hA3 hps2 hk1 hb1
  go_upto_region 5 with fail
  clear hnew c0 c1 c2 c3 hor
  rw [hgs] at hg2
  have hgs2 := lt_of_block hg2
  clear hgs
  generalize (V0.alloc (.cells #[.int .u16 2, .int .u16 0, .int .i16 0, .int .i16 0, .int .i16 xx, .int .i16 0, .int .i16 yx, .int .i16 yy] 29)).alloc _ = V at *
  generalize V0.heap.size = gp at *
  obtain ⟨c0, c1, c2, c3⟩ := cells4 hk2
  go_upto_region 6 with fail
  have q0 : V.drew.cell? ⟨w.heap.size, 0, none⟩ = _ := c0
  have q1 : V.drew.cell? ⟨w.heap.size, 1, none⟩ = _ := c1
  have q2 : V.drew.cell? ⟨w.heap.size, 2, none⟩ = _ := c2
  have q3 : V.drew.cell? ⟨w.heap.size, 3, none⟩ = _ := c3
  refine regF_start (by kernel_rfl) ?_
  refine regF_take (i := 0) (d := some 35) (v := ?_) (Ext.refl _) rfl rfl (by kernel_rfl) (by kernel_rfl) (by kernel_rfl) (fun _ _ _ h => h) (Or.inl ⟨by rfl, ?_⟩) ?_
  rotate_left
  · intro w' hx; have r0 := hx.cell q0; have r1 := hx.cell q1; have r2 := hx.cell q2; have r3 := hx.cell q3; (go_simp <;> with_reducible rfl)
  simp only [Act.put, List.setIfInBounds_toArray, List.set_cons_zero, List.set_cons_succ]
  refine regF_take (i := 3) (d := some 38) (v := ?_) (Ext.refl _) rfl rfl (by kernel_rfl) (by kernel_rfl) (by kernel_rfl) (fun _ _ _ h => h) (Or.inl ⟨by rfl, ?_⟩) ?_
  rotate_left
  · intro w' hx; (go_simp <;> with_reducible rfl)
  simp only [Act.put, List.setIfInBounds_toArray, List.set_cons_zero, List.set_cons_succ]
  refine regF_take (i := 11) (d := some 46) (v := ?_) (Ext.refl _) rfl rfl (by kernel_rfl) (by kernel_rfl) (by kernel_rfl) (fun _ _ _ h => h) (Or.inl ⟨by rfl, ?_⟩) ?_
  rotate_left
  · intro w' hx; (go_simp <;> with_reducible rfl)
  simp only [Act.put, List.setIfInBounds_toArray, List.set_cons_zero, List.set_cons_succ]
  refine regF_take (i := 13) (d := some 48) (v := ?_) (Ext.refl _) rfl rfl (by kernel_rfl) (by kernel_rfl) (by kernel_rfl) (fun _ _ _ h => h) (Or.inl ⟨by rfl, ?_⟩) ?_
  rotate_left
  · intro w' hx; (go_simp <;> with_reducible rfl)
  simp only [Act.put, List.setIfInBounds_toArray, List.set_cons_zero, List.set_cons_succ]
  refine regF_take (i := 14) (d := some 49) (v := ?_) (Ext.refl _) rfl rfl (by kernel_rfl) (by kernel_rfl) (by kernel_rfl) (fun _ _ _ h => h) (Or.inl ⟨by rfl, ?_⟩) ?_
  rotate_left
  · intro w' hx; (go_simp <;> with_reducible rfl)
  simp only [Act.put, List.setIfInBounds_toArray, List.set_cons_zero, List.set_cons_succ]
  refine regF_one 1 _ (by kernel_rfl) rfl ?_
  intro K hK
  go_simp
  refine (unit_any _).mono ?_
  rintro e4 W4 ⟨rfl, hb4⟩
  unfold mxV
  have hX1 := (Ext.refl V.drew).call hb4
  refine hK.out _ _ hX1 ?_
  clear hK K
  refine regF_take (i := 2) (d := some 37) (v := ?_) hX1 rfl rfl (by kernel_rfl) (by kernel_rfl) (by kernel_rfl) (fun _ _ _ h => h) (Or.inl ⟨by rfl, ?_⟩) ?_
  rotate_left
  · intro w' hx; (go_simp <;> with_reducible rfl)
  simp only [Act.put, List.setIfInBounds_toArray, List.set_cons_zero, List.set_cons_succ]
  refine regF_take (i := 4) (d := some 39) (v := ?_) hX1 rfl rfl (by kernel_rfl) (by kernel_rfl) (by kernel_rfl) (fun _ _ _ h => h) (Or.inl ⟨by rfl, ?_⟩) ?_
  rotate_left
  · intro w' hx; (go_simp <;> with_reducible rfl)
  simp only [Act.put, List.setIfInBounds_toArray, List.set_cons_zero, List.set_cons_succ]
  refine regF_take (i := 5) (d := some 40) (v := undef) hX1 rfl rfl (by kernel_rfl) (by kernel_rfl) (by kernel_rfl) (fun _ _ _ h => h) (Or.inr ⟨by rfl, rfl⟩) ?_
  simp only [Act.put, List.setIfInBounds_toArray, List.set_cons_zero, List.set_cons_succ]
  refine regF_take (i := 6) (d := some 41) (v := undef) hX1 rfl rfl (by kernel_rfl) (by kernel_rfl) (by kernel_rfl) (fun _ _ _ h => h) (Or.inr ⟨by rfl, rfl⟩) ?_
  simp only [Act.put, List.setIfInBounds_toArray, List.set_cons_zero, List.set_cons_succ]
  refine regF_take (i := 7) (d := some 42) (v := undef) hX1 rfl rfl (by kernel_rfl) (by kernel_rfl) (by kernel_rfl) (fun _ _ _ h => h) (Or.inr ⟨by rfl, rfl⟩) ?_
  simp only [Act.put, List.setIfInBounds_toArray, List.set_cons_zero, List.set_cons_succ]
  refine regF_take (i := 8) (d := some 43) (v := undef) hX1 rfl rfl (by kernel_rfl) (by kernel_rfl) (by kernel_rfl) (fun _ _ _ h => h) (Or.inr ⟨by rfl, rfl⟩) ?_
  simp only [Act.put, List.setIfInBounds_toArray, List.set_cons_zero, List.set_cons_succ]
  refine regF_take (i := 9) (d := some 44) (v := undef) hX1 rfl rfl (by kernel_rfl) (by kernel_rfl) (by kernel_rfl) (fun _ _ _ h => h) (Or.inr ⟨by rfl, rfl⟩) ?_
  simp only [Act.put, List.setIfInBounds_toArray, List.set_cons_zero, List.set_cons_succ]
  refine regF_take (i := 10) (d := some 45) (v := ?_) hX1 rfl rfl (by kernel_rfl) (by kernel_rfl) (by kernel_rfl) (fun _ _ _ h => h) (Or.inl ⟨by rfl, ?_⟩) ?_
  rotate_left
  · intro w' hx; (go_simp <;> with_reducible rfl)
  simp only [Act.put, List.setIfInBounds_toArray, List.set_cons_zero, List.set_cons_succ]
  refine regF_one 12 _ (by kernel_rfl) rfl ?_
  intro K hK
  go_simp
  have hX2 := hX1.new (.cells #[.bool u, .bool false, .bool false, .bool true, .bool false, .bool false] 4)
  have hkn := heap_alloc_new W4 (.cells #[.bool u, .bool false, .bool false, .bool true, .bool false, .bool false] 4)
  have cK : (W4.alloc (.cells #[.bool u, .bool false, .bool false, .bool true, .bool false, .bool false] 4)).cell? ⟨W4.heap.size, 0, none⟩ = some (.bool u) := cell_of_row _ _ 0 _ _ _ hkn
  refine hK.out _ _ hX2 ?_
  generalize W4.alloc _ = W5 at *
  clear hK K hkn
  refine regF_one 15 _ (by kernel_rfl) rfl ?_
  intro K hK
  go_simp
  refine hK.out _ _ hX2 ?_
  clear hK K
  refine regF_one 16 _ (by kernel_rfl) rfl ?_
  intro K hK
  go_simp
  refine hK.out _ _ hX2 ?_
  clear hK K
  refine regF_one 17 _ (by kernel_rfl) rfl ?_
  intro K hK
  go_simp
  refine hK.out _ _ hX2 ?_
  clear hK K
  refine wpAnyH_done (by kernel_rfl) ?_ _
  have hb5 := hb2.drew.trans (hX2.mono hb2.size)
  have hk5 : W5.heap[w.heap.size]? = _ := kept_block (w := V.drew) hk2 hX2
  have hg5 : W5.heap[gp + 1]? = _ := kept_block (w := V.drew) hg2 hX2
  have hps5 := (hps3.below (Below.refl _ V).drew).below hX2
  clear hb2 hk2 hg2 hps3 c0 c1 c2 c3 q0 q1 q2 q3 hb4 hX1 hX2
  have hgo : (kG 2 xx 0 yx yy).ok := kG_ok Hok.out
  have hcr : cRight (kG 2 xx 0 yx yy) = u := (kG_right _ _ _ _ _ (by decide)).trans HRt.out
  go_upto_region 8 with fail
  clear cK
  have hb6 := hb5.alloc hb5.size (.cells #[.int .i64 0, .int .i64 2, .int .i64 4, .int .i64 8, .int .i64 0, .int .i64 0] 3)
  have hX6 := (Below.refl W5.heap.size W5).alloc (Nat.le_refl _) (.cells #[.int .i64 0, .int .i64 2, .int .i64 4, .int .i64 8, .int .i64 0, .int .i64 0] 3)
  have hk6 := kept_block hk5 hX6
  have hg6 := kept_block hg5 hX6
  have hps6 := hps5.below hX6
  clear hb5 hk5 hg5 hps5 hX6
  generalize W5.alloc _ = W6 at *
  have hrows : CgV.rows W6 ⟨(kG 2 xx 0 yx yy), some ⟨gp, 0, none⟩, 1, 1, none, 0, 0⟩ := ⟨hps6, Row.empty _ _⟩
  have HBy : Hid (Calls Try.prog 17 #[.agg #[.int .i16 0, .int .i16 0, .int .i16 0, .int .i16 0, .slice (some ⟨gp, 0, none⟩) 1 1, .slice none 0 0]] W6 (RetB W6 (cBytes (kG 2 xx 0 yx yy)))) := cbytes_any ⟨(kG 2 xx 0 yx yy), some ⟨gp, 0, none⟩, 1, 1, none, 0, 0⟩ W6 hrows (by show (1 : Nat) ≤ 1000000; omega) (by show (0 : Nat) ≤ 1000000; omega) hgo
  have HRi : Hid (∀ W, Below W6.heap.size W6 W → Calls Try.prog 18 #[.agg #[.int .i16 0, .int .i16 0, .int .i16 0, .int .i16 0, .slice (some ⟨gp, 0, none⟩) 1 1, .slice none 0 0]] W (Ret W (.bool u))) := fun W hW => by
    have h := cright_any ⟨(kG 2 xx 0 yx yy), some ⟨gp, 0, none⟩, 1, 1, none, 0, 0⟩ W (hrows.below hW) (by show (1 : Nat) ≤ 1000000; omega) (by show (0 : Nat) ≤ 1000000; omega) hgo
    rw [show CgV.g ⟨(kG 2 xx 0 yx yy), some ⟨gp, 0, none⟩, 1, 1, none, 0, 0⟩ = (kG 2 xx 0 yx yy) from rfl, hcr] at h
    exact h
  have HGo := Lib.hid hgo
  have HCr := Lib.hid hcr
  clear hrows hps6 hcr hgo
  obtain ⟨c0, c1, c2, c3, c4, c5⟩ := cells6 hg6
  go_wp2_with fail
  with_reducible refine HBy.out.mono ?_
  rintro e7 w7 ⟨A, an, ac, rfl, hown, hb7⟩
  have hk7 := kept_block hk6 hb7
  have hg7 := kept_block hg6 hb7
  have hbw7 := hb6.trans (hb7.mono hb6.size)
  clear HBy hk6 hg6 hb6 c0 c1 c2 c3 c4 c5
  obtain ⟨c0, c1, c2, c3, c4, c5⟩ := cells6 hg7
  unfold cBytes at hown
  cases u
  · skip
    rw [HCr.out, if_neg (by decide)] at hown
    obtain rfl : an = 0 := hown.len.symm
    have HR1 := Lib.hid (HRi.out _ hb7)
    clear HRi
    go_wp2_with fail
    with_reducible refine HR1.out.mono ?_
    rintro e8 w8 ⟨rfl, hb8⟩
    go_wp2
    go_ret
    exact ⟨rfl, hbw7.trans (hb8.mono hbw7.size)⟩
  · skip
    rw [HCr.out, if_pos rfl] at hown
    have hlen := kG_len 2 xx 0 yx yy (by decide) HRt.out
    rw [show 10 + pSz (knd 2) (fb 2 1) = 16 by decide] at hlen
    obtain rfl : an = 16 := hown.len.symm.trans hlen
    have HPa := Lib.hid (cparse_any A 16 ac _ w7 hown.row (cB_bytes _ HGo.out HCr.out) (by omega) hown.cap)
    have HOk := cOk_cB _ HGo.out HCr.out []
    have hdec := (cB_dec _ HGo.out HCr.out []).2.1
    rw [List.append_nil] at HOk hdec
    clear hlen hown
    go_upto_region 11 with fail
    go_wp2_with fail
    with_reducible refine HPa.out.mono ?_
    rintro e8 w8 ⟨hb8, hway⟩
    rcases hway with ⟨hno, _⟩ | ⟨_, v, rfl, hvr, hvg, _, _⟩
    · rw [HOk] at hno
      cases hno
    rw [hdec] at hvg
    obtain ⟨g2, QA, q, qc, PA, pn, pc⟩ := v
    simp only at hvg
    subst hvg
    have hq1 : (1 : Nat) = q := hvr.ps.len
    subst hq1
    have hpn : (0 : Nat) = pn := hvr.pr.len
    subst hpn
    clear HPa HOk hdec
    have hb78 := hb7.trans (hb8.mono hb7.size)
    have hk8 := kept_block hk7 hb8
    have hg8 := kept_block hg7 hb8
    have hb8w := hbw7.trans (hb8.mono hbw7.size)
    have hAx := (Below.refl w8.heap.size w8).alloc (Nat.le_refl _) (.cells #[.int .i16 0, .int .i16 0, .int .i16 0, .int .i16 0, .slice QA 1 qc, .slice PA 0 pc] 34)
    have hx9 := heap_alloc_new w8 (.cells #[.int .i16 0, .int .i16 0, .int .i16 0, .int .i16 0, .slice QA 1 qc, .slice PA 0 pc] 34)
    have hk9 := kept_block hk8 hAx
    have hg9 := kept_block hg8 hAx
    have hb9w := hb8w.trans (hAx.mono hb8w.size)
    have hps9 := hvr.ps.below hAx
    have hb79 := hb78.trans (hAx.mono hb78.size)
    have hnew := heap_alloc_new w8 (.cells #[.int .i16 0, .int .i16 0, .int .i16 0, .int .i16 0, .slice none 0 0, .slice none 0 0] 34)
    clear hb8 hb78 hk8 hg8 hb8w hAx hvr hk7 hg7 hbw7 hb7 c0 c1 c2 c3 c4 c5
    unfold CgV.val CgV.cells kG
    simp only
    go_upto_region 12 with fail
    clear hnew
    generalize w8.alloc _ = w9 at *
    have HR1 := Lib.hid (HRi.out _ hb79.drew)
    clear HRi hb79
    have heq2 := fun W => eq_mx xx 0 yx yy xx 0 yx yy W
    rw [show decide (([xx, 0, yx, yy] : List Int) = [xx, 0, yx, yy]) = true from decide_eq_true rfl] at heq2
    obtain ⟨gq, off, rfl, hgq, _, _, _, _, d4, d5, d6, d7⟩ := atPt hps9 (j := 0) rfl
    simp only [Nat.zero_mul, Nat.add_zero, kPt] at d4 d5 d6 d7
    obtain ⟨q0, q1, q2, q3⟩ := cells4 (w := w9.drew) hk9
    obtain ⟨c0, c1, c2, c3, c4, c5⟩ := cells6 (w := w9.drew) hg9
    obtain ⟨x0, x1, x2, x3, x4, x5⟩ := cells6 (w := w9.drew) hx9
    replace d4 : w9.drew.cell? _ = _ := d4
    replace d5 : w9.drew.cell? _ = _ := d5
    replace d6 : w9.drew.cell? _ = _ := d6
    replace d7 : w9.drew.cell? _ = _ := d7
    have hoff4 : off + 4 = off + 4 := rfl
    refine regF_start (by kernel_rfl) ?_
    refine regF_take (i := 0) (d := some 76) (v := ?_) (Ext.refl _) rfl rfl (by kernel_rfl) (by kernel_rfl) (by kernel_rfl) (fun _ _ _ h => h) (Or.inl ⟨by rfl, ?_⟩) ?_
    rotate_left
    · intro w' hx; have r0 := hx.cell c0; have r1 := hx.cell c1; have r2 := hx.cell c2; have r3 := hx.cell c3; have r4 := hx.cell c4; have r5 := hx.cell c5; (go_simp <;> with_reducible rfl)
    simp only [Act.put, List.setIfInBounds_toArray, List.set_cons_zero, List.set_cons_succ]
    refine regF_one 1 _ (by kernel_rfl) rfl ?_
    intro K hK
    go_simp
    refine HR1.out.mono ?_
    rintro e10 w10 ⟨rfl, hb10⟩
    have hX1 := (Ext.refl w9.drew).call hb10
    refine hK.out _ _ hX1 ?_
    clear hK K
    refine regF_take (i := 2) (d := some 78) (v := ?_) hX1 rfl rfl (by kernel_rfl) (by kernel_rfl) (by kernel_rfl) (fun _ _ _ h => h) (Or.inl ⟨by rfl, ?_⟩) ?_
    rotate_left
    · intro w' hx; (go_simp <;> with_reducible rfl)
    simp only [Act.put, List.setIfInBounds_toArray, List.set_cons_zero, List.set_cons_succ]
    refine regF_take (i := 3) (d := some 79) (v := ?_) hX1 rfl rfl (by kernel_rfl) (by kernel_rfl) (by kernel_rfl) (fun _ _ _ h => h) (Or.inl ⟨by rfl, ?_⟩) ?_
    rotate_left
    · intro w' hx; (go_simp <;> with_reducible rfl)
    simp only [Act.put, List.setIfInBounds_toArray, List.set_cons_zero, List.set_cons_succ]
    refine regF_take (i := 4) (d := some 80) (v := ?_) hX1 rfl rfl (by kernel_rfl) (by kernel_rfl) (by kernel_rfl) (fun _ _ _ h => h) (Or.inl ⟨by rfl, ?_⟩) ?_
    rotate_left
    · intro w' hx; (go_simp <;> with_reducible rfl)
    simp only [Act.put, List.setIfInBounds_toArray, List.set_cons_zero, List.set_cons_succ]
    refine regF_take (i := 5) (d := some 81) (v := ?_) hX1 rfl rfl (by kernel_rfl) (by kernel_rfl) (by kernel_rfl) (fun _ _ _ h => h) (Or.inl ⟨by rfl, ?_⟩) ?_
    rotate_left
    · intro w' hx; (go_simp <;> with_reducible rfl)
    simp only [Act.put, List.setIfInBounds_toArray, List.set_cons_zero, List.set_cons_succ]
    refine regF_take (i := 6) (d := some 82) (v := ?_) hX1 rfl rfl (by kernel_rfl) (by kernel_rfl) (by kernel_rfl) (fun _ _ _ h => h) (Or.inl ⟨by rfl, ?_⟩) ?_
    rotate_left
    · intro w' hx; (go_simp <;> with_reducible rfl)
    simp only [Act.put, List.setIfInBounds_toArray, List.set_cons_zero, List.set_cons_succ]
    refine regF_take (i := 7) (d := some 83) (v := ?_) hX1 rfl rfl (by kernel_rfl) (by kernel_rfl) (by kernel_rfl) (fun _ _ _ h => h) (Or.inl ⟨by rfl, ?_⟩) ?_
    rotate_left
    · intro w' hx; (go_simp <;> with_reducible rfl)
    simp only [Act.put, List.setIfInBounds_toArray, List.set_cons_zero, List.set_cons_succ]
    refine regF_take (i := 8) (d := some 84) (v := ?_) hX1 rfl rfl (by kernel_rfl) (by kernel_rfl) (by kernel_rfl) (fun _ _ _ h => h) (Or.inl ⟨by rfl, ?_⟩) ?_
    rotate_left
    · intro w' hx; (go_simp <;> with_reducible rfl)
    simp only [Act.put, List.setIfInBounds_toArray, List.set_cons_zero, List.set_cons_succ]
    refine regF_take (i := 9) (d := some 85) (v := ?_) hX1 rfl rfl (by kernel_rfl) (by kernel_rfl) (by kernel_rfl) (fun _ _ _ h => h) (Or.inl ⟨by rfl, ?_⟩) ?_
    rotate_left
    · intro w' hx; (go_simp <;> with_reducible rfl)
    simp only [Act.put, List.setIfInBounds_toArray, List.set_cons_zero, List.set_cons_succ]
    refine regF_take (i := 10) (d := some 86) (v := ?_) hX1 rfl rfl (by kernel_rfl) (by kernel_rfl) (by kernel_rfl) (fun _ _ _ h => h) (Or.inl ⟨by rfl, ?_⟩) ?_
    rotate_left
    · intro w' hx; (go_simp <;> with_reducible rfl)
    simp only [Act.put, List.setIfInBounds_toArray, List.set_cons_zero, List.set_cons_succ]
    refine regF_take (i := 11) (d := some 87) (v := ?_) hX1 rfl rfl (by kernel_rfl) (by kernel_rfl) (by kernel_rfl) (fun _ _ _ h => h) (Or.inl ⟨by rfl, ?_⟩) ?_
    rotate_left
    · intro w' hx; (go_simp <;> with_reducible rfl)
    simp only [Act.put, List.setIfInBounds_toArray, List.set_cons_zero, List.set_cons_succ]
    refine regF_take (i := 12) (d := some 88) (v := ?_) hX1 rfl rfl (by kernel_rfl) (by kernel_rfl) (by kernel_rfl) (fun _ _ _ h => h) (Or.inl ⟨by rfl, ?_⟩) ?_
    rotate_left
    · intro w' hx; (go_simp <;> with_reducible rfl)
    simp only [Act.put, List.setIfInBounds_toArray, List.set_cons_zero, List.set_cons_succ]
    refine regF_take (i := 13) (d := some 89) (v := ?_) hX1 rfl rfl (by kernel_rfl) (by kernel_rfl) (by kernel_rfl) (fun _ _ _ h => h) (Or.inl ⟨by rfl, ?_⟩) ?_
    rotate_left
    · intro w' hx; (go_simp <;> with_reducible rfl)
    simp only [Act.put, List.setIfInBounds_toArray, List.set_cons_zero, List.set_cons_succ]
    refine regF_take (i := 14) (d := some 90) (v := ?_) hX1 rfl rfl (by kernel_rfl) (by kernel_rfl) (by kernel_rfl) (fun _ _ _ h => h) (Or.inl ⟨by rfl, ?_⟩) ?_
    rotate_left
    · intro w' hx; have r4 := hx.cell x4; (go_simp <;> with_reducible rfl)
    simp only [Act.put, List.setIfInBounds_toArray, List.set_cons_zero, List.set_cons_succ]
    refine regF_take (i := 15) (d := some 91) (v := ?_) hX1 rfl rfl (by kernel_rfl) (by kernel_rfl) (by kernel_rfl) (fun _ _ _ h => h) (Or.inl ⟨by rfl, ?_⟩) ?_
    rotate_left
    · intro w' hx; (go_simp <;> with_reducible rfl)
    simp only [Act.put, List.setIfInBounds_toArray, List.set_cons_zero, List.set_cons_succ]
    refine regF_take (i := 16) (d := some 92) (v := ?_) hX1 rfl rfl (by kernel_rfl) (by kernel_rfl) (by kernel_rfl) (fun _ _ _ h => h) (Or.inl ⟨by rfl, ?_⟩) ?_
    rotate_left
    · intro w' hx; (go_simp <;> with_reducible rfl)
    simp only [Act.put, List.setIfInBounds_toArray, List.set_cons_zero, List.set_cons_succ]
    refine regF_take (i := 17) (d := some 93) (v := ?_) hX1 rfl rfl (by kernel_rfl) (by kernel_rfl) (by kernel_rfl) (fun _ _ _ h => h) (Or.inl ⟨by rfl, ?_⟩) ?_
    rotate_left
    · intro w' hx; have r4 := hx.cell d4; have r5 := hx.cell d5; have r6 := hx.cell d6; have r7 := hx.cell d7; (go_simp <;> with_reducible rfl)
    simp only [Act.put, List.setIfInBounds_toArray, List.set_cons_zero, List.set_cons_succ]
    refine regF_take (i := 18) (d := some 94) (v := ?_) hX1 rfl rfl (by kernel_rfl) (by kernel_rfl) (by kernel_rfl) (fun _ _ _ h => h) (Or.inl ⟨by rfl, ?_⟩) ?_
    rotate_left
    · intro w' hx; have r0 := hx.cell q0; have r1 := hx.cell q1; have r2 := hx.cell q2; have r3 := hx.cell q3; (go_simp <;> with_reducible rfl)
    simp only [Act.put, List.setIfInBounds_toArray, List.set_cons_zero, List.set_cons_succ]
    refine regF_take (i := 19) (d := some 95) (v := ?_) hX1 rfl rfl (by kernel_rfl) (by kernel_rfl) (by kernel_rfl) (fun _ _ _ h => h) (Or.inl ⟨by rfl, ?_⟩) ?_
    rotate_left
    · intro w' hx; (go_simp <;> with_reducible rfl)
    simp only [Act.put, List.setIfInBounds_toArray, List.set_cons_zero, List.set_cons_succ]
    refine regF_take (i := 20) (d := some 96) (v := ?_) hX1 rfl rfl (by kernel_rfl) (by kernel_rfl) (by kernel_rfl) (fun _ _ _ h => h) (Or.inl ⟨by rfl, ?_⟩) ?_
    rotate_left
    · intro w' hx; (go_simp <;> with_reducible rfl)
    simp only [Act.put, List.setIfInBounds_toArray, List.set_cons_zero, List.set_cons_succ]
    refine regF_one 21 _ (by kernel_rfl) rfl ?_
    intro K hK
    go_simp
    refine hK.out _ _ hX1 ?_
    clear hK K
    refine wpAnyH_done (by kernel_rfl) ?_ _
    go_wp2
    go_ret
    exact ⟨rfl, hb9w.drew.trans (hX1.mono hb9w.size)⟩

end Go.Proofs.Ytgafjieghckimaa
