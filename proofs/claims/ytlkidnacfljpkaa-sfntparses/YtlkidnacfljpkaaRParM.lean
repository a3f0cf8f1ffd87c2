/- The directory of a font's bytes, read of the first of them or of all: plain lists. -/
import Derived.Test.YtlkidnacfljpkaaRSame
namespace Go.Proofs.Ytlkidnacfljpkaa
set_option linter.unusedVariables false

theorem told_take (zs : List Int) (M i m : Nat) (h : i + m ≤ M) : told ((zs.take M).drop i) m = told (zs.drop i) m := by
  unfold told
  rw [List.drop_take]
  simp only [List.length_take, List.length_drop, List.take_take]
  by_cases hm : m ≤ zs.length - i
  · rw [if_pos (by omega), if_pos hm, Nat.min_eq_left (by omega)]
  · rw [if_neg (by omega), if_neg hm]
theorem n2at_take (zs : List Int) (M i : Nat) (h : i + 2 ≤ M) : n2at (zs.take M) i = n2at zs i := by unfold n2at num; rw [told_take zs M i 2 h]
theorem n4at_take (zs : List Int) (M i : Nat) (h : i + 4 ≤ M) : n4at (zs.take M) i = n4at zs i := by unfold n4at num; rw [told_take zs M i 4 h]
theorem cntN_take (zs : List Int) : cntN (zs.take 1036) = cntN zs := by unfold cntN; rw [n2at_take zs 1036 4 (by omega)]
theorem entOf_take (zs : List Int) (i : Nat) (h : i < 64) : entOf (zs.take 1036) i = entOf zs i := by
  unfold entOf
  rw [told_take zs 1036 _ 4 (by omega), n4at_take zs 1036 _ (by omega), n4at_take zs 1036 _ (by omega), n4at_take zs 1036 _ (by omega)]
theorem dirL_take (zs : List Int) (h : cntN zs ≤ 64) : dirL (zs.take 1036) = (List.range (cntN zs)).map (entOf zs) := by
  unfold dirL
  rw [cntN_take]
  apply List.map_congr_left
  intro t ht
  exact entOf_take zs t (by have := List.mem_range.1 ht; omega)

def searchB (zs : List Int) : Bool := decide ([n2at zs 6, n2at zs 8, n2at zs 10] = [sr1 (cntN zs), sr2 (cntN zs), sr3 (cntN zs)])
theorem dirB_take (zs : List Int) : dirB (zs.take 1036) = (cntB (n2at zs 4) && ((n4at zs 0 == 65536) && searchB zs) && decide (12 + 16 * cntN zs ≤ zs.length)) := by
  unfold dirB frontB searchB
  rw [cntN_take, n2at_take zs 1036 4 (by omega), n2at_take zs 1036 6 (by omega), n2at_take zs 1036 8 (by omega), n2at_take zs 1036 10 (by omega), n4at_take zs 1036 0 (by omega)]
  cases hc : cntB (n2at zs 4) with
  | false => rfl
  | true =>
    have h64 : cntN zs ≤ 64 := by unfold cntB at hc; simp at hc; unfold cntN; omega
    congr 1
    rw [Bool.eq_iff_iff, decide_eq_true_iff, decide_eq_true_iff, List.length_take]
    omega

/-- Does the directory's row i stand where it may? -/
def tagAt (zs : List Int) (i : Nat) : List UInt8 := (entOf zs i).tag.toList
def okAt (zs : List Int) (i : Nat) : Bool := (decide (i = 0) || !leS (tagAt zs i) (tagAt zs (i - 1))) && !badE (12 + 16 * cntN zs) zs.length (entOf zs i)
def okK (zs : List Int) (k : Nat) : Bool := (List.range k).all (okAt zs)
theorem okK_succ (zs : List Int) (k : Nat) : okK zs (k + 1) = (okK zs k && okAt zs k) := by simp [okK, List.range_succ]
theorem okK_not {zs : List Int} {k n : Nat} (h : okAt zs k = false) (hn : k < n) : okK zs n = false := by
  unfold okK
  rw [List.all_eq_false]
  exact ⟨k, List.mem_range.2 hn, by rw [h]; simp⟩

theorem formB_not {zs : List Int} (h : dirB (zs.take 1036) = false) : formB zs = false := by unfold formB; rw [h]; rfl
theorem formB_is {zs : List Int} (h : dirB (zs.take 1036) = true) (h64 : cntN zs ≤ 64) : formB zs = okK zs (cntN zs) := by
  unfold formB
  rw [h, dirL_take zs h64, cntN_take]
  have ht : ∀ i, i < cntN zs → (tagsE ((List.range (cntN zs)).map (entOf zs))).getD i [] = tagAt zs i := fun i hi => by
    refine tagsE_get (t := entOf zs i) ?_
    rw [List.getElem?_map, List.getElem?_range hi]
    rfl
  rw [Bool.eq_iff_iff]
  simp only [Bool.true_and, Bool.and_eq_true, Bool.not_eq_true', List.any_eq_false, riseK, okK, List.all_eq_true, List.mem_range, List.mem_map, forall_exists_index, and_imp, forall_apply_eq_imp_iff₂]
  constructor
  · rintro ⟨h1, h2⟩ i hi
    unfold okAt
    have e1 := h1 i hi
    unfold riseAt at e1
    rw [ht i hi, ht (i - 1) (by omega)] at e1
    have e2 := h2 i hi
    rw [e1]
    simpa using e2
  · intro h1
    refine ⟨fun i hi => ?_, fun i hi => ?_⟩
    · have e := h1 i hi
      unfold okAt at e
      unfold riseAt
      rw [ht i hi, ht (i - 1) (by omega)]
      simp only [Bool.and_eq_true] at e
      exact e.1
    · have e := h1 i hi
      unfold okAt at e
      simp only [Bool.and_eq_true, Bool.not_eq_true'] at e
      rw [e.2]
      decide

/-- The six bytes behind the number of tables. -/
theorem search_same {zs : List Int} (hB : Bytes zs) (hl : 12 ≤ zs.length) (h1 : 1 ≤ cntN zs) (h2 : cntN zs ≤ 64) : sameB ((zs.drop 6).take 6) (b2 (sr1 (cntN zs)) ++ (b2 (sr2 (cntN zs)) ++ b2 (sr3 (cntN zs)))) = searchB zs := by
  have hs := sr_le (cntN zs) h1 h2
  unfold sameB searchB
  rw [Bool.eq_iff_iff, decide_eq_true_iff, decide_eq_true_iff]
  have e : (zs.drop 6).take 6 = b2 (n2at zs 6) ++ (b2 (n2at zs 8) ++ b2 (n2at zs 10)) := by
    rw [b2_win hB (by omega), b2_win hB (by omega), b2_win hB (by omega), win_join zs 8 2 2, win_join zs 6 2 4]
  rw [e]
  have l2 : ∀ x y : Int, (b2 x).length = (b2 y).length := fun _ _ => rfl
  have inj : ∀ x y : Int, 0 ≤ x → x < 65536 → 0 ≤ y → y < 65536 → b2 x = b2 y → x = y := fun x y a b c d h => by rw [← be_b2 x a b, h, be_b2 y c d]
  have q6 := n2at_lt hB 6
  have q8 := n2at_lt hB 8
  have q10 := n2at_lt hB 10
  constructor
  · intro h
    obtain ⟨a, h⟩ := List.append_inj h (l2 _ _)
    obtain ⟨b, c⟩ := List.append_inj h (l2 _ _)
    rw [inj _ _ q6.1 q6.2 (by omega) (by omega) a, inj _ _ q8.1 q8.2 (by omega) (by omega) b, inj _ _ q10.1 q10.2 (by omega) (by omega) c]
  · intro h
    simp only [List.cons.injEq, and_true] at h
    rw [h.1, h.2.1, h.2.2]

end Go.Proofs.Ytlkidnacfljpkaa
