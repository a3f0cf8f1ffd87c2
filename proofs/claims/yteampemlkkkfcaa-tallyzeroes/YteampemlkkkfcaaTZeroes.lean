/- The law TallyZeroes. -/
import Derived.Test.YteampemlkkkfcaaZero
import Derived.Lib.MinMax
namespace Go.Proofs.Yteampemlkkkfcaa
open Go.RowKit
set_option linter.unusedVariables false

theorem zeroed_at (ps : List Int) (f k j : Nat) (x : Int) (ex : ps[j]? = some x) (h : f + k ≤ ps.length) : (zeroedL ps f k)[j]? = some (if f ≤ j ∧ j < f + k then 0 else x) := by
  have hj := (List.getElem?_eq_some_iff.1 ex).1
  unfold zeroedL
  by_cases h1 : j < f
  · rw [if_neg (by omega), List.getElem?_append_left (by rw [List.length_take]; omega), List.getElem?_take, if_pos h1, ex]
  · rw [List.getElem?_append_right (by rw [List.length_take]; omega), List.length_take, Nat.min_eq_left (by omega)]
    by_cases h2 : j < f + k
    · rw [if_pos ⟨by omega, h2⟩, List.getElem?_append_left (by rw [List.length_replicate]; omega), List.getElem?_replicate, if_pos (by omega)]
    · rw [if_neg (by omega), List.getElem?_append_right (by rw [List.length_replicate]; omega), List.length_replicate, List.getElem?_drop, show f + k + (j - f - k) = j by omega, ex]

set_option maxRecDepth 100000 in
set_option maxHeartbeats 4000000 in
theorem law_TallyZeroes (A : Option Addr) (n c : Nat) (zs : List Int) (a m : Int) (w : World) (hr : Row w A n (cellsOf .u8 zs)) (hB : Bytes zs) (hn : n ≤ 9223372036854775807) :
    Calls Try.prog 12 #[.slice A n c, .int .i64 a, .int .i64 m] w (True_ w) := by
  go_enter Try.func12, Try.ntmps12
  go_wp2_with fail
  refine (awake2_any w).mono ?_
  rintro e w0 ⟨rfl, hb0⟩
  go_wp2_with fail
  refine (cut_any _ _ _ zs 60 _ (hr.below hb0) hn (by omega)).mono ?_
  rintro e w1 ⟨A1, n1, k1, rfl, hown, hb1'⟩
  have hb1 : Below w.heap.size w w1 := hb0.trans (hb1'.mono hb0.size)
  have hB1 : Bytes (zs.take (60 : Int).toNat) := cut_bytes hB _
  have hl1 : n1 ≤ 60 := by have := hown.len; rw [List.length_take] at this; simp at this; omega
  have hrow1 := hown.row
  have Hl := Lib.hid hown.len
  have HB := Lib.hid hB1
  clear hb1' hb0 hr hB hn hB1 hown
  generalize zs.take (60 : Int).toNat = ps at *
  obtain ⟨a', ha'⟩ : ∃ x, max (min a 1000) (-1000) = x := ⟨_, rfl⟩
  obtain ⟨m', hm'⟩ : ∃ x, max (min m 3000) (-3000) = x := ⟨_, rfl⟩
  have ba : -1000 ≤ a' ∧ a' ≤ 1000 := by omega
  have bm : -3000 ≤ m' ∧ m' ≤ 3000 := by omega
  obtain ⟨ba0, ba1⟩ := ba
  obtain ⟨bm0, bm1⟩ := bm
  obtain ⟨f, k, hF, hT, hfk⟩ := span_in n1 a' m'
  have HIN : Hid (∀ i : Nat, i < n1 → ((a' ≤ i ∧ (i : Int) - a' < m') ↔ (f ≤ i ∧ i < f + k))) := by
    intro i hi
    unfold spanT at hT
    rw [hF] at hT
    unfold spanF at hF
    unfold spanN at hT
    split at hF <;> split at hT <;> omega
  have HF := Lib.hid hF
  have HT := Lib.hid hT
  clear hF hT
  go_wp2_with fail
  refine (zeroed_any _ _ _ ps a' m' f k _ hrow1 (by omega) (by omega) (by omega) (by omega) (by omega) HF.out HT.out hfk).mono ?_
  rintro e w2 ⟨A2, n2, k2, rfl, hown2, hb2'⟩
  have hb2 : Below w.heap.size w w2 := hb1.trans (hb2'.mono hb1.size)
  have hrow2 := hrow1.below hb2'
  have hq2 := hown2.row
  obtain rfl : n2 = n1 := by
    have := hown2.len
    rw [zeroedL] at this
    simp only [List.length_append, List.length_take, List.length_replicate, List.length_drop, Hl.out] at this
    omega
  have hne : ((n2 : Int) != (n2 : Int)) = false := by simp
  clear hb1 hb2' hrow1 hown2 HF HT ha' hm'
  go_wp2
  clear hne
  go_loop [32] (fun i => ∃ j : Nat, j ≤ n2 ∧ i = .int .i64 j) (fun i => n2 - (intOf i).toNat)
  case atStart => exact ⟨0, Nat.zero_le _, rfl⟩
  case round =>
    obtain ⟨j, hj, rfl⟩ := hrel
    by_cases hlt : j < n2
    · obtain ⟨x, ex⟩ := get_some (zs := ps) (k := j) (by have := Hl.out; omega)
      have ey : (zeroedL ps f k)[j]? = some (if f ≤ j ∧ j < f + k then 0 else x) := zeroed_at ps f k j x ex (by have := Hl.out; omega)
      obtain ⟨g, off, hA1, _, hc⟩ := hrow2.at (cellsOf_get (k := .u8) ex)
      subst hA1
      obtain ⟨g', off', hA2, _, hc'⟩ := hq2.at (cellsOf_get (k := .u8) ey)
      subst hA2
      have hin := HIN.out j hlt
      clear ex ey
      by_cases h1 : a' ≤ (j : Int)
      · by_cases h2 : (j : Int) - a' < m'
        · rw [if_pos (hin.1 ⟨h1, h2⟩)] at hc'
          have d1 : decide (a' ≤ (j : Int)) = true := by simp [h1]
          have d2 : decide ((j : Int) - a' < m') = true := by simp [h2]
          clear hin
          go_wp2
          go_round
          case rel => exact ⟨j + 1, by omega, by go_num⟩
          case measure => simp [intOf]; omega
        · rw [if_neg (fun h => h2 (hin.2 h).2)] at hc'
          have d1 : decide (a' ≤ (j : Int)) = true := by simp [h1]
          have d2 : decide ((j : Int) - a' < m') = false := by simp; omega
          have d3 : (x != x) = false := by simp
          clear hin
          go_wp2
          go_round
          case rel => exact ⟨j + 1, by omega, by go_num⟩
          case measure => simp [intOf]; omega
      · rw [if_neg (fun h => h1 (hin.2 h).1)] at hc'
        have d1 : decide (a' ≤ (j : Int)) = false := by simp; omega
        have d3 : (x != x) = false := by simp
        clear hin
        go_wp2
        go_round
        case rel => exact ⟨j + 1, by omega, by go_num⟩
        case measure => simp [intOf]; omega
    · go_wp2
      go_ret
      exact ⟨rfl, hb2⟩

end Go.Proofs.Yteampemlkkkfcaa
