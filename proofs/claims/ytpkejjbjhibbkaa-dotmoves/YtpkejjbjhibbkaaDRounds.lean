/- The law DotRounds. -/
import Derived.Test.YtpkejjbjhibbkaaDotRef
namespace Go.Proofs.Ytpkejjbjhibbkaa
open Go.RowKit
set_option linter.unusedVariables false

theorem tm_bd (n m : Int) (hm : 0 < m) : -m < n.tmod m ∧ n.tmod m < m := by
  rcases Int.le_total 0 n with h | h
  · rw [Int.tmod_eq_emod_of_nonneg h]
    have := Int.emod_nonneg n (show m ≠ 0 by omega)
    have := Int.emod_lt_of_pos n hm
    omega
  · have e : n.tmod m = -((-n).tmod m) := by rw [Int.neg_tmod]; omega
    rw [e, Int.tmod_eq_emod_of_nonneg (by omega)]
    have := Int.emod_nonneg (-n) (show m ≠ 0 by omega)
    have := Int.emod_lt_of_pos (-n) hm
    omega

set_option maxHeartbeats 400000 in
theorem law_DotRounds (n : Int) (w : World) : Calls Try.prog 8 #[.int .i64 n] w fun e w' => e = .returned (.bool true) ∧ Below w.heap.size w w' := by
  obtain ⟨h0, h1⟩ := tm_bd n 2305843009213693952 (by omega)
  generalize hm : n.tmod 2305843009213693952 = m at h0 h1
  have Hm := Lib.hid hm
  clear hm
  have e1 : (decide (16384 * rnd m - m ≤ 8192)) = true := by unfold rnd; simp; omega
  have e2 : (decide (-8192 < 16384 * rnd m - m)) = true := by unfold rnd; simp; omega
  have e3 : -140737488355328 ≤ rnd m ∧ rnd m ≤ 140737488355328 := by unfold rnd; omega
  obtain ⟨e4, e5⟩ := e3
  have e6 : (rnd m == rnd m) = true := by simp
  go_enter Try.func8, Try.ntmps8
  go_wp2_with fail
  refine (awake4_any _).mono ?_
  rintro e w' ⟨rfl, rfl⟩
  go_wp2_with fail
  rw [Hm.out]
  refine (round_any _ _ (by omega) (by omega)).mono ?_
  rintro e w' ⟨rfl, rfl⟩
  go_wp2_with fail
  refine (rround_any _ _ (by omega) (by omega)).mono ?_
  rintro e w' ⟨rfl, rfl⟩
  go_wp2
  go_ret
  exact ⟨rfl, Below.refl _ _⟩

end Go.Proofs.Ytpkejjbjhibbkaa
