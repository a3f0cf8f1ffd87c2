/- What the numbers for those who look up by halves are: Search of the program and of the document, as contracts over this seat's translation. -/
import Derived.Test.YtlkidnacfljpkaaShelf3
import Derived.Test.YtlkidnacfljpkaaMem
namespace Go.Proofs.Ytlkidnacfljpkaa
open Go.RowKit
set_option linter.unusedVariables false

/-- May there be so many? -/
def cntB (n : Int) : Bool := decide (1 ≤ n ∧ n ≤ 64)

theorem countable_any (n : Int) (w : World) : Calls Try.prog 21 #[.int .i64 n] w fun e w' => e = .returned (.bool (cntB n)) ∧ w = w' := by
  by_cases h1 : 1 ≤ n
  · by_cases h2 : n ≤ 64
    · have H : Hid (cntB n = true) := by show _ = _; unfold cntB; simp; omega
      go_enter Try.func21, Try.ntmps21
      go_wp2
      go_ret
      rw [H.out]
      exact ⟨rfl, rfl⟩
    · have H : Hid (cntB n = false) := by show _ = _; unfold cntB; simp; omega
      go_enter Try.func21, Try.ntmps21
      go_wp2
      go_ret
      rw [H.out]
      exact ⟨rfl, rfl⟩
  · have H : Hid (cntB n = false) := by show _ = _; unfold cntB; simp; omega
    go_enter Try.func21, Try.ntmps21
    go_wp2
    go_ret
    rw [H.out]
    exact ⟨rfl, rfl⟩

theorem dirSize_any (n : Int) (w : World) (h0 : 0 ≤ n) (h1 : n ≤ 1000000) : Calls Try.prog 60 #[.int .i64 n] w fun e w' => e = .returned (.int .i64 (12 + n * 16)) ∧ w = w' := by
  go_enter Try.func60, Try.ntmps60
  go_wp2
  go_ret
  exact ⟨rfl, rfl⟩

/-- The exponent of the greatest power of two that is at most n (1 to 64). -/
def expo (n : Nat) : Nat := Lib.bitLen n - 1

theorem expo_spec : ∀ n : Nat, n < 65 → 1 ≤ n → Lib.bitLen n = expo n + 1 ∧ expo n < 7 ∧ 2 ^ expo n ≤ n ∧ n < 2 ^ (expo n + 1) := by decide

theorem expo_uniq (n e : Nat) (h0 : 1 ≤ n) (h1 : n ≤ 64) (h2 : 2 ^ e ≤ n) (h3 : n < 2 ^ (e + 1)) : e = expo n := by
  obtain ⟨_, _, h4, h5⟩ := expo_spec n (by omega) h0
  rcases Nat.lt_trichotomy e (expo n) with h | h | h
  · have : 2 ^ (e + 1) ≤ 2 ^ expo n := Nat.pow_le_pow_right (by omega) (by omega)
    omega
  · exact h
  · have : 2 ^ (expo n + 1) ≤ 2 ^ e := Nat.pow_le_pow_right (by omega) (by omega)
    omega

/-- The three numbers. -/
def sr1 (n : Nat) : Int := 16 * 2 ^ expo n
def sr2 (n : Nat) : Int := expo n
def sr3 (n : Nat) : Int := 16 * n - sr1 n

theorem sr_le (n : Nat) (h0 : 1 ≤ n) (h1 : n ≤ 64) : 16 ≤ sr1 n ∧ sr1 n ≤ 1024 ∧ 0 ≤ sr2 n ∧ sr2 n ≤ 6 ∧ 0 ≤ sr3 n ∧ sr3 n < sr1 n ∧ sr3 n ≤ 1024 := by
  obtain ⟨_, h2, h3, h4⟩ := expo_spec n (by omega) h0
  unfold sr1 sr2 sr3 sr1
  generalize hq : (2 : Nat) ^ expo n = q at *
  rw [show (2 : Int) ^ expo n = ((2 ^ expo n : Nat) : Int) by simp, hq]
  rw [Nat.pow_succ, hq] at h4
  have : 1 ≤ q := by rw [← hq]; exact Nat.one_le_two_pow
  omega

theorem search_no (n : Int) (w : World) (h : cntB n = false) : Calls Try.prog 20 #[.int .i64 n] w fun e w' => e = .returned (.tuple #[.int .u16 0, .int .u16 0, .int .u16 0]) ∧ w = w' := by
  go_enter Try.func20, Try.ntmps20
  go_wp2_with fail
  refine (countable_any _ _).mono ?_
  rintro e w' ⟨rfl, rfl⟩
  go_wp2
  go_ret3
  exact ⟨rfl, rfl⟩

set_option maxHeartbeats 1000000 in
theorem search_any (n : Nat) (w : World) (h0 : 1 ≤ n) (h1 : n ≤ 64) : Calls Try.prog 20 #[.int .i64 n] w fun e w' => e = .returned (.tuple #[.int .u16 (sr1 n), .int .u16 (sr2 n), .int .u16 (sr3 n)]) ∧ w = w' := by
  obtain ⟨hb, h2, h3, h4⟩ := expo_spec n (by omega) h0
  have hc : cntB n = true := by unfold cntB; simp; omega
  have hlen := fun W : World => Any.bits_Len Try.layLen (n : Int) W (by omega) (by omega)
  change ∀ W, Calls Try.prog 52 _ _ _ at hlen
  simp only [Int.toNat_natCast, hb] at hlen
  have HL := Lib.hid hlen
  have H : Hid (sr1 n = 16 * 2 ^ expo n ∧ sr2 n = expo n ∧ sr3 n = 16 * n - 16 * 2 ^ expo n) := ⟨rfl, rfl, rfl⟩
  clear hlen hb
  generalize expo n = q at *
  rcases q with _ | _ | _ | _ | _ | _ | _ | q
  case succ.succ.succ.succ.succ.succ.succ => omega
  all_goals
    simp only [Nat.reducePow, Nat.reduceAdd] at h3 h4
    go_enter Try.func20, Try.ntmps20
    go_wp2_with fail
    refine (countable_any _ _).mono ?_
    rintro e w' ⟨rfl, rfl⟩
    go_wp2_with fail
    refine (HL.out _).mono ?_
    rintro e w' ⟨rfl, rfl⟩
    go_wp2
    go_ret3
    rw [H.out.1, H.out.2.1, H.out.2.2]
    exact ⟨by simp, rfl⟩

theorem ret3_int {a a' b b' c c' : Int} (h : a = a') (h' : b = b') (h'' : c = c') : Ending.returned (.tuple #[.int .i64 a, .int .i64 b, .int .i64 c]) = .returned (.tuple #[.int .i64 a', .int .i64 b', .int .i64 c']) := by rw [h, h', h'']

set_option maxHeartbeats 1000000 in
theorem rsearch_any (n : Nat) (w : World) (h0 : 1 ≤ n) (h1 : n ≤ 64) : Calls Try.prog 39 #[.int .i64 n] w fun e w' => e = .returned (.tuple #[.int .i64 (sr1 n), .int .i64 (sr2 n), .int .i64 (sr3 n)]) ∧ w = w' := by
  go_enter Try.func39, Try.ntmps39
  go_wp2
  go_loop [5, 6] (fun x t => ∃ e q : Nat, q = 2 ^ e ∧ e < 7 ∧ q ≤ n ∧ x = .int .i64 e ∧ t = .int .i64 q) (fun _ t => 64 - (intOf t).toNat)
  case atStart => exact ⟨0, 1, rfl, by omega, h0, rfl, rfl⟩
  case round =>
    obtain ⟨e, q, hq, he, hqn, rfl, rfl⟩ := hrel
    have hp : 1 ≤ q := by rw [hq]; exact Nat.one_le_two_pow
    have HQ := Lib.hid hq
    clear hq
    by_cases hlt : 2 * q ≤ n
    · go_wp2
      go_round
      case rel => exact ⟨e + 1, q * 2, by rw [HQ.out, Nat.pow_succ], by
        rcases Nat.lt_or_ge e 6 with h | h
        · omega
        · have : 2 ^ 6 ≤ 2 ^ e := Nat.pow_le_pow_right (by omega) h
          have := HQ.out
          omega, by omega, by go_num, by go_num⟩
      case measure => simp [intOf]; omega
    · have hu := expo_uniq n e h0 h1 (by rw [← HQ.out]; exact hqn) (by rw [Nat.pow_succ, ← HQ.out]; omega)
      have H : Hid (sr1 n = 16 * q ∧ sr2 n = e ∧ sr3 n = 16 * n - 16 * q) := by
        have e1 : (2 : Int) ^ expo n = q := by rw [← hu, HQ.out]; simp
        unfold sr3 sr1 sr2
        rw [e1, hu]
        exact ⟨rfl, rfl, rfl⟩
      clear hu
      go_wp2
      go_ret3
      rw [H.out.1, H.out.2.1, H.out.2.2]
      exact ⟨rfl, rfl⟩

end Go.Proofs.Ytlkidnacfljpkaa
