/- The law HeadThousandths. -/
import Derived.Test.YtmpicokeenodbaaHeadK
namespace Go.Proofs.Ytmpicokeenodbaa
open Go.RowKit
set_option linter.unusedVariables false

theorem thou_near (u n : Int) (h : 16 ≤ u) (h1 : u ≤ 16384) : 2 * (u * thou u n - 1000 * n) ≤ u ∧ -u - 2 < 2 * (u * thou u n - 1000 * n) := by
  unfold thou
  have e1 := Int.mul_ediv_add_emod (n * 1000 + u / 2) u
  have e2 := Int.emod_nonneg (n * 1000 + u / 2) (show u ≠ 0 by omega)
  have e3 := Int.emod_lt_of_pos (n * 1000 + u / 2) (show 0 < u by omega)
  generalize u * ((n * 1000 + u / 2) / u) = q at *
  omega
theorem thou_self (u : Int) (h : 16 ≤ u) : thou u u = 1000 := by
  unfold thou
  rw [show u * 1000 + u / 2 = u / 2 + u * 1000 by omega, Int.add_mul_ediv_left _ _ (by omega), Int.ediv_eq_zero_of_lt (by omega) (by omega)]
  rfl
theorem thou_zero (u : Int) (h : 16 ≤ u) : thou u 0 = 0 := by
  unfold thou
  rw [Int.zero_mul, Int.zero_add, Int.ediv_eq_zero_of_lt (by omega) (by omega)]
theorem thou_bd (u n : Int) (h : 16 ≤ u) (h1 : u ≤ 16384) (n0 : -1099511627776 ≤ n) (n1 : n ≤ 1099511627776) : -2000000000000000 ≤ thou u n ∧ thou u n ≤ 2000000000000000 := by
  have e := Int.natAbs_ediv_le_natAbs (n * 1000 + u / 2) u
  unfold thou
  omega

set_option maxRecDepth 100000 in
set_option maxHeartbeats 4000000 in
theorem law_HeadThousandths (u n : Int) (w : World) (u0 : 0 ≤ u) (u1 : u < 65536) : Calls Try.prog 6 #[.int .u16 u, .int .i64 n] w (True_ w) := by
  obtain ⟨n0, n1⟩ := tmod_bd n 1099511627776 (by omega)
  generalize hm : n.tmod 1099511627776 = m at *
  have HT := Lib.hid (fun W => hthou_any ⟨0, 0, 0, u, 0, 0, 0, 0, 0, 0, 0, 0, 0, false⟩ m W ⟨u0, u1⟩ (by omega) (by omega))
  have HZ := Lib.hid (fun W => hthou_any ⟨0, 0, 0, u, 0, 0, 0, 0, 0, 0, 0, 0, 0, false⟩ 0 W ⟨u0, u1⟩ (by omega) (by omega))
  have HS := Lib.hid (fun W => hthou_any ⟨0, 0, 0, u, 0, 0, 0, 0, 0, 0, 0, 0, 0, false⟩ u W ⟨u0, u1⟩ (by omega) (by omega))
  cases hR : hdRight ⟨0, 0, 0, u, 0, 0, 0, 0, 0, 0, 0, 0, 0, false⟩ with
  | false =>
    rw [show hthou ⟨0, 0, 0, u, 0, 0, 0, 0, 0, 0, 0, 0, 0, false⟩ m = 0 by unfold hthou; rw [hR]; rfl] at HT
    have hor : decide (u < 16) = true ∨ decide (u < 16) = false ∧ decide (16384 < u) = true := by
      unfold hdRight at hR
      simp at hR ⊢
      omega
    clear hR HZ HS
    rcases hor with e1 | ⟨e1, e2⟩
    all_goals
      go_enter Try.func6, Try.ntmps6
      go_wp2_with fail
      refine (awake5_any w).mono ?_
      rintro e w1 ⟨rfl, hb1⟩
      have hA : Below w1.heap.size w1 (w1.alloc (.cells #[.int .u32 0, .int .u32 0, .int .u16 0, .int .u16 u, .int .u64 0, .int .u64 0, .int .i16 0, .int .i16 0, .int .i16 0, .int .i16 0, .int .u16 0, .int .u16 0, .int .i16 0, .bool false] 28)) := (Below.refl _ _).alloc (Nat.le_refl _) _
      have hB2 := hb1.trans (hA.mono hb1.size)
      go_wp2_with fail
      generalize w1.alloc _ = V at *
      refine (HT.out V).mono ?_
      rintro e w2 ⟨rfl, hb2⟩
      have hB3 := hB2.trans (hb2.mono hB2.size)
      go_wp2
      go_ret
      exact ⟨rfl, hB3⟩
  | true =>
    have hu : 16 ≤ u ∧ u ≤ 16384 := by unfold hdRight at hR; simpa using hR
    obtain ⟨u16, u17⟩ := hu
    rw [show hthou ⟨0, 0, 0, u, 0, 0, 0, 0, 0, 0, 0, 0, 0, false⟩ m = thou u m by unfold hthou; rw [hR]; rfl] at HT
    rw [show hthou ⟨0, 0, 0, u, 0, 0, 0, 0, 0, 0, 0, 0, 0, false⟩ 0 = 0 by unfold hthou; rw [hR]; exact thou_zero u u16] at HZ
    rw [show hthou ⟨0, 0, 0, u, 0, 0, 0, 0, 0, 0, 0, 0, 0, false⟩ u = 1000 by unfold hthou; rw [hR]; exact thou_self u u16] at HS
    have HRt := Lib.hid (fun W => rthou_any u m W u16 u17 (by omega) (by omega))
    obtain ⟨t0, t1⟩ := thou_near u m u16 u17
    obtain ⟨b0, b1⟩ := thou_bd u m u16 u17 (by omega) (by omega)
    have e1 : decide (u < 16) = false := by simp; omega
    have e2 : decide (16384 < u) = false := by simp; omega
    generalize thou u m = k at *
    generalize hq : u * k = q at *
    have q0 : -40000000000000000 ≤ q ∧ q ≤ 40000000000000000 := by omega
    have hw : wrap64 (u * k) = q := by rw [hq]; exact wrap64_in _ (by omega) (by omega)
    have hw' : IntKind.i64.wrap (u * k) = q := by rw [hq]; exact IntWalk.i64_in _ (by omega)
    clear hR
    go_enter Try.func6, Try.ntmps6
    go_wp2_with fail
    refine (awake5_any w).mono ?_
    rintro e w1 ⟨rfl, hb1⟩
    have hA : Below w1.heap.size w1 (w1.alloc (.cells #[.int .u32 0, .int .u32 0, .int .u16 0, .int .u16 u, .int .u64 0, .int .u64 0, .int .i16 0, .int .i16 0, .int .i16 0, .int .i16 0, .int .u16 0, .int .u16 0, .int .i16 0, .bool false] 28)) := (Below.refl _ _).alloc (Nat.le_refl _) _
    have hk2 := heap_alloc_new w1 (.cells #[.int .u32 0, .int .u32 0, .int .u16 0, .int .u16 u, .int .u64 0, .int .u64 0, .int .i16 0, .int .i16 0, .int .i16 0, .int .i16 0, .int .u16 0, .int .u16 0, .int .i16 0, .bool false] 28)
    have hB2 := hb1.trans (hA.mono hb1.size)
    go_wp2_with fail
    generalize w1.alloc _ = V at *
    refine (HT.out V).mono ?_
    rintro e w2 ⟨rfl, hb2⟩
    have hk3 := kept_block hk2 hb2
    have hB3 := hB2.trans (hb2.mono hB2.size)
    clear hk2 hB2 hb2 hA hb1
    go_wp2_with fail
    refine (HRt.out w2).mono ?_
    rintro e w3 ⟨rfl, rfl⟩
    obtain ⟨c0, c1, c2, c3, c4, c5, c6, c7, c8, c9, c10, c11, c12, c13⟩ := cells14 hk3
    have hkk : (k == k) = true := by simp
    go_wp2_with fail
    refine (HS.out w2).mono ?_
    rintro e w4 ⟨rfl, hb4⟩
    have hk4 := kept_block hk3 hb4
    have hB4 := hB3.trans (hb4.mono hB3.size)
    clear c0 c1 c2 c3 c4 c5 c6 c7 c8 c9 c10 c11 c12 c13 hk3 hB3 hb4
    obtain ⟨c0, c1, c2, c3, c4, c5, c6, c7, c8, c9, c10, c11, c12, c13⟩ := cells14 hk4
    go_wp2_with fail
    refine (HZ.out w4).mono ?_
    rintro e w5 ⟨rfl, hb5⟩
    have hB5 := hB4.trans (hb5.mono hB4.size)
    go_wp2
    go_ret
    exact ⟨rfl, hB5⟩

end Go.Proofs.Ytmpicokeenodbaa
