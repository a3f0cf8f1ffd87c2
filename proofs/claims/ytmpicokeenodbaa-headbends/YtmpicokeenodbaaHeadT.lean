/- What Thousandths answers, the program's and the document's. -/
import Derived.Test.YtmpicokeenodbaaHead
import Derived.IntWalk
namespace Go.Proofs.Ytmpicokeenodbaa
open Go.RowKit
set_option linter.unusedVariables false

theorem ret_i64 {a b : Int} (h : a = b) : Ending.returned (.int .i64 a) = .returned (.int .i64 b) := by rw [h]

theorem tdiv_floor (n b : Int) (hb : 0 < b) : (if n.tmod b < 0 then n.tdiv b - 1 else n.tdiv b) = n / b := by
  rw [Int.tdiv_eq_ediv, Int.tmod_eq_emod]
  have h1 := Int.emod_nonneg n (show b ≠ 0 by omega)
  have h2 := Int.emod_lt_of_pos n hb
  have hs : b.sign = 1 := Int.sign_eq_one_of_pos hb
  have hn : (b.natAbs : Int) = b := by omega
  by_cases hd : b ∣ n
  · have : n % b = 0 := Int.emod_eq_zero_of_dvd hd
    simp [hd, this]
  · have : n % b ≠ 0 := fun e => hd (Int.dvd_of_emod_eq_zero e)
    by_cases h0 : 0 ≤ n
    · simp [h0]
      omega
    · simp only [h0, hd, or_self, if_false, hs, hn]
      rw [if_pos (by omega)]
      omega

theorem floorBy_any (n b : Int) (w : World) (n0 : -4611686018427387904 ≤ n) (n1 : n ≤ 4611686018427387904) (b0 : 0 < b) (b1 : b ≤ 65536) :
    Calls Try.prog 45 #[.int .i64 n, .int .i64 b] w (fun e w' => e = .returned (.int .i64 (n / b)) ∧ w = w') := by
  have H := Lib.hid (tdiv_floor n b b0)
  have hne : (b == 0) = false := by simp; omega
  have hq := Int.natAbs_tdiv_le_natAbs n b
  cases ht : decide (n.tmod b < 0)
  · have ht' : ¬ n.tmod b < 0 := by simpa using ht
    rw [if_neg ht'] at H
    go_enter Try.func45, Try.ntmps45
    go_wp2
    go_ret
    exact ⟨ret_i64 H.out, rfl⟩
  · have ht' : n.tmod b < 0 := by simpa using ht
    rw [if_pos ht'] at H
    have hw : IntKind.i64.wrap (n.tdiv b - 1) = n.tdiv b - 1 := IntWalk.i64_in _ (by omega)
    go_enter Try.func45, Try.ntmps45
    go_wp2
    go_ret
    exact ⟨ret_i64 H.out, rfl⟩

theorem wrap64_in (x : Int) (h0 : -9223372036854775808 ≤ x) (h1 : x ≤ 9223372036854775807) : wrap64 x = x := by unfold wrap64; omega

/-- So many thousandths, to the nearest, the half up. -/
def thou (u n : Int) : Int := (n * 1000 + u / 2) / u
def hthou (h : Hd) (n : Int) : Int := if hdRight h = true then thou h.un n else 0

theorem hthou_any (h : Hd) (n : Int) (w : World) (hu : 0 ≤ h.un ∧ h.un < 65536) (n0 : -1099511627776 ≤ n) (n1 : n ≤ 1099511627776) : Calls Try.prog 22 #[hdV h, .int .i64 n] w (Ret w (.int .i64 (hthou h n))) := by
  have hk := heap_alloc_new w (.cells (hdC h) 28)
  have hA : Below w.heap.size w (w.alloc (.cells (hdC h) 28)) := (Below.refl _ _).alloc (Nat.le_refl _) _
  have HR := Lib.hid (fun W => hright_any h W)
  cases hR : hdRight h with
  | false =>
    rw [hR] at HR
    have HT : Hid (hthou h n = 0) := by show hthou h n = 0; unfold hthou; rw [hR]; rfl
    obtain ⟨rv, ad, fl, un, cr, mo, x0, x1, x2, x3, st, lo, hi, lg⟩ := h
    simp only [hdC] at hk hA
    clear hR
    go_enter Try.func22, Try.ntmps22
    go_wp2_with fail
    generalize w.alloc _ = V at *
    refine (HR.out _).mono ?_
    rintro e w1 ⟨rfl, hb1⟩
    go_wp2
    go_ret
    exact ⟨ret_i64 HT.out.symm, hA.trans (hb1.mono hA.size)⟩
  | true =>
    rw [hR] at HR
    have HT : Hid (hthou h n = thou h.un n) := by show hthou h n = thou h.un n; unfold hthou; rw [hR]; rfl
    have hu16 : 16 ≤ h.un ∧ h.un ≤ 16384 := by unfold hdRight at hR; simpa using hR
    obtain ⟨rv, ad, fl, un, cr, mo, x0, x1, x2, x3, st, lo, hi, lg⟩ := h
    simp only [hdC] at hk hA hu hu16 HT
    obtain ⟨u0, u1⟩ := hu16
    clear hR hu
    go_enter Try.func22, Try.ntmps22
    go_wp2_with fail
    generalize w.alloc _ = V at *
    refine (HR.out _).mono ?_
    rintro e w1 ⟨rfl, hb1⟩
    have hk1 := kept_block hk hb1
    have hB1 := hA.trans (hb1.mono hA.size)
    obtain ⟨c0, c1, c2, c3, c4, c5, c6, c7, c8, c9, c10, c11, c12, c13⟩ := cells14 hk1
    clear hk hA hb1 hk1
    go_wp2_with fail
    refine (floorBy_any (n * 1000 + un / 2) un _ (by omega) (by omega) (by omega) (by omega)).mono ?_
    rintro e w2 ⟨rfl, rfl⟩
    go_wp2
    go_ret
    exact ⟨ret_i64 HT.out.symm, hB1⟩

theorem tmod_bd (m u : Int) (h : 0 < u) : -u < m.tmod u ∧ m.tmod u < u := by
  have h1 := Int.emod_nonneg m (show u ≠ 0 by omega)
  have h2 := Int.emod_lt_of_pos m h
  rw [Int.tmod_eq_emod]
  split <;> omega

theorem rthou_any (u n : Int) (w : World) (u0 : 16 ≤ u) (u1 : u ≤ 16384) (n0 : -1099511627776 ≤ n) (n1 : n ≤ 1099511627776) : Calls Try.prog 23 #[.int .i64 u, .int .i64 n] w (fun e w' => e = .returned (.int .i64 (thou u n)) ∧ w = w') := by
  have hne : (u == 0) = false := by simp; omega
  obtain ⟨m0, m1⟩ := tmod_bd (1000 * n + u / 2) u (by omega)
  have hr : (1000 * n + u / 2).tmod u % u = (1000 * n + u / 2) % u := by
    rw [Int.tmod_eq_emod]
    split
    · simp
    · rw [show ((u.natAbs : Nat) : Int) = u by omega, Int.sub_emod_right, Int.emod_emod]
  have r0 := Int.emod_nonneg (1000 * n + u / 2) (show u ≠ 0 by omega)
  have r1 := Int.emod_lt_of_pos (1000 * n + u / 2) (show 0 < u by omega)
  have hd : (1000 * n + u / 2 - (1000 * n + u / 2) % u).tdiv u = (1000 * n + u / 2) / u := by
    rw [show 1000 * n + u / 2 - (1000 * n + u / 2) % u = u * ((1000 * n + u / 2) / u) by have := Int.mul_ediv_add_emod (1000 * n + u / 2) u; omega, Int.mul_tdiv_cancel_left _ (by omega)]
  have ha := Int.natAbs_tdiv_le_natAbs (1000 * n + u / 2 - (1000 * n + u / 2) % u) u
  have HR : Hid (wrap64 ((wrap64 (1000 * n + u / 2 - (1000 * n + u / 2).tmod u % u)).tdiv u) = (1000 * n + u / 2) / u) := by
    show wrap64 ((wrap64 (1000 * n + u / 2 - (1000 * n + u / 2).tmod u % u)).tdiv u) = (1000 * n + u / 2) / u
    rw [hr, show wrap64 (1000 * n + u / 2 - (1000 * n + u / 2) % u) = 1000 * n + u / 2 - (1000 * n + u / 2) % u from wrap64_in _ (by omega) (by omega), show wrap64 ((1000 * n + u / 2 - (1000 * n + u / 2) % u).tdiv u) = (1000 * n + u / 2 - (1000 * n + u / 2) % u).tdiv u from wrap64_in _ (by omega) (by omega), hd]
  clear hr r0 r1 hd ha
  go_enter Try.func23, Try.ntmps23
  go_wp2
  go_ret
  refine ⟨ret_i64 ?_, rfl⟩
  have e : thou u n = (1000 * n + u / 2) / u := by unfold thou; rw [Int.mul_comm]
  rw [e, ← HR.out]

end Go.Proofs.Ytmpicokeenodbaa
