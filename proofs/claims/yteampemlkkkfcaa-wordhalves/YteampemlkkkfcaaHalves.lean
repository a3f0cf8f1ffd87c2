/- The law WordHalves. -/
import Derived.Test.YteampemlkkkfcaaLaw01
namespace Go.Proofs.Yteampemlkkkfcaa
open Go.RowKit

/-- A number whose low bits are noughts, and one that has but those. -/
theorem or_low (k : Nat) (a b : Nat) (h : a * 2 ^ k < 4294967296) (hb : b < 2 ^ k) (hb' : b < 4294967296) : bits .or .u32 ((a * 2 ^ k : Nat) : Int) (b : Int) = ((a * 2 ^ k + b : Nat) : Int) := by
  rw [u32_or_nat _ _ h hb', ← Nat.shiftLeft_eq, ← Nat.shiftLeft_add_eq_or_of_lt hb]

theorem or_low8 (a b : Int) (h0 : 0 ≤ a) (h : a * 256 < 4294967296) (hb0 : 0 ≤ b) (hb : b < 256) : bits .or .u32 (a * 256) b = a * 256 + b := by
  obtain ⟨a, rfl⟩ := Int.eq_ofNat_of_zero_le h0
  obtain ⟨b, rfl⟩ := Int.eq_ofNat_of_zero_le hb0
  have := or_low 8 a b (by omega) (by omega) (by omega)
  simpa using this
theorem or_low16 (a b : Int) (h0 : 0 ≤ a) (h : a * 65536 < 4294967296) (hb0 : 0 ≤ b) (hb : b < 65536) : bits .or .u32 (a * 65536) b = a * 65536 + b := by
  obtain ⟨a, rfl⟩ := Int.eq_ofNat_of_zero_le h0
  obtain ⟨b, rfl⟩ := Int.eq_ofNat_of_zero_le hb0
  have := or_low 16 a b (by omega) (by omega) (by omega)
  simpa using this
theorem or_low24 (a b : Int) (h0 : 0 ≤ a) (h : a * 16777216 < 4294967296) (hb0 : 0 ≤ b) (hb : b < 16777216) : bits .or .u32 (a * 16777216) b = a * 16777216 + b := by
  obtain ⟨a, rfl⟩ := Int.eq_ofNat_of_zero_le h0
  obtain ⟨b, rfl⟩ := Int.eq_ofNat_of_zero_le hb0
  have := or_low 24 a b (by omega) (by omega) (by omega)
  simpa using this

/-- A number of 32 bits by its bytes. -/
theorem by_bytes (n : Int) (h0 : 0 ≤ n) (h1 : n < 4294967296) : ∃ x0 x1 x2 x3 : Int, (0 ≤ x0 ∧ x0 ≤ 255) ∧ (0 ≤ x1 ∧ x1 ≤ 255) ∧ (0 ≤ x2 ∧ x2 ≤ 255) ∧ (0 ≤ x3 ∧ x3 ≤ 255) ∧ n = x0 * 16777216 + x1 * 65536 + x2 * 256 + x3 ∧ b4 n = [x0, x1, x2, x3] := by
  refine ⟨n / 65536 / 256 % 256, n / 65536 % 256, n % 65536 / 256 % 256, n % 65536 % 256, ?_, ?_, ?_, ?_, ?_, rfl⟩ <;> omega

set_option maxHeartbeats 2000000 in
theorem law_WordHalves (n : Int) (w : World) (h0 : 0 ≤ n) (h1 : n < 4294967296) : Calls Try.prog 8 #[.int .u32 n] w (True_ w) := by
  obtain ⟨x0, x1, x2, x3, ⟨a0, a1⟩, ⟨c0, c1⟩, ⟨d0, d1⟩, ⟨e0, e1⟩, rfl, hb4⟩ := by_bytes n h0 h1
  have H4 := Lib.hid hb4
  clear hb4
  have HB : Hid (Bytes [x0, x1, x2, x3]) := by intro x hx; simp at hx; omega
  go_enter Try.func8, Try.ntmps8
  go_wp2_with fail
  refine (awake_any w).mono ?_
  rintro e w0 ⟨rfl, hb0⟩
  go_wp2_with fail
  refine (b4_any _ _ h0 h1).mono ?_
  rintro e w1 ⟨A1, n1, k1, rfl, hown, hb1'⟩
  rw [H4.out] at hown
  have hl : n1 = 4 := hown.len.symm
  subst hl
  have hs0 := hb0.size
  have hb1 : Below w.heap.size w w1 := hb0.trans (hb1'.mono hs0)
  have hrow1 := hown.row
  clear hown hb1' hb0 hs0 H4
  have hs1 := hb1.size
  go_wp2_with fail
  refine (new_any _ _ _ _ _ hrow1 (by omega)).mono ?_
  rintro e w2 ⟨ra, rfl, hra, hb2'⟩
  have hb2 : Below w.heap.size w w2 := hb1.trans (hb2'.mono hs1)
  have hra2 := hra.mono hs1
  have hrow2 := hrow1.below hb2'
  have hs2 := hb2.size
  clear hra hb2' hrow1 hb1 hs1
  go_wp2_with fail
  refine (new_any _ _ _ _ _ hrow2 (by omega)).mono ?_
  rintro e w3 ⟨rb, rfl, hrb, hb3'⟩
  have hb3 : Below w.heap.size w w3 := hb2.trans (hb3'.mono hs2)
  have hab : ra ≠ rb := by have := hra2.lt; have := hrb.from_; omega
  have hra3 := hra2.below hb3'
  have hrb3 := hrb.mono hs2
  have hrow3 := hrow2.below hb3'
  have hs3 := hb3.size
  clear hra2 hb3' hrow2 hb2 hs2 hrb
  go_wp2_with fail
  refine (new_any _ _ _ _ _ hrow3 (by omega)).mono ?_
  rintro e w4 ⟨rc, rfl, hrc, hb4'⟩
  have hb4 : Below w.heap.size w w4 := hb3.trans (hb4'.mono hs3)
  have hac : ra ≠ rc := by have := hra3.lt; have := hrc.from_; omega
  have hbc : rb ≠ rc := by have := hrb3.lt; have := hrc.from_; omega
  have hra4 := hra3.below hb4'
  have hrb4 := hrb3.below hb4'
  have hrc4 := hrc.mono hs3
  clear hra3 hb4' hrow3 hb3 hs3 hrb3 hrc
  have o1 : bits .or .u32 (x0 * 16777216) (x1 * 65536) = x0 * 16777216 + x1 * 65536 := or_low24 _ _ a0 (by omega) (by omega) (by omega)
  have o2 : bits .or .u32 (x0 * 16777216 + x1 * 65536) (x2 * 256) = x0 * 16777216 + x1 * 65536 + x2 * 256 := by
    have := or_low16 (x0 * 256 + x1) (x2 * 256) (by omega) (by omega) (by omega) (by omega)
    rw [show (x0 * 256 + x1) * 65536 = x0 * 16777216 + x1 * 65536 by omega] at this
    exact this
  have o3 : bits .or .u32 (x0 * 16777216 + x1 * 65536 + x2 * 256) x3 = x0 * 16777216 + x1 * 65536 + x2 * 256 + x3 := by
    have := or_low8 (x0 * 65536 + x1 * 256 + x2) x3 (by omega) (by omega) (by omega) (by omega)
    rw [show (x0 * 65536 + x1 * 256 + x2) * 256 = x0 * 16777216 + x1 * 65536 + x2 * 256 by omega] at this
    exact this
  have o4 : bits .or .u32 ((x0 * 256 + x1) * 65536) (x2 * 256 + x3) = x0 * 16777216 + x1 * 65536 + x2 * 256 + x3 := by
    rw [or_low16 _ _ (by omega) (by omega) (by omega) (by omega)]
    omega
  go_wp2_with fail
  refine (u16_any _ ra _ _ _ _ hra4 (by intro x hx; simp at hx; omega) (by simp) (by omega) (by omega)).mono ?_
  rintro e w5 ⟨rfl, hn, hg⟩
  have hb5 : Below w.heap.size w w5 := hb4.grown hg hb4.size (fun k e => by cases e; exact hra4.from_)
  have hrb5 := hrb4.other hg hra4.block hab.symm
  have hrc5 := hrc4.other hg hra4.block hac.symm
  have hra5 : Rd w5 w.heap.size ra [x2, x3] 2 false := hn
  rw [show num [x0, x1, x2, x3] 2 = x0 * 256 + x1 by simp [num, told, be]]
  clear hn hg hra4 hrb4 hrc4 hb4
  go_wp2_with fail
  refine (u16_any _ ra _ _ _ _ hra5 (by intro x hx; simp at hx; omega) (by simp) (by omega) (by omega)).mono ?_
  rintro e w6 ⟨rfl, hn, hg⟩
  have hb6 : Below w.heap.size w w6 := hb5.grown hg hb5.size (fun k e => by cases e; exact hra5.from_)
  have hrb6 := hrb5.other hg hra5.block hab.symm
  have hrc6 := hrc5.other hg hra5.block hac.symm
  have hra6 : Rd w6 w.heap.size ra [] 4 false := hn
  rw [show num [x2, x3] 2 = x2 * 256 + x3 by simp [num, told, be]]
  clear hn hg hra5 hrb5 hrc5 hb5
  go_wp2_with fail
  refine (u8_any _ rb _ _ _ _ hrb6 (by intro x hx; simp at hx; omega) (by simp) (by omega) (by omega)).mono ?_
  rintro e w7 ⟨rfl, hn, hg⟩
  have hb7 : Below w.heap.size w w7 := hb6.grown hg hb6.size (fun k e => by cases e; exact hrb6.from_)
  have hra7 := hra6.other hg hrb6.block hab
  have hrc7 := hrc6.other hg hrb6.block hbc.symm
  have hrb7 : Rd w7 w.heap.size rb [x1, x2, x3] 1 false := hn
  rw [show num [x0, x1, x2, x3] 1 = x0 by simp [num, told, be]]
  clear hn hg hra6 hrb6 hrc6 hb6
  go_wp2_with fail
  refine (u8_any _ rb _ _ _ _ hrb7 (by intro x hx; simp at hx; omega) (by simp) (by omega) (by omega)).mono ?_
  rintro e w8 ⟨rfl, hn, hg⟩
  have hb8 : Below w.heap.size w w8 := hb7.grown hg hb7.size (fun k e => by cases e; exact hrb7.from_)
  have hra8 := hra7.other hg hrb7.block hab
  have hrc8 := hrc7.other hg hrb7.block hbc.symm
  have hrb8 : Rd w8 w.heap.size rb [x2, x3] 2 false := hn
  rw [show num [x1, x2, x3] 1 = x1 by simp [num, told, be]]
  clear hn hg hra7 hrb7 hrc7 hb7
  go_wp2_with fail
  refine (u8_any _ rb _ _ _ _ hrb8 (by intro x hx; simp at hx; omega) (by simp) (by omega) (by omega)).mono ?_
  rintro e w9 ⟨rfl, hn, hg⟩
  have hb9 : Below w.heap.size w w9 := hb8.grown hg hb8.size (fun k e => by cases e; exact hrb8.from_)
  have hra9 := hra8.other hg hrb8.block hab
  have hrc9 := hrc8.other hg hrb8.block hbc.symm
  have hrb9 : Rd w9 w.heap.size rb [x3] 3 false := hn
  rw [show num [x2, x3] 1 = x2 by simp [num, told, be]]
  clear hn hg hra8 hrb8 hrc8 hb8
  go_wp2_with fail
  refine (u8_any _ rb _ _ _ _ hrb9 (by intro x hx; simp at hx; omega) (by simp) (by omega) (by omega)).mono ?_
  rintro e w10 ⟨rfl, hn, hg⟩
  have hb10 : Below w.heap.size w w10 := hb9.grown hg hb9.size (fun k e => by cases e; exact hrb9.from_)
  have hra10 := hra9.other hg hrb9.block hab
  have hrc10 := hrc9.other hg hrb9.block hbc.symm
  have hrb10 : Rd w10 w.heap.size rb [] 4 false := hn
  rw [show num [x3] 1 = x3 by simp [num, told, be]]
  clear hn hg hra9 hrb9 hrc9 hb9
  go_wp2_with fail
  refine (i16_any _ rc _ _ _ _ hrc10 (by intro x hx; simp at hx; omega) (by simp) (by omega) (by omega)).mono ?_
  rintro e w11 ⟨rfl, hn, hg⟩
  have hb11 : Below w.heap.size w w11 := hb10.grown hg hb10.size (fun k e => by cases e; exact hrc10.from_)
  have hra11 := hra10.other hg hrc10.block hac
  have hrb11 := hrb10.other hg hrc10.block hbc
  have hrc11 : Rd w11 w.heap.size rc [x2, x3] 2 false := hn
  rw [show num [x0, x1, x2, x3] 2 = x0 * 256 + x1 by simp [num, told, be]]
  clear hn hg hra10 hrb10 hrc10 hb10
  by_cases hs : 32767 < x0 * 256 + x1
  · rw [show sgn (x0 * 256 + x1) = x0 * 256 + x1 - 65536 by unfold sgn; rw [if_pos hs]]
    have t1 : (x0 * 256 + x1 - 65536) % 65536 = x0 * 256 + x1 := by omega
    have t2 : decide (x0 * 256 + x1 - 65536 < 0) = true := by simp; omega
    have t3 : decide (32768 ≤ x0 * 256 + x1) = true := by simp; omega
    go_wp2_with fail
    refine (at_any _ ra _ _ _ _ hra11).mono ?_
    rintro e w' ⟨rfl, rfl⟩
    go_wp2_with fail
    refine (left_any _ rb _ _ _ _ hrb11).mono ?_
    rintro e w' ⟨rfl, rfl⟩
    go_wp2
    go_ret
    exact ⟨rfl, hb11⟩
  · rw [show sgn (x0 * 256 + x1) = x0 * 256 + x1 by unfold sgn; rw [if_neg hs]]
    have t2 : decide (x0 * 256 + x1 < 0) = false := by simp; omega
    have t3 : decide (32768 ≤ x0 * 256 + x1) = false := by simp; omega
    go_wp2_with fail
    refine (at_any _ ra _ _ _ _ hra11).mono ?_
    rintro e w' ⟨rfl, rfl⟩
    go_wp2_with fail
    refine (left_any _ rb _ _ _ _ hrb11).mono ?_
    rintro e w' ⟨rfl, rfl⟩
    go_wp2
    go_ret
    exact ⟨rfl, hb11⟩

end Go.Proofs.Yteampemlkkkfcaa
