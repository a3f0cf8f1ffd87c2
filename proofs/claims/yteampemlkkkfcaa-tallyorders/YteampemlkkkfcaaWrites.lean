/- The law WordWrites. -/
import Derived.Test.YteampemlkkkfcaaWriter
namespace Go.Proofs.Yteampemlkkkfcaa
open Go.RowKit
set_option linter.unusedVariables false

/-- Asked for as many bytes as a known beginning has. -/
theorem ask_front (l r : List Int) (a : Int) (bad : Bool) (m : Nat) (hm : l.length = m) : told (l ++ r) m = l ∧ rest (l ++ r) m = r ∧ gone (l ++ r) a m = a + m ∧ badn (l ++ r) bad m = bad := by
  subst hm
  have h : l.length ≤ (l ++ r).length := by simp
  refine ⟨?_, ?_, ?_, ?_⟩ <;> simp [told, rest, gone, badn]

theorem be_b2 (x : Int) (h0 : 0 ≤ x) (h1 : x < 65536) : be (b2 x) = x := by
  simp only [be, b2, List.foldl_cons, List.foldl_nil]
  omega
theorem be_b4 (x : Int) (h0 : 0 ≤ x) (h1 : x < 4294967296) : be (b4 x) = x := by
  simp only [be, b4, b2, List.cons_append, List.nil_append, List.foldl_cons, List.foldl_nil]
  omega
theorem b2_bytes (x : Int) : Bytes (b2 x) := by intro y hy; simp [b2] at hy; omega
theorem b4_bytes (x : Int) : Bytes (b4 x) := by intro y hy; simp [b4, b2] at hy; omega
theorem bytes_append {a b : List Int} (ha : Bytes a) (hb : Bytes b) : Bytes (a ++ b) := fun x hx => (List.mem_append.1 hx).elim (ha x) (hb x)

set_option maxHeartbeats 4000000 in
theorem law_WordWrites (a b c d : Int) (A : Option Addr) (n cp : Nat) (zs : List Int) (w : World) (hr : Row w A n (cellsOf .u8 zs)) (hB : Bytes zs) (hn : n ≤ 9223372036854775807)
    (a0 : 0 ≤ a) (a1 : a ≤ 255) (b0 : 0 ≤ b) (b1 : b < 65536) (c0 : -32768 ≤ c) (c1 : c < 32768) (d0 : 0 ≤ d) (d1 : d < 4294967296) :
    Calls Try.prog 5 #[.int .u8 a, .int .u16 b, .int .i16 c, .int .u32 d, .slice A n cp] w (True_ w) := by
  go_enter Try.func5, Try.ntmps5
  go_wp2_with fail
  refine (awake_any w).mono ?_
  rintro e w0 ⟨rfl, hb0⟩
  go_wp2_with fail
  refine (cut_any _ _ _ zs 40 _ (hr.below hb0) hn (by omega)).mono ?_
  rintro e w1 ⟨A1, n1, k1, rfl, hown, hb1'⟩
  have hb1 : Below w.heap.size w w1 := hb0.trans (hb1'.mono hb0.size)
  have hB1 : Bytes (zs.take (40 : Int).toNat) := cut_bytes hB _
  have hl1 : n1 ≤ 40 := by have := hown.len; rw [List.length_take] at this; simp at this; omega
  have hrow1 := hown.row
  have Hl := Lib.hid hown.len
  have HB := Lib.hid hB1
  clear hb1' hb0 hr hB hn hB1 hown
  generalize zs.take (40 : Int).toNat = ps at *
  have hs1 := hb1.size
  have hw1 := wr_new w1
  have hk1 : Below w1.heap.size w1 (w1.alloc (.cells #[.slice none 0 0] 46)) := (Below.refl _ _).alloc (Nat.le_refl _) _
  go_wp2_with fail
  refine (wu8_any _ _ _ a _ hw1 (by simp)).mono ?_
  rintro e w2 ⟨rfl, hw2, ht2⟩
  have hk2 := hw1.older hk1 (Nat.le_refl _) ht2
  clear ht2 hw1 hk1
  go_wp2_with fail
  refine (wu16_any _ _ _ b _ hw2 (by simp) b0 b1).mono ?_
  rintro e w3 ⟨rfl, hw3, ht3⟩
  have hk3 := hw2.older hk2 (Nat.le_refl _) ht3
  clear ht3 hw2 hk2
  go_wp2_with fail
  refine (wi16_any _ _ _ c _ hw3 (by simp [b2])).mono ?_
  rintro e w4 ⟨rfl, hw4, ht4⟩
  have hk4 := hw3.older hk3 (Nat.le_refl _) ht4
  clear ht4 hw3 hk3
  go_wp2_with fail
  refine (wu32_any _ _ _ d _ hw4 (by simp [b2]) d0 d1).mono ?_
  rintro e w5 ⟨rfl, hw5, ht5⟩
  have hk5 := hw4.older hk4 (Nat.le_refl _) ht5
  clear ht5 hw4 hk4
  go_wp2_with fail
  refine (wput_any _ _ _ _ _ _ ps _ hw5 (hrow1.below hk5) (by simp [b2, b4]; omega)).mono ?_
  rintro e w6 ⟨rfl, hw6, ht6⟩
  have hk6 := hw5.older hk5 (Nat.le_refl _) ht6
  clear ht6 hw5 hk5
  have HL : Hid ([] ++ [a] ++ b2 b ++ b2 (c % 65536) ++ b4 d ++ ps = [a] ++ (b2 b ++ (b2 (c % 65536) ++ (b4 d ++ ps)))) := by show _ = _; simp
  rw [HL.out] at hw6
  have hll : ([a] ++ (b2 b ++ (b2 (c % 65536) ++ (b4 d ++ ps)))).length ≤ 60 := by have := Hl.out; simp [b2, b4]; omega
  go_wp2_with fail
  refine (done_any _ _ _ _ hw6 (by omega)).mono ?_
  rintro e w7 ⟨A7, n7, k7, rfl, hown7, hb7'⟩
  have hk7 : Below w1.heap.size w1 w7 := hk6.trans (hb7'.mono hk6.size)
  have hb7 : Below w.heap.size w w7 := hb1.trans (hk7.mono hs1)
  have hrow7 := hown7.row
  have hn7 : n7 ≤ 60 := by have := hown7.len; omega
  have hp7 : Row w7 A1 n1 (cellsOf .u8 ps) := hrow1.below hk7
  clear hown7 hb7' hk7 hk6 hw6 hb1 hrow1 hs1 HL
  have HBL : Hid (Bytes ([a] ++ (b2 b ++ (b2 (c % 65536) ++ (b4 d ++ ps))))) := bytes_append (by intro x hx; simp at hx; omega) (bytes_append (b2_bytes _) (bytes_append (b2_bytes _) (bytes_append (b4_bytes _) HB.out)))
  go_wp2_with fail
  refine (new_any _ _ _ _ _ hrow7 (by omega)).mono ?_
  rintro e w8 ⟨r, rfl, hrd, hb8'⟩
  have hs7 := hb7.size
  have hrd8 := hrd.mono hs7
  have hout8 := hrow7.below hb8'
  have hp8 := hp7.below hb8'
  have hb8 : Below w.heap.size w w8 := hb7.trans (hb8'.mono hs7)
  have Hpr := Lib.hid (hp7.ne hrd.from_)
  clear hrow7 hp7 hb8' hb7 hs7 hrd
  go_wp2_with fail
  refine (b2_any b _ b0 (by omega)).mono ?_
  rintro e w9 ⟨A9, n9, k9, rfl, hown9, hb9'⟩
  have ha8 : Below w8.heap.size w8 (w8.alloc (.cells #[.int .u8 a] 5)) := (Below.refl _ _).alloc (Nat.le_refl _) _
  have hb9 := ha8.trans (hb9'.mono (by simp))
  have h0_9 : Row w9 (some ⟨w8.heap.size, 0, none⟩) 1 (cellsOf .u8 [a]) := (row_one w8 .u8 a 5).below hb9'
  have h1_9 := hown9.row
  clear hown9 hb9' ha8
  go_wp2_with fail
  refine (s2_any c _ c0 c1).mono ?_
  rintro e w10 ⟨A10, n10, k10, rfl, hown10, hb10'⟩
  have hb10 := hb9.trans (hb10'.mono hb9.size)
  have h0_10 := h0_9.below hb10'
  have h1_10 := h1_9.below hb10'
  have h2_10 := hown10.row
  clear hown10 hb10' h0_9 h1_9 hb9
  go_wp2_with fail
  refine (b4_any d _ d0 d1).mono ?_
  rintro e w11 ⟨A11, n11, k11, rfl, hown11, hb11'⟩
  have hb11 := hb10.trans (hb11'.mono hb10.size)
  have h0_11 := h0_10.below hb11'
  have h1_11 := h1_10.below hb11'
  have h2_11 := h2_10.below hb11'
  have h3_11 := hown11.row
  clear hown11 hb11' h0_10 h1_10 h2_10 hb10
  have hp11 := hp8.below hb11
  have ha11 : Below w11.heap.size w11 (w11.alloc (.cells #[.slice (some ⟨w8.heap.size, 0, none⟩) 1 1, .slice A9 n9 k9, .slice A10 n10 k10, .slice A11 n11 k11, .slice A1 n1 k1] 22)) := (Below.refl _ _).alloc (Nat.le_refl _) _
  go_wp2_with fail
  refine (join_any _ _ _ [⟨some ⟨w8.heap.size, 0, none⟩, 1, 1, [a]⟩, ⟨A9, n9, k9, b2 b⟩, ⟨A10, n10, k10, b2 (c % 65536)⟩, ⟨A11, n11, k11, b4 d⟩, ⟨A1, n1, k1, ps⟩] _ ?_ ?_ (by omega) (by have := Hl.out; simp [joined, b2, b4]; omega)).mono ?_
  · exact row_vals w11 22 _ 5 rfl
  · intro p hp
    simp at hp
    rcases hp with rfl | rfl | rfl | rfl | rfl
    · exact h0_11.below ha11
    · exact h1_11.below ha11
    · exact h2_11.below ha11
    · exact h3_11.below ha11
    · exact hp11.below ha11
  rintro e w12 ⟨A12, n12, k12, rfl, hown12, hb12'⟩
  rw [show joined [⟨some ⟨w8.heap.size, 0, none⟩, 1, 1, [a]⟩, ⟨A9, n9, k9, b2 b⟩, ⟨A10, n10, k10, b2 (c % 65536)⟩, ⟨A11, n11, k11, b4 d⟩, ⟨A1, n1, k1, ps⟩] = [a] ++ (b2 b ++ (b2 (c % 65536) ++ (b4 d ++ ps))) by simp [joined]] at hown12
  have hb12 : Below w8.heap.size w8 w12 := hb11.trans ((ha11.trans (hb12'.mono (by simp))).mono hb11.size)
  have hj12 := hown12.row
  have hn12 : n12 ≤ 60 := by have := hown12.len; omega
  clear h0_11 h1_11 h2_11 h3_11 hp11 ha11 hown12 hb12' hb11
  have hout12 := hout8.below hb12
  have hp12 := hp8.below hb12
  have hrd12 := hrd8.below hb12
  have hbw12 : Below w.heap.size w w12 := hb8.trans (hb12.mono hb8.size)
  clear hout8 hp8 hrd8 hb8 hb12
  go_wp2_with fail
  refine (same_any _ _ _ _ _ _ _ _ _ hout12 hj12 (by omega) (by omega)).mono ?_
  rintro e w13 ⟨rfl, q, rfl⟩
  rw [sameB_refl]
  have hrd13 := hrd12.drewN q
  have hp13 := hp12.drewN q
  have hb13 := below_drewN hbw12 q
  generalize w12.drewN q = w13 at *
  clear hout12 hj12 hrd12 hp12 hbw12
  have hq := ask_front ([a]) (b2 b ++ (b2 (c % 65536) ++ (b4 d ++ ps))) 0 false 1 rfl
  have hB14 : Bytes (b2 b ++ (b2 (c % 65536) ++ (b4 d ++ ps))) := fun x hx => HBL.out x (List.mem_append_right _ hx)
  have hl14 : ([a] ++ (b2 b ++ (b2 (c % 65536) ++ (b4 d ++ ps)))).length ≤ 60 := by have := Hl.out; simp [b2, b4]; omega
  go_wp2_with fail
  refine (u8_any _ r _ _ _ _ hrd13 HBL.out (by omega) (by omega) (by omega)).mono ?_
  rintro e w14 ⟨rfl, hrd14, hg⟩
  have hb14 : Below w.heap.size w w14 := hb13.grown hg hb13.size (fun k e => by cases e; exact hrd13.from_)
  have hp14 := hp13.ask hg Hpr.out
  rw [hq.2.1, hq.2.2.1, hq.2.2.2] at hrd14
  rw [show num ([a] ++ (b2 b ++ (b2 (c % 65536) ++ (b4 d ++ ps)))) 1 = a by unfold num; rw [hq.1]; simp [be]]
  have HB14 := Lib.hid hB14
  clear hq hg hrd13 hb13 hp13 hB14 HBL hl14
  have hq := ask_front (b2 b) (b2 (c % 65536) ++ (b4 d ++ ps)) ((0 : Int) + ((1 : Nat) : Int)) false 2 rfl
  have hB15 : Bytes (b2 (c % 65536) ++ (b4 d ++ ps)) := fun x hx => HB14.out x (List.mem_append_right _ hx)
  have hl15 : (b2 b ++ (b2 (c % 65536) ++ (b4 d ++ ps))).length ≤ 60 := by have := Hl.out; simp [b2, b4]; omega
  go_wp2_with fail
  refine (u16_any _ r _ _ _ _ hrd14 HB14.out (by omega) (by omega) (by omega)).mono ?_
  rintro e w15 ⟨rfl, hrd15, hg⟩
  have hb15 : Below w.heap.size w w15 := hb14.grown hg hb14.size (fun k e => by cases e; exact hrd14.from_)
  have hp15 := hp14.ask hg Hpr.out
  rw [hq.2.1, hq.2.2.1, hq.2.2.2] at hrd15
  rw [show num (b2 b ++ (b2 (c % 65536) ++ (b4 d ++ ps))) 2 = b by unfold num; rw [hq.1]; exact be_b2 b b0 b1]
  have HB15 := Lib.hid hB15
  clear hq hg hrd14 hb14 hp14 hB15 HB14 hl15
  have hq := ask_front (b2 (c % 65536)) (b4 d ++ ps) (((0 : Int) + ((1 : Nat) : Int)) + ((2 : Nat) : Int)) false 2 rfl
  have hB16 : Bytes (b4 d ++ ps) := fun x hx => HB15.out x (List.mem_append_right _ hx)
  have hl16 : (b2 (c % 65536) ++ (b4 d ++ ps)).length ≤ 60 := by have := Hl.out; simp [b2, b4]; omega
  go_wp2_with fail
  refine (i16_any _ r _ _ _ _ hrd15 HB15.out (by omega) (by omega) (by omega)).mono ?_
  rintro e w16 ⟨rfl, hrd16, hg⟩
  have hb16 : Below w.heap.size w w16 := hb15.grown hg hb15.size (fun k e => by cases e; exact hrd15.from_)
  have hp16 := hp15.ask hg Hpr.out
  rw [hq.2.1, hq.2.2.1, hq.2.2.2] at hrd16
  rw [show sgn (num (b2 (c % 65536) ++ (b4 d ++ ps)) 2) = c by unfold num; rw [hq.1, be_b2 _ (by omega) (by omega)]; unfold sgn; split <;> omega]
  have HB16 := Lib.hid hB16
  clear hq hg hrd15 hb15 hp15 hB16 HB15 hl16
  have hq := ask_front (b4 d) ps ((((0 : Int) + ((1 : Nat) : Int)) + ((2 : Nat) : Int)) + ((2 : Nat) : Int)) false 4 rfl
  have hB17 : Bytes ps := fun x hx => HB16.out x (List.mem_append_right _ hx)
  have hl17 : (b4 d ++ ps).length ≤ 60 := by have := Hl.out; simp [b2, b4]; omega
  go_wp2_with fail
  refine (u32_any _ r _ _ _ _ hrd16 HB16.out (by omega) (by omega) (by omega)).mono ?_
  rintro e w17 ⟨rfl, hrd17, hg⟩
  have hb17 : Below w.heap.size w w17 := hb16.grown hg hb16.size (fun k e => by cases e; exact hrd16.from_)
  have hp17 := hp16.ask hg Hpr.out
  rw [hq.2.1, hq.2.2.1, hq.2.2.2] at hrd17
  rw [show num (b4 d ++ ps) 4 = d by unfold num; rw [hq.1]; exact be_b4 d d0 d1]
  have HB17 := Lib.hid hB17
  clear hq hg hrd16 hb16 hp16 hB17 HB16 hl17
  have hq := ask_front ps [] ((0 : Int) + ((1 : Nat) : Int) + ((2 : Nat) : Int) + ((2 : Nat) : Int) + ((4 : Nat) : Int)) false n1 Hl.out
  rw [List.append_nil] at hq
  go_wp2_with fail
  refine (take_any _ r _ _ _ _ hrd17 (by have := Hl.out; omega) (by omega) (by omega) n1).mono ?_
  rintro e w18 ⟨A18, n18, k18, rfl, hrow18, _, hrd18, hg⟩
  have hb18 : Below w.heap.size w w18 := hb17.grown hg hb17.size (fun k e => by cases e; exact hrd17.from_)
  have hp18 := hp17.ask hg Hpr.out
  rw [hq.2.1] at hrd18
  rw [hq.1] at hrow18
  have hn18 : n18 ≤ 60 := by have := hrow18.len; have := Hl.out; omega
  clear hq hg hrd17 hb17 hp17
  go_wp2_with fail
  refine (same_any _ _ _ _ _ _ _ _ _ hrow18 hp18 (by omega) (by omega)).mono ?_
  rintro e w19 ⟨rfl, q, rfl⟩
  rw [sameB_refl]
  have hrd19 := hrd18.drewN q
  have hb19 := below_drewN hb18 q
  generalize w18.drewN q = w19 at *
  clear hrow18 hp18 hrd18 hb18
  go_wp2_with fail
  refine (left_any _ r _ _ _ _ hrd19).mono ?_
  rintro e w' ⟨rfl, rfl⟩
  go_wp2
  go_ret
  exact ⟨rfl, hb19⟩

end Go.Proofs.Yteampemlkkkfcaa
