/- The law TallySums. -/
import Derived.Test.YteampemlkkkfcaaLaw02
namespace Go.Proofs.Yteampemlkkkfcaa
open Go.RowKit
set_option linter.unusedVariables false

set_option maxRecDepth 100000 in
set_option maxHeartbeats 4000000 in
theorem law_TallySums (A : Option Addr) (n c : Nat) (zs : List Int) (w : World) (hr : Row w A n (cellsOf .u8 zs)) (hB : Bytes zs) (hn : n ≤ 9223372036854775807) :
    Calls Try.prog 9 #[.slice A n c] w (True_ w) := by
  go_enter Try.func9, Try.ntmps9
  go_wp2_with fail
  refine (awake2_any w).mono ?_
  rintro e w0 ⟨rfl, hb0⟩
  go_wp2_with fail
  refine (cut_any _ _ _ zs 200 _ (hr.below hb0) hn (by omega)).mono ?_
  rintro e w1 ⟨A1, n1, k1, rfl, hown, hb1'⟩
  have hb1 : Below w.heap.size w w1 := hb0.trans (hb1'.mono hb0.size)
  have hB1 : Bytes (zs.take (200 : Int).toNat) := cut_bytes hB _
  have hl1 : n1 ≤ 200 := by have := hown.len; rw [List.length_take] at this; simp at this; omega
  have hrow1 := hown.row
  have Hl := Lib.hid hown.len
  have HB := Lib.hid hB1
  clear hb1' hb0 hr hB hn hB1 hown
  generalize zs.take (200 : Int).toNat = ps at *
  go_wp2_with fail
  refine (pad_any _ _ _ ps _ hrow1 (by omega)).mono ?_
  rintro e w2 ⟨A2, n2, k2, rfl, hown2, hb2'⟩
  have hs1 := hb1.size
  have hb2 : Below w.heap.size w w2 := hb1.trans (hb2'.mono hs1)
  have hp2 := hrow1.below hb2'
  have hq2 := hown2.row
  have hn2 : n2 = padN n1 := by have := hown2.len; rw [pad_len, Hl.out] at this; exact this.symm
  have hm4 : ((n2 : Int) % 4) = 0 := by have := padN_mod n1; rw [hn2]; omega
  have hm4' : n2 % 4 = 0 := by rw [hn2]; exact padN_mod n1
  have hd4 : n1 ≤ n2 ∧ n2 - n1 < 4 := by rw [hn2]; unfold padN; omega
  have Hn2 := Lib.hid hn2
  obtain ⟨hd0, hd1⟩ := hd4
  clear hown2 hb2' hrow1 hb1 hs1 hn2
  obtain ⟨v, hv⟩ : ∃ v, rs ps % 4294967296 = v := ⟨_, rfl⟩
  have hv0 : 0 ≤ v ∧ v < 4294967296 := by rw [← hv]; omega
  have hav : ((2981146554 - rs ps) % 4294967296 + v) % 4294967296 = 2981146554 := by omega
  have HV := Lib.hid hv
  have HAV := Lib.hid hav
  obtain ⟨v0, v1⟩ := hv0
  clear hv hav
  have hvv : (v == v) = true := by simp
  go_wp2_with fail
  refine (sum_rs_any _ _ _ ps _ hp2 HB.out (by omega)).mono ?_
  rintro e w3 ⟨rfl, hb3'⟩
  rw [HV.out]
  have hb3 : Below w.heap.size w w3 := hb2.trans (hb3'.mono hb2.size)
  have hp3 := hp2.below hb3'
  have hq3 := hq2.below hb3'
  clear hb2 hb3' hp2 hq2
  go_wp2_with fail
  refine (refSum_any _ _ _ ps _ hp3 HB.out (by omega)).mono ?_
  rintro e w4 ⟨rfl, hb4'⟩
  rw [HV.out]
  have hb4 : Below w.heap.size w w4 := hb3.trans (hb4'.mono hb3.size)
  have hp4 := hp3.below hb4'
  have hq4 := hq3.below hb4'
  clear hb3 hb4' hp3 hq3
  go_wp2_with fail
  refine (sum_rs_any _ _ _ (pad ps) _ hq4 (pad_bytes HB.out) (by omega)).mono ?_
  rintro e w5 ⟨rfl, hb5'⟩
  rw [rs_pad, HV.out]
  have hb5 : Below w.heap.size w w5 := hb4.trans (hb5'.mono hb4.size)
  have hp5 := hp4.below hb5'
  have hq5 := hq4.below hb5'
  clear hb4 hb5' hp4 hq4
  go_wp2_with fail
  refine (refSum_any _ _ _ ps _ hp5 HB.out (by omega)).mono ?_
  rintro e w6 ⟨rfl, hb6'⟩
  rw [HV.out]
  have hb6 : Below w.heap.size w w6 := hb5.trans (hb6'.mono hb5.size)
  have hp6 := hp5.below hb6'
  have hq6 := hq5.below hb6'
  clear hb5 hb6' hp5 hq5
  have hmk := make_bytes ((n2 : Int) - (n1 : Int)) (n2 - n1) (by omega) (by omega)
  have hd2 : decide ((n2 : Int) - (n1 : Int) < 4) = true := by simp; omega
  go_wp2_with fail
  have ha6 : Below w6.heap.size w6 (w6.alloc (.cells (cellsOf .u8 (List.replicate (n2 - n1) 0)).toArray 5)) := (Below.refl _ _).alloc (Nat.le_refl _) _
  have hz6 := row_lit w6 .u8 5 (List.replicate (n2 - n1) 0) (n2 - n1) (by simp)
  have hs7 : (w6.alloc (.cells (cellsOf .u8 (List.replicate (n2 - n1) 0)).toArray 5)).heap.size = w6.heap.size + 1 := by simp
  have hp7 := hp6.below ha6
  have hq7 := hq6.below ha6
  have hb7 := hb6.trans (ha6.mono hb6.size)
  generalize (w6.alloc (.cells (cellsOf .u8 (List.replicate (n2 - n1) 0)).toArray 5)) = w7 at *
  clear hmk hp6 hq6 hb6 ha6
  rw [← hs7]
  have ha7 : Below w7.heap.size w7 (w7.alloc (.cells #[.slice A1 n1 k1, .slice (some ⟨w6.heap.size, 0, none⟩) (n2 - n1) (n2 - n1)] 22)) := (Below.refl _ _).alloc (Nat.le_refl _) _
  have hj : joined [⟨A1, n1, k1, ps⟩, ⟨some ⟨w6.heap.size, 0, none⟩, n2 - n1, n2 - n1, List.replicate (n2 - n1) 0⟩] = pad ps := by
    simp only [joined, List.flatMap_cons, List.flatMap_nil, List.append_nil]
    unfold pad
    rw [Hl.out, ← Hn2.out]
  refine (join_any _ _ _ [⟨A1, n1, k1, ps⟩, ⟨some ⟨w6.heap.size, 0, none⟩, n2 - n1, n2 - n1, List.replicate (n2 - n1) 0⟩] _ (row_vals w7 22 _ 2 rfl) ?_ (by omega) (by rw [hj, pad_len, Hl.out, ← Hn2.out]; omega)).mono ?_
  · intro p hp
    simp at hp
    rcases hp with rfl | rfl
    · exact hp7.below ha7
    · exact hz6.below ha7
  rintro e w8 ⟨A8, n8, k8, rfl, hown8, hb8'⟩
  rw [hj] at hown8
  have hk8 : Below w7.heap.size w7 w8 := ha7.trans (hb8'.mono (by simp))
  have hb8 : Below w.heap.size w w8 := hb7.trans (hk8.mono hb7.size)
  have hp8 := hp7.below hk8
  have hq8 := hq7.below hk8
  have hj8 := hown8.row
  have hn8 : n8 = n2 := by have := hown8.len; rw [pad_len, Hl.out, ← Hn2.out] at this; exact this.symm
  have hn8b : n8 ≤ 300 := by omega
  clear hp7 hq7 hb7 ha7 hz6 hs7 hb8' hk8 hown8 hn8 hj
  go_wp2_with fail
  refine (same_any _ _ _ _ _ _ _ _ _ hq8 hj8 (by omega) (by omega)).mono ?_
  rintro e w9 ⟨rfl, q, rfl⟩
  rw [sameB_refl]
  have hp9 := hp8.drewN q
  have hb9 := below_drewN hb8 q
  generalize w8.drewN q = w9 at *
  clear hp8 hq8 hj8 hb8
  go_wp2_with fail
  refine (adjust_rs_any _ _ _ ps _ hp9 HB.out (by omega)).mono ?_
  rintro e w10 ⟨rfl, hb10'⟩
  have hp10 := hp9.below hb10'
  have hb10 : Below w.heap.size w w10 := hb9.trans (hb10'.mono hb9.size)
  clear hp9 hb9 hb10'
  go_wp2_with fail
  refine (refSum_any _ _ _ ps _ hp10 HB.out (by omega)).mono ?_
  rintro e w11 ⟨rfl, hb11'⟩
  rw [HV.out]
  have hb11 : Below w.heap.size w w11 := hb10.trans (hb11'.mono hb10.size)
  have hav := HAV.out
  clear hp10 hb10 hb11'
  go_wp2
  go_ret
  exact ⟨rfl, hb11⟩

end Go.Proofs.Yteampemlkkkfcaa
