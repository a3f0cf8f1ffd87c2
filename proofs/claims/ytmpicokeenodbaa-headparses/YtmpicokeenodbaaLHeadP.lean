/- The law HeadParses. -/
import Derived.Test.YtmpicokeenodbaaLHeadF
namespace Go.Proofs.Ytmpicokeenodbaa
open Go.RowKit
set_option linter.unusedVariables false

theorem hrt_is {zs : List Int} (hB : Bytes zs) (h : hrt zs = true) : hdL (hdOf zs) = zs ∧ hdRight (hdOf zs) = true := by
  have hl : zs.length = 54 := by unfold hrt at h; rw [decide_eq_true_iff] at h; exact h.1
  have h1 := hrt_same hB hl
  have hR : hdRight (hdOf zs) = true := by
    rw [hdRight_hdOf]
    unfold hrt at h
    rw [decide_eq_true_iff] at h
    simp [h.2.2.2.1, h.2.2.2.2.1]
  rw [h, if_pos hR] at h1
  unfold sameB at h1
  exact ⟨by simpa using h1, hR⟩

set_option maxRecDepth 100000 in
set_option maxHeartbeats 4000000 in
theorem law_HeadParses (A : Option Addr) (n c : Nat) (zs : List Int) (w : World) (hr : Row w A n (cellsOf .u8 zs)) (hB : Bytes zs) (hn : n ≤ 9223372036854775807) :
    Calls Try.prog 4 #[.slice A n c] w (True_ w) := by
  go_enter Try.func4, Try.ntmps4
  go_wp2_with fail
  refine (awake5_any w).mono ?_
  rintro e w0 ⟨rfl, hb0⟩
  go_wp2_with fail
  refine (cut_any _ _ _ zs 60 _ (hr.below hb0) hn (by omega)).mono ?_
  rintro e w1 ⟨A1, n1, k1, rfl, hown, hb1'⟩
  have hb1 : Below w.heap.size w w1 := hb0.trans (hb1'.mono hb0.size)
  have hB1 : Bytes (zs.take (60 : Int).toNat) := cut_bytes hB _
  have hl1 : n1 ≤ 60 := by have := hown.len; rw [List.length_take] at this; simp at this; omega
  have hr1 := hown.row
  have HB := Lib.hid hB1
  clear hb1' hb0 hr hB hn hB1 hown
  generalize zs.take (60 : Int).toNat = ps at *
  go_wp2_with fail
  refine (hparse_any A1 n1 k1 ps w1 hr1 HB.out).mono ?_
  rintro e w2 ⟨rfl, hb2⟩
  have hr2 := hr1.below hb2
  have hB2 := hb1.trans (hb2.mono hb1.size)
  clear hr1 hb1 hb2
  cases hR : hrt ps with
  | false =>
    rw [hdTold_no hR]
    have HR := Lib.hid hR
    clear hR
    have hA3 : Below w2.heap.size w2 (w2.alloc (.cells (hdC hd0) 28)) := (Below.refl _ _).alloc (Nat.le_refl _) _
    have hk := heap_alloc_new w2 (.cells (hdC hd0) 28)
    have hr3 := hr2.below hA3
    have hB3 := hB2.trans (hA3.mono hB2.size)
    simp only [hdC, hd0] at hr3 hk hB3
    clear hA3 hr2 hB2
    go_wp2_with fail
    simp only [hd0]
    generalize w2.alloc _ = w3 at *
    refine (rright5_any A1 n1 k1 ps w3 hr3 HB.out).mono ?_
    rintro e w4 ⟨rfl, q, rfl⟩
    rw [HR.out]
    have hB4 := below_drewN hB3 q
    have hk4 : (w3.drewN q).heap[w2.heap.size]? = _ := hk
    generalize w3.drewN q = w4 at *
    obtain ⟨c0, c1, c2, c3, c4, c5, c6, c7, c8, c9, c10, c11, c12, c13⟩ := cells14 hk4
    have heq := eq_box_self w4 0 0 0 0
    clear hk hk4 hr3 hB3
    go_wp2
    go_ret
    exact ⟨rfl, hB4⟩
  | true =>
    rw [hdTold_yes hR]
    obtain ⟨hL, hg⟩ := hrt_is HB.out hR
    have hok := hdOf_ok HB.out
    have HR := Lib.hid hR
    clear hR
    generalize hdOf ps = m at *
    have Hby := Lib.hid (fun W => hbytes_any m W hok hg)
    have Hrb := Lib.hid (fun W => rbytes5_any m W hok)
    have How := Lib.hid (fun W => own_any m W hok)
    rw [hL] at Hby Hrb
    clear hL hok hg
    have hA3 : Below w2.heap.size w2 (w2.alloc (.cells (hdC m) 28)) := (Below.refl _ _).alloc (Nat.le_refl _) _
    have hk := heap_alloc_new w2 (.cells (hdC m) 28)
    have hr3 := hr2.below hA3
    have hB3 := hB2.trans (hA3.mono hB2.size)
    obtain ⟨rv, ad, fl, un, cr, mo, x0, x1, x2, x3, st, lo, hi, lg⟩ := m
    simp only [hdC] at hr3 hk hB3
    clear hA3 hr2 hB2
    go_wp2_with fail
    generalize w2.alloc _ = w3 at *
    refine (rright5_any A1 n1 k1 ps w3 hr3 HB.out).mono ?_
    rintro e w4 ⟨rfl, q, rfl⟩
    rw [HR.out]
    have hB4 := below_drewN hB3 q
    have hr4 := hr3.drewN q
    have hk4 : (w3.drewN q).heap[w2.heap.size]? = _ := hk
    generalize w3.drewN q = w4 at *
    obtain ⟨c0, c1, c2, c3, c4, c5, c6, c7, c8, c9, c10, c11, c12, c13⟩ := cells14 hk4
    clear hk hr3 hB3
    go_wp2_with fail
    refine (Hby.out w4).mono ?_
    rintro e w5 ⟨A5, n5, k5, rfl, hown5, hb5⟩
    have hr5 := hr4.below hb5
    have hs5 := hown5.row
    have hl5 : n5 = n1 := by have := hr5.len; have := hs5.len; omega
    have hB5 := hB4.trans (hb5.mono hB4.size)
    have hk5 := kept_block hk4 hb5
    clear hr4 hB4 hb5 hown5 hk4
    clear c0 c1 c2 c3 c4 c5 c6 c7 c8 c9 c10 c11 c12 c13
    subst hl5
    go_wp2_with fail
    refine (same_any _ _ _ _ _ _ _ _ _ hs5 hr5 (by omega) (by omega)).mono ?_
    rintro e w6 ⟨rfl, q, rfl⟩
    rw [sameB_refl]
    have hB6 := below_drewN hB5 q
    have hr6 := hr5.drewN q
    have hk6 : (w5.drewN q).heap[w2.heap.size]? = _ := hk5
    generalize w5.drewN q = w6 at *
    clear hr5 hs5 hB5 hk5
    obtain ⟨c0, c1, c2, c3, c4, c5, c6, c7, c8, c9, c10, c11, c12, c13⟩ := cells14 hk6
    go_wp2_with fail
    refine (How.out w6).mono ?_
    rintro e w7 ⟨rfl, hb7⟩
    clear c0 c1 c2 c3 c4 c5 c6 c7 c8 c9 c10 c11 c12 c13
    have hr7 := hr6.below hb7
    have hB7 := hB6.trans (hb7.mono hB6.size)
    clear hr6 hk6 hB6 hb7
    go_wp2_with fail
    refine (Hrb.out w7).mono ?_
    rintro e w8 ⟨A8, n8, k8, rfl, hown8, hb8⟩
    have hr8 := hr7.below hb8
    have hs8 := hown8.row
    have hl8 : n8 = n5 := by have := hr8.len; have := hs8.len; omega
    have hB8 := hB7.trans (hb8.mono hB7.size)
    clear hr7 hB7 hb8 hown8
    subst hl8
    go_wp2_with fail
    refine (same_any _ _ _ _ _ _ _ _ _ hs8 hr8 (by omega) (by omega)).mono ?_
    rintro e w9 ⟨rfl, q, rfl⟩
    rw [sameB_refl]
    have hB9 := below_drewN hB8 q
    go_wp2
    go_ret
    exact ⟨rfl, hB9⟩

end Go.Proofs.Ytmpicokeenodbaa
