/- The law HeadForms. -/
import Derived.Test.YtmpicokeenodbaaHeadK
import Derived.Test.YtmpicokeenodbaaHeadOwn
import Derived.Test.YtmpicokeenodbaaHeadOpen
import Derived.Test.YtmpicokeenodbaaJoinN
import Derived.Deep.DeepCutAuto
namespace Go.Proofs.Ytmpicokeenodbaa
open Go.RowKit
set_option linter.unusedVariables false

theorem eq_box (w : World) (d : Nat) (a0 a1 a2 a3 b0 b1 b2 b3 : Int) : (Op.equalIn (d + 2) 26 (.agg #[.int .i16 a0, .int .i16 a1, .int .i16 a2, .int .i16 a3]) (.agg #[.int .i16 b0, .int .i16 b1, .int .i16 b2, .int .i16 b3])).run Try.prog w = .ok (decide ([a0, a1, a2, a3] = [b0, b1, b2, b3])) w :=
  run_equalIn_ints w d 26 25 4 .i16 .i16 [a0, a1, a2, a3] [b0, b1, b2, b3] Try.underlying26 Try.underlying25 (by simp [go_sem]) (by simp [go_sem]) rfl rfl

theorem eq_box_self (w : World) (a0 a1 a2 a3 : Int) : (Op.equalIn 9999 26 (.agg #[.int .i16 a0, .int .i16 a1, .int .i16 a2, .int .i16 a3]) (.agg #[.int .i16 a0, .int .i16 a1, .int .i16 a2, .int .i16 a3])).run Try.prog w = .ok true w := by
  have h := eq_box w 9997 a0 a1 a2 a3 a0 a1 a2 a3
  rw [decide_eq_true rfl] at h
  exact h

theorem hdTold_forms (h : Hd) (ho : h.ok) (hr : hdRight h = true) : hdTold (hdL h) = hdR h 0 := by
  rw [hdTold_yes (hrt_hdL h ho hr), hdOf_hdL h ho]

set_option maxRecDepth 100000 in
set_option maxHeartbeats 4000000 in
theorem law_HeadForms (h : Hd) (w : World) (ho : h.ok) : Calls Try.prog 3 #[hdV h] w (True_ w) := by
  have hA : Below w.heap.size w (w.alloc (.cells (hdC h) 28)) := (Below.refl _ _).alloc (Nat.le_refl _) _
  have hk := heap_alloc_new w (.cells (hdC h) 28)
  have HR := Lib.hid (fun W => hright_any h W)
  cases hR : hdRight h with
  | false =>
    have Hby := Lib.hid (fun W => hbytes_none h W hR)
    rw [hR] at HR
    have hor : decide (h.un < 16) = true ∨ decide (h.un < 16) = false ∧ decide (16384 < h.un) = true := by
      unfold hdRight at hR
      simp at hR ⊢
      omega
    obtain ⟨rv, ad, fl, un, cr, mo, x0, x1, x2, x3, st, lo, hi, lg⟩ := h
    simp only [hdC] at hA hk hor
    clear hR ho
    rcases hor with e1 | ⟨e1, e2⟩
    all_goals
      go_enter Try.func3, Try.ntmps3
      go_wp2_with fail
      generalize w.alloc _ = V at *
      refine (awake5_any V).mono ?_
      rintro e w1 ⟨rfl, hb1⟩
      have hk1 := kept_block hk hb1
      have hB1 := hA.trans (hb1.mono hA.size)
      clear hk hA hb1
      obtain ⟨c0, c1, c2, c3, c4, c5, c6, c7, c8, c9, c10, c11, c12, c13⟩ := cells14 hk1
      go_wp2_with fail
      refine (Hby.out w1).mono ?_
      rintro e w2 ⟨A2, n2, k2, rfl, hown2, hb2⟩
      have hk2 := kept_block hk1 hb2
      have hB2 := hB1.trans (hb2.mono hB1.size)
      have hl2 := hown2.len
      simp only [List.length_nil] at hl2
      subst hl2
      clear c0 c1 c2 c3 c4 c5 c6 c7 c8 c9 c10 c11 c12 c13
      obtain ⟨c0, c1, c2, c3, c4, c5, c6, c7, c8, c9, c10, c11, c12, c13⟩ := cells14 hk2
      clear hown2 hb2 hk1 hB1 hk2
      go_wp2_with fail
      refine (HR.out w2).mono ?_
      rintro e w3 ⟨rfl, hb3⟩
      have hB3 := hB2.trans (hb3.mono hB2.size)
      go_wp2
      go_ret
      exact ⟨rfl, hB3⟩
  | true =>
    have Hby := Lib.hid (fun W => hbytes_any h W ho hR)
    have Hrb := Lib.hid (fun W => rbytes5_any h W ho)
    have How := Lib.hid (fun W => own_any h W ho)
    have Hpt := Lib.hid (hdTold_forms h ho hR)
    have HB := Lib.hid (hdL_bytes h)
    have HL := Lib.hid (hdL_len h)
    rw [hR] at HR
    have e1 : decide (h.un < 16) = false := by unfold hdRight at hR; simp at hR ⊢; omega
    have e2 : decide (16384 < h.un) = false := by unfold hdRight at hR; simp at hR ⊢; omega
    generalize hdL h = L at *
    obtain ⟨rv, ad, fl, un, cr, mo, x0, x1, x2, x3, st, lo, hi, lg⟩ := h
    simp only [hdC] at hA hk e1 e2
    clear hR ho
    go_enter Try.func3, Try.ntmps3
    go_wp2_with fail
    generalize w.alloc _ = V at *
    refine (awake5_any V).mono ?_
    rintro e w1 ⟨rfl, hb1⟩
    have hk1 := kept_block hk hb1
    have hB1 := hA.trans (hb1.mono hA.size)
    clear hk hA hb1
    obtain ⟨c0, c1, c2, c3, c4, c5, c6, c7, c8, c9, c10, c11, c12, c13⟩ := cells14 hk1
    go_wp2_with fail
    refine (Hby.out w1).mono ?_
    rintro e w2 ⟨A2, n2, k2, rfl, hown2, hb2⟩
    have hk2 := kept_block hk1 hb2
    have hB2 := hB1.trans (hb2.mono hB1.size)
    have hl2 := hown2.len
    rw [HL.out] at hl2
    subst hl2
    have hr2 := hown2.row
    clear c0 c1 c2 c3 c4 c5 c6 c7 c8 c9 c10 c11 c12 c13
    clear hown2 hb2 hk1 hB1
    obtain ⟨c0, c1, c2, c3, c4, c5, c6, c7, c8, c9, c10, c11, c12, c13⟩ := cells14 hk2
    go_wp2_with fail
    clear c0 c1 c2 c3 c4 c5 c6 c7 c8 c9 c10 c11 c12 c13
    refine (hparse_any A2 54 k2 L w2 hr2 HB.out).mono ?_
    rintro e w3 ⟨rfl, hb3⟩
    rw [Hpt.out]
    have hr3 := hr2.below hb3
    have hk3 := kept_block hk2 hb3
    have hB3 := hB2.trans (hb3.mono hB2.size)
    have hA4 : Below w3.heap.size w3 (w3.alloc (.cells (hdC ⟨rv, ad, fl, un, cr, mo, x0, x1, x2, x3, st, lo, hi, lg⟩) 28)) := (Below.refl _ _).alloc (Nat.le_refl _) _
    have hr4 := hr3.below hA4
    have hk4 := kept_block hk3 hA4
    have hj4 := heap_alloc_new w3 (.cells (hdC ⟨rv, ad, fl, un, cr, mo, x0, x1, x2, x3, st, lo, hi, lg⟩) 28)
    have hB4 := hB3.trans (hA4.mono hB3.size)
    simp only [hdC] at hr4 hk4 hj4 hB4
    clear hr2 hk2 hB2 hb3 hr3 hB3 hA4 hk3
    go_upto_region 7 with fail
    generalize w3.alloc _ = w4 at *
    obtain ⟨c0, c1, c2, c3, c4, c5, c6, c7, c8, c9, c10, c11, c12, c13⟩ := cells14 hk4
    go_wp2_with fail
    refine (HR.out w4).mono ?_
    rintro e w5 ⟨rfl, hb5⟩
    clear c0 c1 c2 c3 c4 c5 c6 c7 c8 c9 c10 c11 c12 c13
    have hr5 := hr4.below hb5
    have hk5 := kept_block hk4 hb5
    have hj5 := kept_block hj4 hb5
    have hB5 := hB4.trans (hb5.mono hB4.size)
    clear hr4 hk4 hj4 hB4 hb5
    obtain ⟨c0, c1, c2, c3, c4, c5, c6, c7, c8, c9, c10, c11, c12, c13⟩ := cells14 hk5
    go_wp2_with fail
    refine (How.out w5).mono ?_
    rintro e w6 ⟨rfl, hb6⟩
    clear c0 c1 c2 c3 c4 c5 c6 c7 c8 c9 c10 c11 c12 c13
    have hr6 := hr5.below hb6
    have hk6 := kept_block hk5 hb6
    have hj6 := kept_block hj5 hb6
    have hB6 := hB5.trans (hb6.mono hB5.size)
    clear hr5 hk5 hj5 hB5 hb6
    go_wp2_with fail
    refine (Hrb.out w6).mono ?_
    rintro e w7 ⟨A7, n7, k7, rfl, hown7, hb7⟩
    have hl7 := hown7.len
    rw [HL.out] at hl7
    subst hl7
    have hs7 := hown7.row
    have hr7 := hr6.below hb7
    have hk7 := kept_block hk6 hb7
    have hj7 := kept_block hj6 hb7
    have hB7 := hB6.trans (hb7.mono hB6.size)
    clear hr6 hk6 hj6 hB6 hb7 hown7
    go_wp2_with fail
    refine (same_any _ _ _ _ _ _ _ _ _ hr7 hs7 (by omega) (by omega)).mono ?_
    rintro e w8 ⟨rfl, q, rfl⟩
    rw [sameB_refl]
    have hB8 := below_drewN hB7 q
    have hk8 : (w7.drewN q).heap[w.heap.size]? = _ := hk7
    have hj8 : (w7.drewN q).heap[w3.heap.size]? = _ := hj7
    generalize w7.drewN q = w8 at *
    obtain ⟨c0, c1, c2, c3, c4, c5, c6, c7, c8, c9, c10, c11, c12, c13⟩ := cells14 hk8
    obtain ⟨d0, d1, d2, d3, d4, d5, d6, d7, d8, d9, d10, d11, d12, d13⟩ := cells14 hj8
    have heq := eq_box_self w8 x0 x1 x2 x3
    clear hr7 hk7 hj7 hB7 hs7 hk8 hj8
    go_wp2
    go_ret
    exact ⟨rfl, hB8⟩

end Go.Proofs.Ytmpicokeenodbaa
