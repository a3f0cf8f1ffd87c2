/- The laws of layer 6: MaxpForms, MaxpParses. -/
import Derived.Test.YtmpicokeenodbaaMaxpRef
import Derived.Test.YtmpicokeenodbaaMaxpOpen
import Derived.Test.YtmpicokeenodbaaCells
namespace Go.Proofs.Ytmpicokeenodbaa
open Go.RowKit
set_option linter.unusedVariables false

theorem mpTold_forms (m : Mp) (hm : m.ok) (h0 : m.g ≠ 0) : mpTold (mpL m) = mpR m 0 := by
  rw [mpTold_yes (mpRight_mpL m hm h0), mpOf_mpL m hm]

set_option maxRecDepth 100000 in
set_option maxHeartbeats 4000000 in
theorem law_MaxpForms (m : Mp) (w : World) (hm : m.ok) : Calls Try.prog 8 #[mpV m] w (True_ w) := by
  have hA : Below w.heap.size w (w.alloc (.cells (mpC m) 53)) := (Below.refl _ _).alloc (Nat.le_refl _) _
  have hk := heap_alloc_new w (.cells (mpC m) 53)
  have Hok := Lib.hid hm
  by_cases h0 : m.g = 0
  · have Hby := Lib.hid (fun W => mbytes_none m W h0)
    obtain ⟨g, r0, r1, r2, r3, r4, r5, r6, r7, r8, r9, r10, r11, r12⟩ := m
    simp only at h0
    subst h0
    simp only [mpC] at hA hk
    go_enter Try.func8, Try.ntmps8
    go_wp2_with fail
    generalize w.alloc _ = V at *
    refine (awake6_any V).mono ?_
    rintro e w1 ⟨rfl, hb1⟩
    have hk1 := (hb1.block _ (lt_of_block hk)).trans hk
    have hB1 := hA.trans (hb1.mono hA.size)
    clear hk hA hb1
    obtain ⟨c0, c1, c2, c3, c4, c5, c6, c7, c8, c9, c10, c11, c12, c13⟩ := cells14 hk1
    go_wp2_with fail
    refine (Hby.out w1).mono ?_
    rintro e w2 ⟨A2, n2, k2, rfl, hown2, hb2⟩
    have hk2 := (hb2.block _ (lt_of_block hk1)).trans hk1
    have hB2 := hB1.trans (hb2.mono hB1.size)
    have hl2 := hown2.len
    simp only [List.length_nil] at hl2
    subst hl2
    clear c0 c1 c2 c3 c4 c5 c6 c7 c8 c9 c10 c11 c12 c13
    have c0 : w2.cell? ⟨w.heap.size, 0, none⟩ = some (.int .u16 0) := cell_of_row w2 _ 0 _ _ _ hk2
    clear hown2 hb2 hk1 hB1
    go_wp2
    go_ret
    exact ⟨rfl, hB2⟩
  · have Hby := Lib.hid (fun W => mbytes_any m W hm h0)
    have Hrb := Lib.hid (fun W => rbytes_any m W hm)
    have Hpt := Lib.hid (mpTold_forms m hm h0)
    have HB := Lib.hid (mpL_bytes m)
    have HL := Lib.hid (mpL_len m)
    have hz : (m.g == 0) = false := by simpa using h0
    generalize mpL m = L at *
    obtain ⟨g, r0, r1, r2, r3, r4, r5, r6, r7, r8, r9, r10, r11, r12⟩ := m
    simp only at hz
    simp only [mpC] at hA hk
    clear h0 hm
    go_enter Try.func8, Try.ntmps8
    go_wp2_with fail
    generalize w.alloc _ = V at *
    refine (awake6_any V).mono ?_
    rintro e w1 ⟨rfl, hb1⟩
    have hk1 := (hb1.block _ (lt_of_block hk)).trans hk
    have hB1 := hA.trans (hb1.mono hA.size)
    clear hk hA hb1
    obtain ⟨c0, c1, c2, c3, c4, c5, c6, c7, c8, c9, c10, c11, c12, c13⟩ := cells14 hk1
    go_wp2_with fail
    refine (Hby.out w1).mono ?_
    rintro e w2 ⟨A2, n2, k2, rfl, hown2, hb2⟩
    have hk2 := (hb2.block _ (lt_of_block hk1)).trans hk1
    have hB2 := hB1.trans (hb2.mono hB1.size)
    have hl2 := hown2.len
    rw [HL.out] at hl2
    subst hl2
    have hr2 := hown2.row
    clear c0 c1 c2 c3 c4 c5 c6 c7 c8 c9 c10 c11 c12 c13 hown2 hb2 hk1 hB1
    have c0 : w2.cell? ⟨w.heap.size, 0, none⟩ = some (.int .u16 g) := cell_of_row w2 _ 0 _ _ _ hk2
    go_wp2_with fail
    clear c0
    refine (mparse_any A2 32 k2 L w2 hr2 HB.out).mono ?_
    rintro e w3 ⟨rfl, hb3⟩
    rw [Hpt.out]
    have hr3 := hr2.below hb3
    have hk3 := (hb3.block _ (lt_of_block hk2)).trans hk2
    have hB3 := hB2.trans (hb3.mono hB2.size)
    have hA4 : Below w3.heap.size w3 (w3.alloc (.cells #[.int .u16 g, .int .u16 r0, .int .u16 r1, .int .u16 r2, .int .u16 r3, .int .u16 r4, .int .u16 r5, .int .u16 r6, .int .u16 r7, .int .u16 r8, .int .u16 r9, .int .u16 r10, .int .u16 r11, .int .u16 r12] 53)) := (Below.refl _ _).alloc (Nat.le_refl _) _
    have hr4 := hr3.below hA4
    have hk4 := (hA4.block _ (lt_of_block hk3)).trans hk3
    have hj4 := heap_alloc_new w3 (.cells #[.int .u16 g, .int .u16 r0, .int .u16 r1, .int .u16 r2, .int .u16 r3, .int .u16 r4, .int .u16 r5, .int .u16 r6, .int .u16 r7, .int .u16 r8, .int .u16 r9, .int .u16 r10, .int .u16 r11, .int .u16 r12] 53)
    have hB4 := hB3.trans (hA4.mono hB3.size)
    obtain ⟨c0, c1, c2, c3, c4, c5, c6, c7, c8, c9, c10, c11, c12, c13⟩ := cells14 hk3
    have hlt3 := lt_of_block hk3
    clear hr2 hk2 hB2 hb3 hr3 hB3 hA4
    go_wp2_with fail
    generalize w3.alloc _ = w4 at *
    refine (Hrb.out w4).mono ?_
    rintro e w5 ⟨A5, n5, k5, rfl, hown5, hb5⟩
    have hl5 := hown5.len
    rw [HL.out] at hl5
    subst hl5
    have hr5 := hr4.below hb5
    have hk5 := (hb5.block _ (lt_of_block hk4)).trans hk4
    have hj5 := (hb5.block _ (lt_of_block hj4)).trans hj4
    have hB5 := hB4.trans (hb5.mono hB4.size)
    have hs5 := hown5.row
    clear c0 c1 c2 c3 c4 c5 c6 c7 c8 c9 c10 c11 c12 c13 hk3 hlt3 hr4 hk4 hj4 hB4 hb5 hown5
    go_wp2_with fail
    refine (same_any _ _ _ _ _ _ _ _ _ hr5 hs5 (by omega) (by omega)).mono ?_
    rintro e w6 ⟨rfl, q, rfl⟩
    rw [sameB_refl]
    have hB6 := below_drewN hB5 q
    have hk6 : (w5.drewN q).heap[w.heap.size]? = _ := hk5
    have hj6 : (w5.drewN q).heap[w3.heap.size]? = _ := hj5
    generalize w5.drewN q = w6 at *
    obtain ⟨c0, c1, c2, c3, c4, c5, c6, c7, c8, c9, c10, c11, c12, c13⟩ := cells14 hk6
    obtain ⟨d0, d1, d2, d3, d4, d5, d6, d7, d8, d9, d10, d11, d12, d13⟩ := cells14 hj6
    clear hr5 hk5 hj5 hB5 hs5 hk6 hj6
    have heq : (Op.equalIn 9999 51 (.agg #[.int .u16 r0, .int .u16 r1, .int .u16 r2, .int .u16 r3, .int .u16 r4, .int .u16 r5, .int .u16 r6, .int .u16 r7, .int .u16 r8, .int .u16 r9, .int .u16 r10, .int .u16 r11, .int .u16 r12]) (.agg #[.int .u16 r0, .int .u16 r1, .int .u16 r2, .int .u16 r3, .int .u16 r4, .int .u16 r5, .int .u16 r6, .int .u16 r7, .int .u16 r8, .int .u16 r9, .int .u16 r10, .int .u16 r11, .int .u16 r12])).run Try.prog w6 = .ok true w6 := run_eq_rest ⟨g, r0, r1, r2, r3, r4, r5, r6, r7, r8, r9, r10, r11, r12⟩ w6 9997
    go_wp2
    go_ret
    exact ⟨rfl, hB6⟩

end Go.Proofs.Ytmpicokeenodbaa
