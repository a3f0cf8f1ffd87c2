/- The law MaxpWiths. -/
import Derived.Test.YtmpicokeenodbaaLMaxp
import Derived.Test.YtmpicokeenodbaaGrow
namespace Go.Proofs.Ytmpicokeenodbaa
open Go.RowKit
set_option linter.unusedVariables false

set_option maxRecDepth 100000 in
set_option maxHeartbeats 4000000 in
theorem law_MaxpWiths (m : Mp) (x : Int) (w : World) : Calls Try.prog 10 #[mpV m, .int .u16 x] w (True_ w) := by
  have hA : Below w.heap.size w (w.alloc (.cells (mpC m) 53)) := (Below.refl _ _).alloc (Nat.le_refl _) _
  have hk := heap_alloc_new w (.cells (mpC m) 53)
  have HW := Lib.hid (fun W => with_any m x W)
  have HV := Lib.hid (fun W => with_any { m with g := x } m.g W)
  obtain ⟨g, r0, r1, r2, r3, r4, r5, r6, r7, r8, r9, r10, r11, r12⟩ := m
  simp only [mpC] at hA hk HW HV
  go_enter Try.func10, Try.ntmps10
  go_wp2_with fail
  generalize w.alloc _ = V at *
  refine (awake6_any V).mono ?_
  rintro e w1 ⟨rfl, hb1⟩
  have hk1 := kept_block hk hb1
  have hB1 := hA.trans (hb1.mono hA.size)
  clear hk hA hb1
  obtain ⟨c0, c1, c2, c3, c4, c5, c6, c7, c8, c9, c10, c11, c12, c13⟩ := cells14 hk1
  go_wp2_with fail
  refine (HW.out w1).mono ?_
  rintro e w2 ⟨rfl, hb2⟩
  have hk2 := kept_block hk1 hb2
  have hB2 := hB1.trans (hb2.mono hB1.size)
  clear hk1 hB1 hb2 c0 c1 c2 c3 c4 c5 c6 c7 c8 c9 c10 c11 c12 c13
  have hA3 : Below w2.heap.size w2 (w2.alloc (.cells #[.int .u16 x, .int .u16 r0, .int .u16 r1, .int .u16 r2, .int .u16 r3, .int .u16 r4, .int .u16 r5, .int .u16 r6, .int .u16 r7, .int .u16 r8, .int .u16 r9, .int .u16 r10, .int .u16 r11, .int .u16 r12] 53)) := (Below.refl _ _).alloc (Nat.le_refl _) _
  have hj := heap_alloc_new w2 (.cells #[.int .u16 x, .int .u16 r0, .int .u16 r1, .int .u16 r2, .int .u16 r3, .int .u16 r4, .int .u16 r5, .int .u16 r6, .int .u16 r7, .int .u16 r8, .int .u16 r9, .int .u16 r10, .int .u16 r11, .int .u16 r12] 53)
  have hk3 := kept_block hk2 hA3
  have hB3 := hB2.trans (hA3.mono hB2.size)
  clear hk2 hB2 hA3
  go_wp2_with fail
  generalize w2.alloc _ = w3 at *
  obtain ⟨c0, c1, c2, c3, c4, c5, c6, c7, c8, c9, c10, c11, c12, c13⟩ := cells14 hk3
  have C0 := gw_cell c0
  have C1 := gw_cell c1
  have C2 := gw_cell c2
  have C3 := gw_cell c3
  have C4 := gw_cell c4
  have C5 := gw_cell c5
  have C6 := gw_cell c6
  have C7 := gw_cell c7
  have C8 := gw_cell c8
  have C9 := gw_cell c9
  have C10 := gw_cell c10
  have C11 := gw_cell c11
  have C12 := gw_cell c12
  have C13 := gw_cell c13
  clear c0 c1 c2 c3 c4 c5 c6 c7 c8 c9 c10 c11 c12 c13
  obtain ⟨d0, d1, d2, d3, d4, d5, d6, d7, d8, d9, d10, d11, d12, d13⟩ := cells14 hj
  have D0 := gw_cell d0
  have D1 := gw_cell d1
  have D2 := gw_cell d2
  have D3 := gw_cell d3
  have D4 := gw_cell d4
  have D5 := gw_cell d5
  have D6 := gw_cell d6
  have D7 := gw_cell d7
  have D8 := gw_cell d8
  have D9 := gw_cell d9
  have D10 := gw_cell d10
  have D11 := gw_cell d11
  have D12 := gw_cell d12
  have D13 := gw_cell d13
  clear d0 d1 d2 d3 d4 d5 d6 d7 d8 d9 d10 d11 d12 d13
  have heq : ∀ n os, (Op.equalIn 9999 51 (.agg #[.int .u16 r0, .int .u16 r1, .int .u16 r2, .int .u16 r3, .int .u16 r4, .int .u16 r5, .int .u16 r6, .int .u16 r7, .int .u16 r8, .int .u16 r9, .int .u16 r10, .int .u16 r11, .int .u16 r12]) (.agg #[.int .u16 r0, .int .u16 r1, .int .u16 r2, .int .u16 r3, .int .u16 r4, .int .u16 r5, .int .u16 r6, .int .u16 r7, .int .u16 r8, .int .u16 r9, .int .u16 r10, .int .u16 r11, .int .u16 r12])).run Try.prog (gw w3 n os) = .ok true (gw w3 n os) := fun n os => run_eq_rest ⟨g, r0, r1, r2, r3, r4, r5, r6, r7, r8, r9, r10, r11, r12⟩ _ 9997
  have heq2 : ∀ n os, (Op.equalIn 10000 51 (.agg #[.int .u16 r0, .int .u16 r1, .int .u16 r2, .int .u16 r3, .int .u16 r4, .int .u16 r5, .int .u16 r6, .int .u16 r7, .int .u16 r8, .int .u16 r9, .int .u16 r10, .int .u16 r11, .int .u16 r12]) (.agg #[.int .u16 r0, .int .u16 r1, .int .u16 r2, .int .u16 r3, .int .u16 r4, .int .u16 r5, .int .u16 r6, .int .u16 r7, .int .u16 r8, .int .u16 r9, .int .u16 r10, .int .u16 r11, .int .u16 r12])).run Try.prog (gw w3 n os) = .ok true (gw w3 n os) := fun n os => run_eq_rest ⟨g, r0, r1, r2, r3, r4, r5, r6, r7, r8, r9, r10, r11, r12⟩ _ 9998
  have hxx : (x == x) = true := by simp
  clear hk3 hj
  refine region_below (by kernel_rfl) (by kernel_rfl) ?_
  repeat (quiet_step (first | (go_at_call 30; exact calls_gw (HV.out _))))
  refine wpQuiet_nil ?_
  rintro _ ⟨p, rfl⟩
  go_wp2
  go_ret
  exact ⟨rfl, hB3.trans ((gw_below _ _ _).mono hB3.size)⟩

end Go.Proofs.Ytmpicokeenodbaa
