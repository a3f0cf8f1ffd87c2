/- The law MaxpParses. -/
import Derived.Test.YtmpicokeenodbaaLMaxp
import Derived.Test.YtmpicokeenodbaaGrow
namespace Go.Proofs.Ytmpicokeenodbaa
open Go.RowKit
set_option linter.unusedVariables false

theorem mpRight_is {zs : List Int} (hB : Bytes zs) (h : mpRight zs = true) : mpL (mpOf zs) = zs ∧ (mpOf zs).g ≠ 0 := by
  unfold mpRight at h
  rw [decide_eq_true_iff] at h
  have h1 := mpL_iff hB h.1
  unfold sameB at h1
  rw [h.2.1] at h1
  simp at h1
  exact ⟨h1, h.2.2⟩

set_option maxRecDepth 100000 in
set_option maxHeartbeats 4000000 in
theorem law_MaxpParses (A : Option Addr) (n c : Nat) (zs : List Int) (w : World) (hr : Row w A n (cellsOf .u8 zs)) (hB : Bytes zs) (hn : n ≤ 9223372036854775807) :
    Calls Try.prog 9 #[.slice A n c] w (True_ w) := by
  go_enter Try.func9, Try.ntmps9
  go_wp2_with fail
  refine (awake6_any w).mono ?_
  rintro e w0 ⟨rfl, hb0⟩
  go_wp2_with fail
  refine (cut_any _ _ _ zs 40 _ (hr.below hb0) hn (by omega)).mono ?_
  rintro e w1 ⟨A1, n1, k1, rfl, hown, hb1'⟩
  have hb1 : Below w.heap.size w w1 := hb0.trans (hb1'.mono hb0.size)
  have hB1 : Bytes (zs.take (40 : Int).toNat) := cut_bytes hB _
  have hl1 : n1 ≤ 40 := by have := hown.len; rw [List.length_take] at this; simp at this; omega
  have hr1 := hown.row
  have HB := Lib.hid hB1
  clear hb1' hb0 hr hB hn hB1 hown
  generalize zs.take (40 : Int).toNat = ps at *
  go_wp2_with fail
  refine (mparse_any A1 n1 k1 ps w1 hr1 HB.out).mono ?_
  rintro e w2 ⟨rfl, hb2⟩
  have hr2 := hr1.below hb2
  have hB2 := hb1.trans (hb2.mono hb1.size)
  clear hr1 hb1 hb2
  cases hR : mpRight ps with
  | false =>
    rw [mpTold_no hR]
    have HR := Lib.hid hR
    clear hR
    have hA3 : Below w2.heap.size w2 (w2.alloc (.cells (mpC mp0) 53)) := (Below.refl _ _).alloc (Nat.le_refl _) _
    have hk := heap_alloc_new w2 (.cells (mpC mp0) 53)
    have hr3 := hr2.below hA3
    have hB3 := hB2.trans (hA3.mono hB2.size)
    simp only [mpC, mp0] at hr3 hk hB3
    clear hA3 hr2 hB2
    go_wp2_with fail
    simp only [mp0]
    generalize w2.alloc _ = w3 at *
    refine (rright_any A1 n1 k1 ps w3 hr3 HB.out (by omega)).mono ?_
    rintro e w4 ⟨rfl, q, rfl⟩
    rw [HR.out]
    have hB4 := below_drewN hB3 q
    have hk4 : (w3.drewN q).heap[w2.heap.size]? = _ := hk
    generalize w3.drewN q = w4 at *
    obtain ⟨c0, c1, c2, c3, c4, c5, c6, c7, c8, c9, c10, c11, c12, c13⟩ := cells14 hk4
    have heq : (Op.equalIn 9999 51 (.agg #[.int .u16 0, .int .u16 0, .int .u16 0, .int .u16 0, .int .u16 0, .int .u16 0, .int .u16 0, .int .u16 0, .int .u16 0, .int .u16 0, .int .u16 0, .int .u16 0, .int .u16 0]) (.agg #[.int .u16 0, .int .u16 0, .int .u16 0, .int .u16 0, .int .u16 0, .int .u16 0, .int .u16 0, .int .u16 0, .int .u16 0, .int .u16 0, .int .u16 0, .int .u16 0, .int .u16 0])).run Try.prog w4 = .ok true w4 := run_eq_rest mp0 w4 9997
    clear hk hk4 hr3 hB3
    go_wp2
    go_ret
    exact ⟨rfl, hB4⟩
  | true =>
    rw [mpTold_yes hR]
    obtain ⟨hL, hg⟩ := mpRight_is HB.out hR
    have hok := mpOf_ok HB.out
    have HR := Lib.hid hR
    clear hR
    generalize mpOf ps = m at *
    have Hby := Lib.hid (fun W => mbytes_any m W hok hg)
    rw [hL] at Hby
    clear hL hok hg
    have hA3 : Below w2.heap.size w2 (w2.alloc (.cells (mpC m) 53)) := (Below.refl _ _).alloc (Nat.le_refl _) _
    have hk := heap_alloc_new w2 (.cells (mpC m) 53)
    have hr3 := hr2.below hA3
    have hB3 := hB2.trans (hA3.mono hB2.size)
    obtain ⟨g, r0, r1, r2, r3, r4, r5, r6, r7, r8, r9, r10, r11, r12⟩ := m
    simp only [mpC] at hr3 hk hB3
    clear hA3 hr2 hB2
    go_wp2_with fail
    generalize w2.alloc _ = w3 at *
    refine (rright_any A1 n1 k1 ps w3 hr3 HB.out (by omega)).mono ?_
    rintro e w4 ⟨rfl, q, rfl⟩
    rw [HR.out]
    have hB4 := below_drewN hB3 q
    have hr4 := hr3.drewN q
    have hk4 : (w3.drewN q).heap[w2.heap.size]? = _ := hk
    generalize w3.drewN q = w4 at *
    obtain ⟨c0, c1, c2, c3, c4, c5, c6, c7, c8, c9, c10, c11, c12, c13⟩ := cells14 hk4
    clear hk hk4 hr3 hB3
    go_wp2_with fail
    refine (Hby.out w4).mono ?_
    rintro e w5 ⟨A5, n5, k5, rfl, hown5, hb5⟩
    have hr5 := hr4.below hb5
    have hs5 := hown5.row
    have hl5 : n5 = n1 := by have := hr5.len; have := hs5.len; omega
    have hB5 := hB4.trans (hb5.mono hB4.size)
    clear hr4 hB4 hb5 hown5 c0 c1 c2 c3 c4 c5 c6 c7 c8 c9 c10 c11 c12 c13
    subst hl5
    go_wp2_with fail
    refine (same_any _ _ _ _ _ _ _ _ _ hs5 hr5 (by omega) (by omega)).mono ?_
    rintro e w6 ⟨rfl, q, rfl⟩
    rw [sameB_refl]
    have hB6 := below_drewN hB5 q
    go_wp2
    go_ret
    exact ⟨rfl, hB6⟩

end Go.Proofs.Ytmpicokeenodbaa
