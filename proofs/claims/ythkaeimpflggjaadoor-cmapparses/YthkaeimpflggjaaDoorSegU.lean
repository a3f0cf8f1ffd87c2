/- The document's Right of segments, as a contract over this seat's translation. -/
import Derived.Test.YthkaeimpflggjaaDoorSegR
import Derived.Test.YthkaeimpflggjaaDoorWin
import Derived.Test.YthkaeimpflggjaaDoorGrow
import Derived.Deep.RegionHeld3
import Derived.Deep.QuietTactic
import Derived.BigQuiet
import Derived.Deep.DeepCutAuto
namespace Go.Proofs.YthkaeimpflggjaaDoor
open Go.RowKit
set_option linter.unusedVariables false

def sRV (zs : List Int) : Int := if sRight zs then (sN zs : Int) else 0

theorem srB_same {zs : List Int} (hB : Bytes zs) (hl : 14 ≤ zs.length) {n : Nat} (h0 : 1 ≤ n) (h1 : n < 32768) : sameB ((zs.drop 8).take 6) (srB n) = decide ([n2at zs 8, n2at zs 10, n2at zs 12] = srL n) := by
  have hs := expoS_spec n h0
  have hx := expoS_lt n h0 h1
  rw [Nat.pow_succ] at hs
  have e : (zs.drop 8).take 6 = b2 (n2at zs 8) ++ (b2 (n2at zs 10) ++ b2 (n2at zs 12)) := by
    rw [b2_win hB (i := 8) (by omega), b2_win hB (i := 10) (by omega), b2_win hB (i := 12) (by omega)]
    rw [← win_join zs 8 2 4, ← win_join zs 10 2 2]
  have k8 := n2at_lt hB 8
  have k10 := n2at_lt hB 10
  have k12 := n2at_lt hB 12
  rw [e]
  unfold sameB srB srL
  rw [Bool.eq_iff_iff, decide_eq_true_iff, decide_eq_true_iff]
  generalize hp : ((2 ^ expoS n : Nat) : Int) = p at *
  have hp1 : 0 < p ∧ p ≤ n ∧ (n : Int) < 2 * p := by rw [← hp]; have := Nat.two_pow_pos (expoS n); omega
  generalize n2at zs 8 = u at *
  generalize n2at zs 10 = v at *
  generalize n2at zs 12 = t at *
  simp only [b2, List.cons_append, List.nil_append, List.cons.injEq, and_true]
  constructor
  · intro h; omega
  · rintro ⟨rfl, rfl, rfl⟩; simp

set_option maxRecDepth 100000 in
set_option maxHeartbeats 8000000 in
theorem rright9_no (A : Option Addr) (n c : Nat) (zs : List Int) (w : World) (hr : Row w A n (cellsOf .u8 zs)) (hB : Bytes zs) (hn : n ≤ 1000000) (hf : (sFront zs && sCnt0 zs) = false) :
    Calls Tryd.prog 38 #[.slice A n c] w (Ret w (.tuple #[.int .i64 0, .bool false])) := by
  have HAll : Hid (∀ (i : Nat) (a : Int), a = i → i ≤ 100000000 → ∀ W, Below w.heap.size w W → Calls Tryd.prog 59 #[.slice A n c, .int .i64 a] W (Ret W (.int .i64 (n2at zs i)))) := fun i a ha hi W hW => rat9_any A n c zs a i W (hr.below hW) hB (by omega) ha (by omega)
  have H0 := Lib.hid (HAll.out 0 0 rfl (by omega))
  have H2 := Lib.hid (HAll.out 2 2 rfl (by omega))
  have H6 := Lib.hid (HAll.out 6 6 rfl (by omega))
  have k0 := n2at_lt hB 0
  have k2 := n2at_lt hB 2
  have k6 := n2at_lt hB 6
  have hl := hr.len
  have HF : Hid ((sFront zs && sCnt0 zs) = (decide (n2at zs 0 = 4) && decide (24 ≤ n2at zs 2) && decide (n2at zs 2 ≤ n) && decide (n2at zs 2 % 2 = 0) && (decide (n2at zs 6 % 2 = 0) && decide (n2at zs 6 / 2 ≠ 0) && decide (16 + 8 * (n2at zs 6 / 2) ≤ n2at zs 2)))) := by show _ = _; unfold sFront sCnt0; rw [hl]
  have Hf := Lib.hid hf
  have hb := Below.refl w.heap.size w
  clear HAll hr hB hl hf
  generalize n2at zs 0 = v0 at *
  generalize n2at zs 2 = S at *
  generalize n2at zs 6 = t at *
  obtain ⟨N, hN⟩ : ∃ N : Nat, t / 2 = (N : Int) := ⟨(t / 2).toNat, by omega⟩
  go_enter Tryd.func38, Tryd.ntmps38
  go_upto_region 3 with (go_at_call 59; (first | (with_reducible refine (H2.out _ hb).mono ?_) | (with_reducible refine (H6.out _ hb).mono ?_)); rintro e wn ⟨rfl, hbn⟩; replace hb := hb.trans (hbn.mono hb.size); clear hbn)
  rw [hN]
  have G0 : Hid (∀ p os, Calls Tryd.prog 59 #[.slice A n c, .int .i64 0] (gw wn p os) (Ret (gw wn p os) (.int .i64 v0))) := fun p os => H0.out _ (hb.trans ((gw_below wn p os).mono hb.size))
  have G6 : Hid (∀ p os, Calls Tryd.prog 59 #[.slice A n c, .int .i64 6] (gw wn p os) (Ret (gw wn p os) (.int .i64 t))) := fun p os => H6.out _ (hb.trans ((gw_below wn p os).mono hb.size))
  have W1 : IntKind.i64.wrap (8 * (N : Int)) = 8 * (N : Int) := IntWalk.i64_in _ (by omega)
  have W2 : IntKind.i64.wrap (16 + 8 * (N : Int)) = 16 + 8 * (N : Int) := IntWalk.i64_in _ (by omega)
  have m1 : S.tmod 2 = S % 2 := Int.tmod_eq_emod_of_nonneg (by omega)
  have m2 : t.tmod 2 = t % 2 := Int.tmod_eq_emod_of_nonneg (by omega)
  by_cases h : n < 24
  · have D1 : decide ((n : Int) < 24) = true := decide_eq_true (by omega)
    clear Hf HF h
    refine region_below (by kernel_rfl) (by kernel_rfl) ?_
    repeat (first | go_big_quiet_step (first | (go_at_call 59; with_reducible exact calls_gw (G0.out _ _)) | (go_at_call 59; with_reducible exact calls_gw (G6.out _ _))) | quiet_step (first | (go_at_call 59; with_reducible exact calls_gw (G0.out _ _)) | (go_at_call 59; with_reducible exact calls_gw (G6.out _ _))))
    refine wpQuiet_nil ?_
    rintro _ ⟨z, rfl⟩
    have hbf := hb.trans ((gw_below wn z.n z.os).mono hb.size)
    go_wp2
    go_ret2
    exact ⟨rfl, hbf⟩
  · have D1 : decide ((n : Int) < 24) = false := decide_eq_false (by omega)
    have h0 := h
    clear h
    by_cases h : v0 ≠ 4
    · have B0 : (v0 != 4) = true := by simp; omega
      clear Hf HF h
      refine region_below (by kernel_rfl) (by kernel_rfl) ?_
      repeat (first | go_big_quiet_step (first | (go_at_call 59; with_reducible exact calls_gw (G0.out _ _)) | (go_at_call 59; with_reducible exact calls_gw (G6.out _ _))) | quiet_step (first | (go_at_call 59; with_reducible exact calls_gw (G0.out _ _)) | (go_at_call 59; with_reducible exact calls_gw (G6.out _ _))))
      refine wpQuiet_nil ?_
      rintro _ ⟨z, rfl⟩
      have hbf := hb.trans ((gw_below wn z.n z.os).mono hb.size)
      go_wp2
      go_ret2
      exact ⟨rfl, hbf⟩
    · have B0 : (v0 != 4) = false := by simp; omega
      have h1 := h
      clear h
      by_cases h : S < 24
      · have D2 : decide (S < 24) = true := decide_eq_true (by omega)
        clear Hf HF h
        refine region_below (by kernel_rfl) (by kernel_rfl) ?_
        repeat (first | go_big_quiet_step (first | (go_at_call 59; with_reducible exact calls_gw (G0.out _ _)) | (go_at_call 59; with_reducible exact calls_gw (G6.out _ _))) | quiet_step (first | (go_at_call 59; with_reducible exact calls_gw (G0.out _ _)) | (go_at_call 59; with_reducible exact calls_gw (G6.out _ _))))
        refine wpQuiet_nil ?_
        rintro _ ⟨z, rfl⟩
        have hbf := hb.trans ((gw_below wn z.n z.os).mono hb.size)
        go_wp2
        go_ret2
        exact ⟨rfl, hbf⟩
      · have D2 : decide (S < 24) = false := decide_eq_false (by omega)
        have h2 := h
        clear h
        by_cases h : (n : Int) < S
        · have D3 : decide ((n : Int) < S) = true := decide_eq_true (by omega)
          clear Hf HF h
          refine region_below (by kernel_rfl) (by kernel_rfl) ?_
          repeat (first | go_big_quiet_step (first | (go_at_call 59; with_reducible exact calls_gw (G0.out _ _)) | (go_at_call 59; with_reducible exact calls_gw (G6.out _ _))) | quiet_step (first | (go_at_call 59; with_reducible exact calls_gw (G0.out _ _)) | (go_at_call 59; with_reducible exact calls_gw (G6.out _ _))))
          refine wpQuiet_nil ?_
          rintro _ ⟨z, rfl⟩
          have hbf := hb.trans ((gw_below wn z.n z.os).mono hb.size)
          go_wp2
          go_ret2
          exact ⟨rfl, hbf⟩
        · have D3 : decide ((n : Int) < S) = false := decide_eq_false (by omega)
          have h3 := h
          clear h
          by_cases h : 0 < S % 2
          · have D4 : decide (0 < S % 2) = true := decide_eq_true (by omega)
            clear Hf HF h
            refine region_below (by kernel_rfl) (by kernel_rfl) ?_
            repeat (first | go_big_quiet_step (first | (go_at_call 59; with_reducible exact calls_gw (G0.out _ _)) | (go_at_call 59; with_reducible exact calls_gw (G6.out _ _))) | quiet_step (first | (go_at_call 59; with_reducible exact calls_gw (G0.out _ _)) | (go_at_call 59; with_reducible exact calls_gw (G6.out _ _))))
            refine wpQuiet_nil ?_
            rintro _ ⟨z, rfl⟩
            have hbf := hb.trans ((gw_below wn z.n z.os).mono hb.size)
            go_wp2
            go_ret2
            exact ⟨rfl, hbf⟩
          · have D4 : decide (0 < S % 2) = false := decide_eq_false (by omega)
            have h4 := h
            clear h
            by_cases h : 0 < t % 2
            · have D5 : decide (0 < t % 2) = true := decide_eq_true (by omega)
              clear Hf HF h
              refine region_below (by kernel_rfl) (by kernel_rfl) ?_
              repeat (first | go_big_quiet_step (first | (go_at_call 59; with_reducible exact calls_gw (G0.out _ _)) | (go_at_call 59; with_reducible exact calls_gw (G6.out _ _))) | quiet_step (first | (go_at_call 59; with_reducible exact calls_gw (G0.out _ _)) | (go_at_call 59; with_reducible exact calls_gw (G6.out _ _))))
              refine wpQuiet_nil ?_
              rintro _ ⟨z, rfl⟩
              have hbf := hb.trans ((gw_below wn z.n z.os).mono hb.size)
              go_wp2
              go_ret2
              exact ⟨rfl, hbf⟩
            · have D5 : decide (0 < t % 2) = false := decide_eq_false (by omega)
              have h5 := h
              clear h
              by_cases h : N = 0
              · have B6 : ((N : Int) == 0) = true := by simp; omega
                clear Hf HF h
                refine region_below (by kernel_rfl) (by kernel_rfl) ?_
                repeat (first | go_big_quiet_step (first | (go_at_call 59; with_reducible exact calls_gw (G0.out _ _)) | (go_at_call 59; with_reducible exact calls_gw (G6.out _ _))) | quiet_step (first | (go_at_call 59; with_reducible exact calls_gw (G0.out _ _)) | (go_at_call 59; with_reducible exact calls_gw (G6.out _ _))))
                refine wpQuiet_nil ?_
                rintro _ ⟨z, rfl⟩
                have hbf := hb.trans ((gw_below wn z.n z.os).mono hb.size)
                go_wp2
                go_ret2
                exact ⟨rfl, hbf⟩
              · have B6 : ((N : Int) == 0) = false := by simp; omega
                have h6 := h
                clear h
                by_cases h : S < 16 + 8 * (N : Int)
                · have D7 : decide (S < 16 + 8 * (N : Int)) = true := decide_eq_true (by omega)
                  clear Hf HF h
                  refine region_below (by kernel_rfl) (by kernel_rfl) ?_
                  repeat (first | go_big_quiet_step (first | (go_at_call 59; with_reducible exact calls_gw (G0.out _ _)) | (go_at_call 59; with_reducible exact calls_gw (G6.out _ _))) | quiet_step (first | (go_at_call 59; with_reducible exact calls_gw (G0.out _ _)) | (go_at_call 59; with_reducible exact calls_gw (G6.out _ _))))
                  refine wpQuiet_nil ?_
                  rintro _ ⟨z, rfl⟩
                  have hbf := hb.trans ((gw_below wn z.n z.os).mono hb.size)
                  go_wp2
                  go_ret2
                  exact ⟨rfl, hbf⟩
                · have D7 : decide (S < 16 + 8 * (N : Int)) = false := decide_eq_false (by omega)
                  have h7 := h
                  clear h
                  exfalso
                  have := Hf.out
                  rw [HF.out] at this
                  simp at this
                  omega

end Go.Proofs.YthkaeimpflggjaaDoor
