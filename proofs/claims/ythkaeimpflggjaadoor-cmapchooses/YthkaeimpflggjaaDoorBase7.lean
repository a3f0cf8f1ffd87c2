/- What the laws of this seat lean on: SegV2 SegV3 SegV4 SegV. -/
import Derived.Test.YthkaeimpflggjaaDoorBase6

/- The document's Right of segments, where the front is right: the number between isn't 0. -/
namespace Go.Proofs.YthkaeimpflggjaaDoor
open Go.RowKit
set_option linter.unusedVariables false

set_option maxRecDepth 100000 in
set_option maxHeartbeats 8000000 in
theorem rright9_mid (A : Option Addr) (n c : Nat) (zs : List Int) (w : World) (hr : Row w A n (cellsOf .u8 zs)) (hB : Bytes zs) (hn : n ≤ 1000000) (hc : n ≤ c) (hf : (sFront zs && sCnt0 zs) = true) (hTo : sTold zs = true) (hz : n2at zs (14 + 2 * sN zs) ≠ 0) :
    Calls Tryd.prog 38 #[.slice A n c] w (Ret w (.tuple #[.int .i64 (sRV zs), .bool (sRight zs)])) := by
  have HAll : Hid (∀ (i : Nat) (a : Int), a = i → i ≤ 100000000 → ∀ W, Below w.heap.size w W → Calls Tryd.prog 59 #[.slice A n c, .int .i64 a] W (Ret W (.int .i64 (n2at zs i)))) := fun i a ha hi W hW => rat9_any A n c zs a i W (hr.below hW) hB (by omega) ha (by omega)
  have H0 := Lib.hid (HAll.out 0 0 rfl (by omega))
  have H2 := Lib.hid (HAll.out 2 2 rfl (by omega))
  have H6 := Lib.hid (HAll.out 6 6 rfl (by omega))
  have k0 := n2at_lt hB 0
  have k2 := n2at_lt hB 2
  have k6 := n2at_lt hB 6
  have hl := hr.len
  have hfs := hf
  unfold sFront sCnt0 at hfs
  simp only [Bool.and_eq_true, decide_eq_true_eq] at hfs
  rw [hl] at hfs
  obtain ⟨⟨⟨⟨f0, f1⟩, f2⟩, f3⟩, ⟨g1, g2⟩, g3⟩ := hfs
  have hsN : n2at zs 6 / 2 = (sN zs : Int) := by unfold sN; omega
  have HRt : Hid (sRight zs = (sTold zs && (sOkK zs (sN zs) (sN zs) && sEnd zs (sN zs)))) := by
    show _ = _
    rw [Bool.and_eq_true] at hf
    unfold sRight sCnt
    rw [hf.1, hf.2]
    rfl
  have HV : Hid (sRV zs = if sRight zs then (sN zs : Int) else 0) := rfl
  rw [hsN] at g2 g3
  generalize hN : sN zs = N at *
  have HSS := Lib.hid (srB_same hB (by omega) (n := N) (by omega) (by omega))
  have HTd : Hid (sTold zs = decide ([n2at zs 8, n2at zs 10, n2at zs 12] = srL N)) := by show _ = _; unfold sTold; rw [hN]
  rw [← HTd.out] at HSS
  have HEd : Hid (sEnd zs N = (decide (n2at zs (12 + 2 * N) = 65535) && decide (n2at zs (14 + 2 * N) = 0))) := rfl
  have H14 := Lib.hid (HAll.out (14 + 2 * N) (14 + 2 * (N : Int)) (by omega) (by omega))
  have H12 := Lib.hid (HAll.out (12 + 2 * N) (12 + 2 * (N : Int)) (by omega) (by omega))
  have HSr := Lib.hid (fun W => rsearch9_any N W (by omega) (by omega))
  have k14 := n2at_lt hB (14 + 2 * N)
  have k12 := n2at_lt hB (12 + 2 * N)
  obtain ⟨fg, foff, rfl, hfg, _⟩ := hr.2 (by omega)
  have hp8 : Row w (some ⟨fg, foff + 8, none⟩) 6 (cellsOf .u8 ((zs.drop 8).take 6)) := by
    have h := (hr.drop 8).take (k := 6) (by omega)
    rw [cellsOf_drop, cellsOf_take] at h
    simpa only [Option.map_some, Addr.add_lit] using h
  have Hp8 := Lib.hid hp8
  have HB := Lib.hid hB
  have hb := Below.refl w.heap.size w
  clear hp8 hB hf hr
  generalize hS : n2at zs 2 = S at *
  have HSq := Lib.hid hS
  clear hS
  generalize n2at zs 0 = v0 at *
  generalize n2at zs 6 = t at *
  have c1 : (14 : Int) ≤ (c : Int) := by omega
  have c2 : (8 : Int) < (c : Int) := by omega
  have c8 : ¬ c = 8 := by omega
  have D1 : decide ((n : Int) < 24) = false := decide_eq_false (by omega)
  have D1' : decide (n < 24) = false := decide_eq_false (by omega)
  have B0 : (v0 != 4) = false := by simp [f0]
  have D2 : decide (S < 24) = false := decide_eq_false (by omega)
  have D3 : decide ((n : Int) < S) = false := decide_eq_false (by omega)
  have D4 : decide (0 < S % 2) = false := decide_eq_false (by omega)
  have D5 : decide (0 < t % 2) = false := decide_eq_false (by omega)
  have B6 : ((N : Int) == 0) = false := by simp; omega
  have D7 : decide (S < 16 + 8 * (N : Int)) = false := decide_eq_false (by omega)
  have W1 : IntKind.i64.wrap (8 * (N : Int)) = 8 * (N : Int) := IntWalk.i64_in _ (by omega)
  have W2 : IntKind.i64.wrap (16 + 8 * (N : Int)) = 16 + 8 * (N : Int) := IntWalk.i64_in _ (by omega)
  have W3 : IntKind.i64.wrap (2 * (N : Int)) = 2 * (N : Int) := IntWalk.i64_in _ (by omega)
  have W4 : IntKind.i64.wrap (14 + 2 * (N : Int)) = 14 + 2 * (N : Int) := IntWalk.i64_in _ (by omega)
  have W5 : IntKind.i64.wrap (12 + 2 * (N : Int)) = 12 + 2 * (N : Int) := IntWalk.i64_in _ (by omega)
  have m1 : S.tmod 2 = S % 2 := Int.tmod_eq_emod_of_nonneg (by omega)
  have m2 : t.tmod 2 = t % 2 := Int.tmod_eq_emod_of_nonneg (by omega)
  go_enter Tryd.func38, Tryd.ntmps38
  go_upto_region 3 with (go_at_call 59; (first | (with_reducible refine (H2.out _ hb).mono ?_) | (with_reducible refine (H6.out _ hb).mono ?_)); rintro e wn ⟨rfl, hbn⟩; replace hb := hb.trans (hbn.mono hb.size); clear hbn)
  rw [hsN]
  replace hb := hb.drew
  clear f0
  rw [hTo] at HSS HRt
  have bz : (n2at zs (14 + 2 * N) != 0) = true := by simp [hz]
  have HT : Hid (sRV zs = 0 ∧ sRight zs = false) := (by have h : sRight zs = false := (by rw [HRt.out, HEd.out, decide_eq_false hz]; simp); exact ⟨by rw [HV.out, h]; rfl, h⟩)
  clear HRt HV HEd HTd hTo HAll HSq HB hz
  generalize n2at zs (14 + 2 * N) = zz at *
  refine reg_start (by kernel_rfl) ?_
  refine reg_take (i := 0) (d := some 15) (v := ?_) rfl rfl (by kernel_rfl) (by kernel_rfl) (by kernel_rfl) (fun _ _ _ h => h) (Or.inl ⟨by rfl, ?_⟩) ?_
  rotate_left
  · intro w' hx; (go_simp <;> with_reducible rfl)
  simp only [Act.put, List.setIfInBounds_toArray, List.set_cons_zero, List.set_cons_succ]
  refine reg_take (i := 1) (d := some 16) (v := ?_) rfl rfl (by kernel_rfl) (by kernel_rfl) (by kernel_rfl) (fun _ _ _ h => h) (Or.inl ⟨by rfl, ?_⟩) ?_
  rotate_left
  · intro w' hx; (go_simp <;> with_reducible rfl)
  simp only [Act.put, List.setIfInBounds_toArray, List.set_cons_zero, List.set_cons_succ]
  refine reg_take (i := 2) (d := some 17) (v := ?_) rfl rfl (by kernel_rfl) (by kernel_rfl) (by kernel_rfl) (fun _ _ _ h => h) (Or.inl ⟨by rfl, ?_⟩) ?_
  rotate_left
  · intro w' hx; (go_simp <;> with_reducible rfl)
  simp only [Act.put, List.setIfInBounds_toArray, List.set_cons_zero, List.set_cons_succ]
  refine reg_take (i := 3) (d := some 18) (v := ?_) rfl rfl (by kernel_rfl) (by kernel_rfl) (by kernel_rfl) (fun _ _ _ h => h) (Or.inl ⟨by rfl, ?_⟩) ?_
  rotate_left
  · intro w' hx; (go_simp <;> with_reducible rfl)
  simp only [Act.put, List.setIfInBounds_toArray, List.set_cons_zero, List.set_cons_succ]
  refine reg_take (i := 4) (d := some 19) (v := ?_) rfl rfl (by kernel_rfl) (by kernel_rfl) (by kernel_rfl) (fun _ _ _ h => h) (Or.inl ⟨by rfl, ?_⟩) ?_
  rotate_left
  · intro w' hx; (go_simp <;> with_reducible rfl)
  simp only [Act.put, List.setIfInBounds_toArray, List.set_cons_zero, List.set_cons_succ]
  refine reg_one 5 _ (by kernel_rfl) rfl ?_
  intro K hK
  go_simp
  go_wp2_with (go_at_call 59; (with_reducible refine (H0.out _ hb).mono ?_); rintro e wm ⟨rfl, hbm⟩; replace hb := hb.trans (hbm.mono hb.size))
  refine hK.out _ _ hbm ?_
  clear hK K
  refine reg_take (i := 6) (d := some 21) (v := ?_) rfl rfl (by kernel_rfl) (by kernel_rfl) (by kernel_rfl) (fun _ _ _ h => h) (Or.inl ⟨by rfl, ?_⟩) ?_
  rotate_left
  · intro w' hx; (go_simp <;> with_reducible rfl)
  simp only [Act.put, List.setIfInBounds_toArray, List.set_cons_zero, List.set_cons_succ]
  refine reg_take (i := 7) (d := some 22) (v := ?_) rfl rfl (by kernel_rfl) (by kernel_rfl) (by kernel_rfl) (fun _ _ _ h => h) (Or.inl ⟨by rfl, ?_⟩) ?_
  rotate_left
  · intro w' hx; (go_simp <;> with_reducible rfl)
  simp only [Act.put, List.setIfInBounds_toArray, List.set_cons_zero, List.set_cons_succ]
  refine reg_take (i := 8) (d := some 23) (v := ?_) rfl rfl (by kernel_rfl) (by kernel_rfl) (by kernel_rfl) (fun _ _ _ h => h) (Or.inl ⟨by rfl, ?_⟩) ?_
  rotate_left
  · intro w' hx; (go_simp <;> with_reducible rfl)
  simp only [Act.put, List.setIfInBounds_toArray, List.set_cons_zero, List.set_cons_succ]
  refine reg_take (i := 9) (d := some 24) (v := ?_) rfl rfl (by kernel_rfl) (by kernel_rfl) (by kernel_rfl) (fun _ _ _ h => h) (Or.inl ⟨by rfl, ?_⟩) ?_
  rotate_left
  · intro w' hx; (go_simp <;> with_reducible rfl)
  simp only [Act.put, List.setIfInBounds_toArray, List.set_cons_zero, List.set_cons_succ]
  refine reg_take (i := 10) (d := some 25) (v := ?_) rfl rfl (by kernel_rfl) (by kernel_rfl) (by kernel_rfl) (fun _ _ _ h => h) (Or.inl ⟨by rfl, ?_⟩) ?_
  rotate_left
  · intro w' hx; (go_simp <;> with_reducible rfl)
  simp only [Act.put, List.setIfInBounds_toArray, List.set_cons_zero, List.set_cons_succ]
  refine reg_take (i := 11) (d := some 26) (v := ?_) rfl rfl (by kernel_rfl) (by kernel_rfl) (by kernel_rfl) (fun _ _ _ h => h) (Or.inl ⟨by rfl, ?_⟩) ?_
  rotate_left
  · intro w' hx; (go_simp <;> with_reducible rfl)
  simp only [Act.put, List.setIfInBounds_toArray, List.set_cons_zero, List.set_cons_succ]
  refine reg_take (i := 12) (d := some 27) (v := ?_) rfl rfl (by kernel_rfl) (by kernel_rfl) (by kernel_rfl) (fun _ _ _ h => h) (Or.inl ⟨by rfl, ?_⟩) ?_
  rotate_left
  · intro w' hx; (go_simp <;> with_reducible rfl)
  simp only [Act.put, List.setIfInBounds_toArray, List.set_cons_zero, List.set_cons_succ]
  refine reg_take (i := 13) (d := some 28) (v := ?_) rfl rfl (by kernel_rfl) (by kernel_rfl) (by kernel_rfl) (fun _ _ _ h => h) (Or.inl ⟨by rfl, ?_⟩) ?_
  rotate_left
  · intro w' hx; (go_simp <;> with_reducible rfl)
  simp only [Act.put, List.setIfInBounds_toArray, List.set_cons_zero, List.set_cons_succ]
  refine reg_take (i := 14) (d := some 29) (v := ?_) rfl rfl (by kernel_rfl) (by kernel_rfl) (by kernel_rfl) (fun _ _ _ h => h) (Or.inl ⟨by rfl, ?_⟩) ?_
  rotate_left
  · intro w' hx; (go_simp <;> with_reducible rfl)
  simp only [Act.put, List.setIfInBounds_toArray, List.set_cons_zero, List.set_cons_succ]
  refine reg_take (i := 15) (d := some 30) (v := ?_) rfl rfl (by kernel_rfl) (by kernel_rfl) (by kernel_rfl) (fun _ _ _ h => h) (Or.inl ⟨by rfl, ?_⟩) ?_
  rotate_left
  · intro w' hx; (go_simp <;> with_reducible rfl)
  simp only [Act.put, List.setIfInBounds_toArray, List.set_cons_zero, List.set_cons_succ]
  refine reg_take (i := 16) (d := some 31) (v := ?_) rfl rfl (by kernel_rfl) (by kernel_rfl) (by kernel_rfl) (fun _ _ _ h => h) (Or.inl ⟨by rfl, ?_⟩) ?_
  rotate_left
  · intro w' hx; (go_simp <;> with_reducible rfl)
  simp only [Act.put, List.setIfInBounds_toArray, List.set_cons_zero, List.set_cons_succ]
  refine reg_take (i := 17) (d := some 32) (v := ?_) rfl rfl (by kernel_rfl) (by kernel_rfl) (by kernel_rfl) (fun _ _ _ h => h) (Or.inl ⟨by rfl, ?_⟩) ?_
  rotate_left
  · intro w' hx; (go_simp <;> with_reducible rfl)
  simp only [Act.put, List.setIfInBounds_toArray, List.set_cons_zero, List.set_cons_succ]
  refine reg_take (i := 18) (d := some 33) (v := ?_) rfl rfl (by kernel_rfl) (by kernel_rfl) (by kernel_rfl) (fun _ _ _ h => h) (Or.inl ⟨by rfl, ?_⟩) ?_
  rotate_left
  · intro w' hx; (go_simp <;> with_reducible rfl)
  simp only [Act.put, List.setIfInBounds_toArray, List.set_cons_zero, List.set_cons_succ]
  refine reg_take (i := 19) (d := some 34) (v := ?_) rfl rfl (by kernel_rfl) (by kernel_rfl) (by kernel_rfl) (fun _ _ _ h => h) (Or.inl ⟨by rfl, ?_⟩) ?_
  rotate_left
  · intro w' hx; (go_simp <;> with_reducible rfl)
  simp only [Act.put, List.setIfInBounds_toArray, List.set_cons_zero, List.set_cons_succ]
  refine reg_take (i := 20) (d := some 35) (v := ?_) rfl rfl (by kernel_rfl) (by kernel_rfl) (by kernel_rfl) (fun _ _ _ h => h) (Or.inl ⟨by rfl, ?_⟩) ?_
  rotate_left
  · intro w' hx; (go_simp <;> with_reducible rfl)
  simp only [Act.put, List.setIfInBounds_toArray, List.set_cons_zero, List.set_cons_succ]
  refine reg_take (i := 21) (d := some 36) (v := ?_) rfl rfl (by kernel_rfl) (by kernel_rfl) (by kernel_rfl) (fun _ _ _ h => h) (Or.inl ⟨by rfl, ?_⟩) ?_
  rotate_left
  · intro w' hx; (go_simp <;> with_reducible rfl)
  simp only [Act.put, List.setIfInBounds_toArray, List.set_cons_zero, List.set_cons_succ]
  refine reg_take (i := 22) (d := some 37) (v := ?_) rfl rfl (by kernel_rfl) (by kernel_rfl) (by kernel_rfl) (fun _ _ _ h => h) (Or.inl ⟨by rfl, ?_⟩) ?_
  rotate_left
  · intro w' hx; (go_simp <;> with_reducible rfl)
  simp only [Act.put, List.setIfInBounds_toArray, List.set_cons_zero, List.set_cons_succ]
  refine reg_take (i := 23) (d := some 38) (v := ?_) rfl rfl (by kernel_rfl) (by kernel_rfl) (by kernel_rfl) (fun _ _ _ h => h) (Or.inl ⟨by rfl, ?_⟩) ?_
  rotate_left
  · intro w' hx; (go_simp <;> with_reducible rfl)
  simp only [Act.put, List.setIfInBounds_toArray, List.set_cons_zero, List.set_cons_succ]
  refine reg_take (i := 24) (d := some 39) (v := ?_) rfl rfl (by kernel_rfl) (by kernel_rfl) (by kernel_rfl) (fun _ _ _ h => h) (Or.inl ⟨by rfl, ?_⟩) ?_
  rotate_left
  · intro w' hx; (go_simp <;> with_reducible rfl)
  simp only [Act.put, List.setIfInBounds_toArray, List.set_cons_zero, List.set_cons_succ]
  refine reg_one 25 _ (by kernel_rfl) rfl ?_
  intro K hK
  go_simp
  go_wp2_with (go_at_call 59; (with_reducible refine (H6.out _ hb).mono ?_); rintro e wm ⟨rfl, hbm⟩; replace hb := hb.trans (hbm.mono hb.size))
  refine hK.out _ _ hbm ?_
  clear hK K
  refine reg_take (i := 26) (d := some 41) (v := ?_) rfl rfl (by kernel_rfl) (by kernel_rfl) (by kernel_rfl) (fun _ _ _ h => h) (Or.inl ⟨by rfl, ?_⟩) ?_
  rotate_left
  · intro w' hx; (go_simp <;> with_reducible rfl)
  simp only [Act.put, List.setIfInBounds_toArray, List.set_cons_zero, List.set_cons_succ]
  refine reg_take (i := 27) (d := some 42) (v := ?_) rfl rfl (by kernel_rfl) (by kernel_rfl) (by kernel_rfl) (fun _ _ _ h => h) (Or.inl ⟨by rfl, ?_⟩) ?_
  rotate_left
  · intro w' hx; (go_simp <;> with_reducible rfl)
  simp only [Act.put, List.setIfInBounds_toArray, List.set_cons_zero, List.set_cons_succ]
  refine reg_take (i := 28) (d := some 43) (v := ?_) rfl rfl (by kernel_rfl) (by kernel_rfl) (by kernel_rfl) (fun _ _ _ h => h) (Or.inl ⟨by rfl, ?_⟩) ?_
  rotate_left
  · intro w' hx; (go_simp <;> with_reducible rfl)
  simp only [Act.put, List.setIfInBounds_toArray, List.set_cons_zero, List.set_cons_succ]
  refine reg_take (i := 29) (d := some 44) (v := ?_) rfl rfl (by kernel_rfl) (by kernel_rfl) (by kernel_rfl) (fun _ _ _ h => h) (Or.inl ⟨by rfl, ?_⟩) ?_
  rotate_left
  · intro w' hx; (go_simp <;> with_reducible rfl)
  simp only [Act.put, List.setIfInBounds_toArray, List.set_cons_zero, List.set_cons_succ]
  refine reg_take (i := 30) (d := some 45) (v := ?_) rfl rfl (by kernel_rfl) (by kernel_rfl) (by kernel_rfl) (fun _ _ _ h => h) (Or.inl ⟨by rfl, ?_⟩) ?_
  rotate_left
  · intro w' hx; (go_simp <;> with_reducible rfl)
  simp only [Act.put, List.setIfInBounds_toArray, List.set_cons_zero, List.set_cons_succ]
  refine reg_take (i := 31) (d := some 46) (v := ?_) rfl rfl (by kernel_rfl) (by kernel_rfl) (by kernel_rfl) (fun _ _ _ h => h) (Or.inl ⟨by rfl, ?_⟩) ?_
  rotate_left
  · intro w' hx; (go_simp <;> with_reducible rfl)
  simp only [Act.put, List.setIfInBounds_toArray, List.set_cons_zero, List.set_cons_succ]
  refine reg_take (i := 32) (d := some 47) (v := ?_) rfl rfl (by kernel_rfl) (by kernel_rfl) (by kernel_rfl) (fun _ _ _ h => h) (Or.inl ⟨by rfl, ?_⟩) ?_
  rotate_left
  · intro w' hx; (go_simp <;> with_reducible rfl)
  simp only [Act.put, List.setIfInBounds_toArray, List.set_cons_zero, List.set_cons_succ]
  refine reg_take (i := 33) (d := some 48) (v := ?_) rfl rfl (by kernel_rfl) (by kernel_rfl) (by kernel_rfl) (fun _ _ _ h => h) (Or.inl ⟨by rfl, ?_⟩) ?_
  rotate_left
  · intro w' hx; (go_simp <;> with_reducible rfl)
  simp only [Act.put, List.setIfInBounds_toArray, List.set_cons_zero, List.set_cons_succ]
  refine reg_take (i := 34) (d := some 49) (v := ?_) rfl rfl (by kernel_rfl) (by kernel_rfl) (by kernel_rfl) (fun _ _ _ h => h) (Or.inl ⟨by rfl, ?_⟩) ?_
  rotate_left
  · intro w' hx; (go_simp <;> with_reducible rfl)
  simp only [Act.put, List.setIfInBounds_toArray, List.set_cons_zero, List.set_cons_succ]
  refine reg_take (i := 35) (d := some 50) (v := ?_) rfl rfl (by kernel_rfl) (by kernel_rfl) (by kernel_rfl) (fun _ _ _ h => h) (Or.inl ⟨by rfl, ?_⟩) ?_
  rotate_left
  · intro w' hx; (go_simp <;> with_reducible rfl)
  simp only [Act.put, List.setIfInBounds_toArray, List.set_cons_zero, List.set_cons_succ]
  refine reg_take (i := 36) (d := some 51) (v := ?_) rfl rfl (by kernel_rfl) (by kernel_rfl) (by kernel_rfl) (fun _ _ _ h => h) (Or.inl ⟨by rfl, ?_⟩) ?_
  rotate_left
  · intro w' hx; (go_simp <;> with_reducible rfl)
  simp only [Act.put, List.setIfInBounds_toArray, List.set_cons_zero, List.set_cons_succ]
  refine reg_take (i := 37) (d := some 52) (v := ?_) rfl rfl (by kernel_rfl) (by kernel_rfl) (by kernel_rfl) (fun _ _ _ h => h) (Or.inl ⟨by rfl, ?_⟩) ?_
  rotate_left
  · intro w' hx; (go_simp <;> with_reducible rfl)
  simp only [Act.put, List.setIfInBounds_toArray, List.set_cons_zero, List.set_cons_succ]
  refine reg_take (i := 38) (d := some 53) (v := ?_) rfl rfl (by kernel_rfl) (by kernel_rfl) (by kernel_rfl) (fun _ _ _ h => h) (Or.inl ⟨by rfl, ?_⟩) ?_
  rotate_left
  · intro w' hx; (go_simp <;> with_reducible rfl)
  simp only [Act.put, List.setIfInBounds_toArray, List.set_cons_zero, List.set_cons_succ]
  refine reg_take (i := 39) (d := some 54) (v := ?_) rfl rfl (by kernel_rfl) (by kernel_rfl) (by kernel_rfl) (fun _ _ _ h => h) (Or.inl ⟨by rfl, ?_⟩) ?_
  rotate_left
  · intro w' hx; (go_simp <;> with_reducible rfl)
  simp only [Act.put, List.setIfInBounds_toArray, List.set_cons_zero, List.set_cons_succ]
  refine reg_take (i := 40) (d := some 55) (v := ?_) rfl rfl (by kernel_rfl) (by kernel_rfl) (by kernel_rfl) (fun _ _ _ h => h) (Or.inl ⟨by rfl, ?_⟩) ?_
  rotate_left
  · intro w' hx; (go_simp <;> with_reducible rfl)
  simp only [Act.put, List.setIfInBounds_toArray, List.set_cons_zero, List.set_cons_succ]
  refine reg_take (i := 41) (d := some 56) (v := ?_) rfl rfl (by kernel_rfl) (by kernel_rfl) (by kernel_rfl) (fun _ _ _ h => h) (Or.inl ⟨by rfl, ?_⟩) ?_
  rotate_left
  · intro w' hx; (go_simp <;> with_reducible rfl)
  simp only [Act.put, List.setIfInBounds_toArray, List.set_cons_zero, List.set_cons_succ]
  refine reg_take (i := 42) (d := some 57) (v := ?_) rfl rfl (by kernel_rfl) (by kernel_rfl) (by kernel_rfl) (fun _ _ _ h => h) (Or.inl ⟨by rfl, ?_⟩) ?_
  rotate_left
  · intro w' hx; (go_simp <;> with_reducible rfl)
  simp only [Act.put, List.setIfInBounds_toArray, List.set_cons_zero, List.set_cons_succ]
  refine reg_take (i := 43) (d := some 58) (v := ?_) rfl rfl (by kernel_rfl) (by kernel_rfl) (by kernel_rfl) (fun _ _ _ h => h) (Or.inl ⟨by rfl, ?_⟩) ?_
  rotate_left
  · intro w' hx; (go_simp <;> with_reducible rfl)
  simp only [Act.put, List.setIfInBounds_toArray, List.set_cons_zero, List.set_cons_succ]
  refine reg_one 44 _ (by kernel_rfl) rfl ?_
  intro K hK
  go_simp
  go_wp2_with (go_at_call 53; (with_reducible refine (HSr.out _).mono ?_); rintro e ws ⟨A2, n2, c2', rfl, o, hbm⟩; replace hb := hb.trans (hbm.mono hb.size); have hj := o.row; have hjl := hj.len; rw [srB_len] at hjl; subst hjl; clear o)
  refine hK.out _ _ hbm ?_
  clear hK K
  refine reg_one 45 _ (by kernel_rfl) rfl ?_
  intro K hK
  go_simp
  go_wp2_with (go_at_call 12; refine (same_any _ _ _ _ _ _ _ _ _ (Hp8.out.below hb) hj (by omega) (by omega)).mono ?_; rintro e wm ⟨rfl, q, hw⟩; rw [HSS.out]; have hbm : Ext ws wm := (by rw [hw]; exact below_drewN (Below.refl _ _) q); replace hb := hb.trans (Below.mono hbm hb.size); clear hw hj)
  refine hK.out _ _ hbm ?_
  clear hK K
  refine reg_take (i := 46) (d := some 61) (v := ?_) rfl rfl (by kernel_rfl) (by kernel_rfl) (by kernel_rfl) (fun _ _ _ h => h) (Or.inl ⟨by rfl, ?_⟩) ?_
  rotate_left
  · intro w' hx; (go_simp <;> with_reducible rfl)
  simp only [Act.put, List.setIfInBounds_toArray, List.set_cons_zero, List.set_cons_succ]
  refine reg_take (i := 47) (d := some 62) (v := ?_) rfl rfl (by kernel_rfl) (by kernel_rfl) (by kernel_rfl) (fun _ _ _ h => h) (Or.inl ⟨by rfl, ?_⟩) ?_
  rotate_left
  · intro w' hx; (go_simp <;> with_reducible rfl)
  simp only [Act.put, List.setIfInBounds_toArray, List.set_cons_zero, List.set_cons_succ]
  refine reg_take (i := 48) (d := some 63) (v := ?_) rfl rfl (by kernel_rfl) (by kernel_rfl) (by kernel_rfl) (fun _ _ _ h => h) (Or.inl ⟨by rfl, ?_⟩) ?_
  rotate_left
  · intro w' hx; (go_simp <;> with_reducible rfl)
  simp only [Act.put, List.setIfInBounds_toArray, List.set_cons_zero, List.set_cons_succ]
  refine reg_take (i := 49) (d := some 64) (v := ?_) rfl rfl (by kernel_rfl) (by kernel_rfl) (by kernel_rfl) (fun _ _ _ h => h) (Or.inl ⟨by rfl, ?_⟩) ?_
  rotate_left
  · intro w' hx; (go_simp <;> with_reducible rfl)
  simp only [Act.put, List.setIfInBounds_toArray, List.set_cons_zero, List.set_cons_succ]
  refine reg_take (i := 50) (d := some 65) (v := ?_) rfl rfl (by kernel_rfl) (by kernel_rfl) (by kernel_rfl) (fun _ _ _ h => h) (Or.inl ⟨by rfl, ?_⟩) ?_
  rotate_left
  · intro w' hx; (go_simp <;> with_reducible rfl)
  simp only [Act.put, List.setIfInBounds_toArray, List.set_cons_zero, List.set_cons_succ]
  refine reg_take (i := 51) (d := some 66) (v := ?_) rfl rfl (by kernel_rfl) (by kernel_rfl) (by kernel_rfl) (fun _ _ _ h => h) (Or.inl ⟨by rfl, ?_⟩) ?_
  rotate_left
  · intro w' hx; (go_simp <;> with_reducible rfl)
  simp only [Act.put, List.setIfInBounds_toArray, List.set_cons_zero, List.set_cons_succ]
  refine reg_take (i := 52) (d := some 67) (v := ?_) rfl rfl (by kernel_rfl) (by kernel_rfl) (by kernel_rfl) (fun _ _ _ h => h) (Or.inl ⟨by rfl, ?_⟩) ?_
  rotate_left
  · intro w' hx; (go_simp <;> with_reducible rfl)
  simp only [Act.put, List.setIfInBounds_toArray, List.set_cons_zero, List.set_cons_succ]
  refine reg_one 53 _ (by kernel_rfl) rfl ?_
  intro K hK
  go_simp
  go_wp2_with (go_at_call 59; (with_reducible refine (H14.out _ hb).mono ?_); rintro e wm ⟨rfl, hbm⟩; replace hb := hb.trans (hbm.mono hb.size))
  refine hK.out _ _ hbm ?_
  clear hK K
  refine reg_take (i := 54) (d := some 69) (v := ?_) rfl rfl (by kernel_rfl) (by kernel_rfl) (by kernel_rfl) (fun _ _ _ h => h) (Or.inl ⟨by rfl, ?_⟩) ?_
  rotate_left
  · intro w' hx; (go_simp <;> with_reducible rfl)
  simp only [Act.put, List.setIfInBounds_toArray, List.set_cons_zero, List.set_cons_succ]
  refine reg_take (i := 55) (d := some 70) (v := ?_) rfl rfl (by kernel_rfl) (by kernel_rfl) (by kernel_rfl) (fun _ _ _ h => h) (Or.inl ⟨by rfl, ?_⟩) ?_
  rotate_left
  · intro w' hx; (go_simp <;> with_reducible rfl)
  simp only [Act.put, List.setIfInBounds_toArray, List.set_cons_zero, List.set_cons_succ]
  refine reg_take (i := 56) (d := some 71) (v := ?_) rfl rfl (by kernel_rfl) (by kernel_rfl) (by kernel_rfl) (fun _ _ _ h => h) (Or.inl ⟨by rfl, ?_⟩) ?_
  rotate_left
  · intro w' hx; (go_simp <;> with_reducible rfl)
  simp only [Act.put, List.setIfInBounds_toArray, List.set_cons_zero, List.set_cons_succ]
  refine reg_take (i := 57) (d := some 72) (v := undef) rfl rfl (by kernel_rfl) (by kernel_rfl) (by kernel_rfl) (fun _ _ _ h => h) (Or.inr ⟨by rfl, rfl⟩) ?_
  simp only [Act.put, List.setIfInBounds_toArray, List.set_cons_zero, List.set_cons_succ]
  refine reg_take (i := 58) (d := some 73) (v := undef) rfl rfl (by kernel_rfl) (by kernel_rfl) (by kernel_rfl) (fun _ _ _ h => h) (Or.inr ⟨by rfl, rfl⟩) ?_
  simp only [Act.put, List.setIfInBounds_toArray, List.set_cons_zero, List.set_cons_succ]
  refine reg_take (i := 59) (d := some 74) (v := undef) rfl rfl (by kernel_rfl) (by kernel_rfl) (by kernel_rfl) (fun _ _ _ h => h) (Or.inr ⟨by rfl, rfl⟩) ?_
  simp only [Act.put, List.setIfInBounds_toArray, List.set_cons_zero, List.set_cons_succ]
  refine reg_take (i := 60) (d := some 75) (v := undef) rfl rfl (by kernel_rfl) (by kernel_rfl) (by kernel_rfl) (fun _ _ _ h => h) (Or.inr ⟨by rfl, rfl⟩) ?_
  simp only [Act.put, List.setIfInBounds_toArray, List.set_cons_zero, List.set_cons_succ]
  refine reg_one 61 _ (by kernel_rfl) rfl ?_
  intro K hK
  go_simp
  refine hK.out _ _ (Ext.refl _) ?_
  clear hK K
  try simp only [Act.put, List.setIfInBounds_toArray, List.set_cons_zero, List.set_cons_succ]
  refine reg_take (i := 62) (d := some 77) (v := undef) rfl rfl (by kernel_rfl) (by kernel_rfl) (by kernel_rfl) (fun _ _ _ h => h) (Or.inr ⟨by rfl, rfl⟩) ?_
  simp only [Act.put, List.setIfInBounds_toArray, List.set_cons_zero, List.set_cons_succ]
  refine reg_take (i := 63) (d := some 78) (v := ?_) rfl rfl (by kernel_rfl) (by kernel_rfl) (by kernel_rfl) (fun _ _ _ h => h) (Or.inl ⟨by rfl, ?_⟩) ?_
  rotate_left
  · intro w' hx; (go_simp <;> with_reducible rfl)
  simp only [Act.put, List.setIfInBounds_toArray, List.set_cons_zero, List.set_cons_succ]
  refine wpAnyH_done (by kernel_rfl) ?_ _
  go_wp2
  go_ret2
  rw [HT.out.1, HT.out.2]
  exact ⟨rfl, hb⟩

end Go.Proofs.YthkaeimpflggjaaDoor

/- The document's Right of segments, where the front is right: the last End isn't ffff. -/
namespace Go.Proofs.YthkaeimpflggjaaDoor
open Go.RowKit
set_option linter.unusedVariables false

set_option maxRecDepth 100000 in
set_option maxHeartbeats 8000000 in
theorem rright9_last (A : Option Addr) (n c : Nat) (zs : List Int) (w : World) (hr : Row w A n (cellsOf .u8 zs)) (hB : Bytes zs) (hn : n ≤ 1000000) (hc : n ≤ c) (hf : (sFront zs && sCnt0 zs) = true) (hTo : sTold zs = true) (hz : n2at zs (14 + 2 * sN zs) = 0) (he : n2at zs (12 + 2 * sN zs) ≠ 65535) :
    Calls Tryd.prog 38 #[.slice A n c] w (Ret w (.tuple #[.int .i64 (sRV zs), .bool (sRight zs)])) := by
  have HAll : Hid (∀ (i : Nat) (a : Int), a = i → i ≤ 100000000 → ∀ W, Below w.heap.size w W → Calls Tryd.prog 59 #[.slice A n c, .int .i64 a] W (Ret W (.int .i64 (n2at zs i)))) := fun i a ha hi W hW => rat9_any A n c zs a i W (hr.below hW) hB (by omega) ha (by omega)
  have H0 := Lib.hid (HAll.out 0 0 rfl (by omega))
  have H2 := Lib.hid (HAll.out 2 2 rfl (by omega))
  have H6 := Lib.hid (HAll.out 6 6 rfl (by omega))
  have k0 := n2at_lt hB 0
  have k2 := n2at_lt hB 2
  have k6 := n2at_lt hB 6
  have hl := hr.len
  have hfs := hf
  unfold sFront sCnt0 at hfs
  simp only [Bool.and_eq_true, decide_eq_true_eq] at hfs
  rw [hl] at hfs
  obtain ⟨⟨⟨⟨f0, f1⟩, f2⟩, f3⟩, ⟨g1, g2⟩, g3⟩ := hfs
  have hsN : n2at zs 6 / 2 = (sN zs : Int) := by unfold sN; omega
  have HRt : Hid (sRight zs = (sTold zs && (sOkK zs (sN zs) (sN zs) && sEnd zs (sN zs)))) := by
    show _ = _
    rw [Bool.and_eq_true] at hf
    unfold sRight sCnt
    rw [hf.1, hf.2]
    rfl
  have HV : Hid (sRV zs = if sRight zs then (sN zs : Int) else 0) := rfl
  rw [hsN] at g2 g3
  generalize hN : sN zs = N at *
  have HSS := Lib.hid (srB_same hB (by omega) (n := N) (by omega) (by omega))
  have HTd : Hid (sTold zs = decide ([n2at zs 8, n2at zs 10, n2at zs 12] = srL N)) := by show _ = _; unfold sTold; rw [hN]
  rw [← HTd.out] at HSS
  have HEd : Hid (sEnd zs N = (decide (n2at zs (12 + 2 * N) = 65535) && decide (n2at zs (14 + 2 * N) = 0))) := rfl
  have H14 := Lib.hid (HAll.out (14 + 2 * N) (14 + 2 * (N : Int)) (by omega) (by omega))
  have H12 := Lib.hid (HAll.out (12 + 2 * N) (12 + 2 * (N : Int)) (by omega) (by omega))
  have HSr := Lib.hid (fun W => rsearch9_any N W (by omega) (by omega))
  have k14 := n2at_lt hB (14 + 2 * N)
  have k12 := n2at_lt hB (12 + 2 * N)
  obtain ⟨fg, foff, rfl, hfg, _⟩ := hr.2 (by omega)
  have hp8 : Row w (some ⟨fg, foff + 8, none⟩) 6 (cellsOf .u8 ((zs.drop 8).take 6)) := by
    have h := (hr.drop 8).take (k := 6) (by omega)
    rw [cellsOf_drop, cellsOf_take] at h
    simpa only [Option.map_some, Addr.add_lit] using h
  have Hp8 := Lib.hid hp8
  have HB := Lib.hid hB
  have hb := Below.refl w.heap.size w
  clear hp8 hB hf hr
  generalize hS : n2at zs 2 = S at *
  have HSq := Lib.hid hS
  clear hS
  generalize n2at zs 0 = v0 at *
  generalize n2at zs 6 = t at *
  have c1 : (14 : Int) ≤ (c : Int) := by omega
  have c2 : (8 : Int) < (c : Int) := by omega
  have c8 : ¬ c = 8 := by omega
  have D1 : decide ((n : Int) < 24) = false := decide_eq_false (by omega)
  have D1' : decide (n < 24) = false := decide_eq_false (by omega)
  have B0 : (v0 != 4) = false := by simp [f0]
  have D2 : decide (S < 24) = false := decide_eq_false (by omega)
  have D3 : decide ((n : Int) < S) = false := decide_eq_false (by omega)
  have D4 : decide (0 < S % 2) = false := decide_eq_false (by omega)
  have D5 : decide (0 < t % 2) = false := decide_eq_false (by omega)
  have B6 : ((N : Int) == 0) = false := by simp; omega
  have D7 : decide (S < 16 + 8 * (N : Int)) = false := decide_eq_false (by omega)
  have W1 : IntKind.i64.wrap (8 * (N : Int)) = 8 * (N : Int) := IntWalk.i64_in _ (by omega)
  have W2 : IntKind.i64.wrap (16 + 8 * (N : Int)) = 16 + 8 * (N : Int) := IntWalk.i64_in _ (by omega)
  have W3 : IntKind.i64.wrap (2 * (N : Int)) = 2 * (N : Int) := IntWalk.i64_in _ (by omega)
  have W4 : IntKind.i64.wrap (14 + 2 * (N : Int)) = 14 + 2 * (N : Int) := IntWalk.i64_in _ (by omega)
  have W5 : IntKind.i64.wrap (12 + 2 * (N : Int)) = 12 + 2 * (N : Int) := IntWalk.i64_in _ (by omega)
  have m1 : S.tmod 2 = S % 2 := Int.tmod_eq_emod_of_nonneg (by omega)
  have m2 : t.tmod 2 = t % 2 := Int.tmod_eq_emod_of_nonneg (by omega)
  go_enter Tryd.func38, Tryd.ntmps38
  go_upto_region 3 with (go_at_call 59; (first | (with_reducible refine (H2.out _ hb).mono ?_) | (with_reducible refine (H6.out _ hb).mono ?_)); rintro e wn ⟨rfl, hbn⟩; replace hb := hb.trans (hbn.mono hb.size); clear hbn)
  rw [hsN]
  replace hb := hb.drew
  clear f0
  rw [hTo] at HSS HRt
  have bz : (n2at zs (14 + 2 * N) != 0) = false := by simp [hz]
  have be : (n2at zs (12 + 2 * N) != 65535) = true := by simp [he]
  have HT : Hid (sRV zs = 0 ∧ sRight zs = false) := (by have h : sRight zs = false := (by rw [HRt.out, HEd.out, decide_eq_false he]; simp); exact ⟨by rw [HV.out, h]; rfl, h⟩)
  clear HRt HV HEd HTd hTo HAll HSq HB hz he
  generalize n2at zs (14 + 2 * N) = zz at *
  generalize n2at zs (12 + 2 * N) = ee at *
  refine reg_start (by kernel_rfl) ?_
  refine reg_take (i := 0) (d := some 15) (v := ?_) rfl rfl (by kernel_rfl) (by kernel_rfl) (by kernel_rfl) (fun _ _ _ h => h) (Or.inl ⟨by rfl, ?_⟩) ?_
  rotate_left
  · intro w' hx; (go_simp <;> with_reducible rfl)
  simp only [Act.put, List.setIfInBounds_toArray, List.set_cons_zero, List.set_cons_succ]
  refine reg_take (i := 1) (d := some 16) (v := ?_) rfl rfl (by kernel_rfl) (by kernel_rfl) (by kernel_rfl) (fun _ _ _ h => h) (Or.inl ⟨by rfl, ?_⟩) ?_
  rotate_left
  · intro w' hx; (go_simp <;> with_reducible rfl)
  simp only [Act.put, List.setIfInBounds_toArray, List.set_cons_zero, List.set_cons_succ]
  refine reg_take (i := 2) (d := some 17) (v := ?_) rfl rfl (by kernel_rfl) (by kernel_rfl) (by kernel_rfl) (fun _ _ _ h => h) (Or.inl ⟨by rfl, ?_⟩) ?_
  rotate_left
  · intro w' hx; (go_simp <;> with_reducible rfl)
  simp only [Act.put, List.setIfInBounds_toArray, List.set_cons_zero, List.set_cons_succ]
  refine reg_take (i := 3) (d := some 18) (v := ?_) rfl rfl (by kernel_rfl) (by kernel_rfl) (by kernel_rfl) (fun _ _ _ h => h) (Or.inl ⟨by rfl, ?_⟩) ?_
  rotate_left
  · intro w' hx; (go_simp <;> with_reducible rfl)
  simp only [Act.put, List.setIfInBounds_toArray, List.set_cons_zero, List.set_cons_succ]
  refine reg_take (i := 4) (d := some 19) (v := ?_) rfl rfl (by kernel_rfl) (by kernel_rfl) (by kernel_rfl) (fun _ _ _ h => h) (Or.inl ⟨by rfl, ?_⟩) ?_
  rotate_left
  · intro w' hx; (go_simp <;> with_reducible rfl)
  simp only [Act.put, List.setIfInBounds_toArray, List.set_cons_zero, List.set_cons_succ]
  refine reg_one 5 _ (by kernel_rfl) rfl ?_
  intro K hK
  go_simp
  go_wp2_with (go_at_call 59; (with_reducible refine (H0.out _ hb).mono ?_); rintro e wm ⟨rfl, hbm⟩; replace hb := hb.trans (hbm.mono hb.size))
  refine hK.out _ _ hbm ?_
  clear hK K
  refine reg_take (i := 6) (d := some 21) (v := ?_) rfl rfl (by kernel_rfl) (by kernel_rfl) (by kernel_rfl) (fun _ _ _ h => h) (Or.inl ⟨by rfl, ?_⟩) ?_
  rotate_left
  · intro w' hx; (go_simp <;> with_reducible rfl)
  simp only [Act.put, List.setIfInBounds_toArray, List.set_cons_zero, List.set_cons_succ]
  refine reg_take (i := 7) (d := some 22) (v := ?_) rfl rfl (by kernel_rfl) (by kernel_rfl) (by kernel_rfl) (fun _ _ _ h => h) (Or.inl ⟨by rfl, ?_⟩) ?_
  rotate_left
  · intro w' hx; (go_simp <;> with_reducible rfl)
  simp only [Act.put, List.setIfInBounds_toArray, List.set_cons_zero, List.set_cons_succ]
  refine reg_take (i := 8) (d := some 23) (v := ?_) rfl rfl (by kernel_rfl) (by kernel_rfl) (by kernel_rfl) (fun _ _ _ h => h) (Or.inl ⟨by rfl, ?_⟩) ?_
  rotate_left
  · intro w' hx; (go_simp <;> with_reducible rfl)
  simp only [Act.put, List.setIfInBounds_toArray, List.set_cons_zero, List.set_cons_succ]
  refine reg_take (i := 9) (d := some 24) (v := ?_) rfl rfl (by kernel_rfl) (by kernel_rfl) (by kernel_rfl) (fun _ _ _ h => h) (Or.inl ⟨by rfl, ?_⟩) ?_
  rotate_left
  · intro w' hx; (go_simp <;> with_reducible rfl)
  simp only [Act.put, List.setIfInBounds_toArray, List.set_cons_zero, List.set_cons_succ]
  refine reg_take (i := 10) (d := some 25) (v := ?_) rfl rfl (by kernel_rfl) (by kernel_rfl) (by kernel_rfl) (fun _ _ _ h => h) (Or.inl ⟨by rfl, ?_⟩) ?_
  rotate_left
  · intro w' hx; (go_simp <;> with_reducible rfl)
  simp only [Act.put, List.setIfInBounds_toArray, List.set_cons_zero, List.set_cons_succ]
  refine reg_take (i := 11) (d := some 26) (v := ?_) rfl rfl (by kernel_rfl) (by kernel_rfl) (by kernel_rfl) (fun _ _ _ h => h) (Or.inl ⟨by rfl, ?_⟩) ?_
  rotate_left
  · intro w' hx; (go_simp <;> with_reducible rfl)
  simp only [Act.put, List.setIfInBounds_toArray, List.set_cons_zero, List.set_cons_succ]
  refine reg_take (i := 12) (d := some 27) (v := ?_) rfl rfl (by kernel_rfl) (by kernel_rfl) (by kernel_rfl) (fun _ _ _ h => h) (Or.inl ⟨by rfl, ?_⟩) ?_
  rotate_left
  · intro w' hx; (go_simp <;> with_reducible rfl)
  simp only [Act.put, List.setIfInBounds_toArray, List.set_cons_zero, List.set_cons_succ]
  refine reg_take (i := 13) (d := some 28) (v := ?_) rfl rfl (by kernel_rfl) (by kernel_rfl) (by kernel_rfl) (fun _ _ _ h => h) (Or.inl ⟨by rfl, ?_⟩) ?_
  rotate_left
  · intro w' hx; (go_simp <;> with_reducible rfl)
  simp only [Act.put, List.setIfInBounds_toArray, List.set_cons_zero, List.set_cons_succ]
  refine reg_take (i := 14) (d := some 29) (v := ?_) rfl rfl (by kernel_rfl) (by kernel_rfl) (by kernel_rfl) (fun _ _ _ h => h) (Or.inl ⟨by rfl, ?_⟩) ?_
  rotate_left
  · intro w' hx; (go_simp <;> with_reducible rfl)
  simp only [Act.put, List.setIfInBounds_toArray, List.set_cons_zero, List.set_cons_succ]
  refine reg_take (i := 15) (d := some 30) (v := ?_) rfl rfl (by kernel_rfl) (by kernel_rfl) (by kernel_rfl) (fun _ _ _ h => h) (Or.inl ⟨by rfl, ?_⟩) ?_
  rotate_left
  · intro w' hx; (go_simp <;> with_reducible rfl)
  simp only [Act.put, List.setIfInBounds_toArray, List.set_cons_zero, List.set_cons_succ]
  refine reg_take (i := 16) (d := some 31) (v := ?_) rfl rfl (by kernel_rfl) (by kernel_rfl) (by kernel_rfl) (fun _ _ _ h => h) (Or.inl ⟨by rfl, ?_⟩) ?_
  rotate_left
  · intro w' hx; (go_simp <;> with_reducible rfl)
  simp only [Act.put, List.setIfInBounds_toArray, List.set_cons_zero, List.set_cons_succ]
  refine reg_take (i := 17) (d := some 32) (v := ?_) rfl rfl (by kernel_rfl) (by kernel_rfl) (by kernel_rfl) (fun _ _ _ h => h) (Or.inl ⟨by rfl, ?_⟩) ?_
  rotate_left
  · intro w' hx; (go_simp <;> with_reducible rfl)
  simp only [Act.put, List.setIfInBounds_toArray, List.set_cons_zero, List.set_cons_succ]
  refine reg_take (i := 18) (d := some 33) (v := ?_) rfl rfl (by kernel_rfl) (by kernel_rfl) (by kernel_rfl) (fun _ _ _ h => h) (Or.inl ⟨by rfl, ?_⟩) ?_
  rotate_left
  · intro w' hx; (go_simp <;> with_reducible rfl)
  simp only [Act.put, List.setIfInBounds_toArray, List.set_cons_zero, List.set_cons_succ]
  refine reg_take (i := 19) (d := some 34) (v := ?_) rfl rfl (by kernel_rfl) (by kernel_rfl) (by kernel_rfl) (fun _ _ _ h => h) (Or.inl ⟨by rfl, ?_⟩) ?_
  rotate_left
  · intro w' hx; (go_simp <;> with_reducible rfl)
  simp only [Act.put, List.setIfInBounds_toArray, List.set_cons_zero, List.set_cons_succ]
  refine reg_take (i := 20) (d := some 35) (v := ?_) rfl rfl (by kernel_rfl) (by kernel_rfl) (by kernel_rfl) (fun _ _ _ h => h) (Or.inl ⟨by rfl, ?_⟩) ?_
  rotate_left
  · intro w' hx; (go_simp <;> with_reducible rfl)
  simp only [Act.put, List.setIfInBounds_toArray, List.set_cons_zero, List.set_cons_succ]
  refine reg_take (i := 21) (d := some 36) (v := ?_) rfl rfl (by kernel_rfl) (by kernel_rfl) (by kernel_rfl) (fun _ _ _ h => h) (Or.inl ⟨by rfl, ?_⟩) ?_
  rotate_left
  · intro w' hx; (go_simp <;> with_reducible rfl)
  simp only [Act.put, List.setIfInBounds_toArray, List.set_cons_zero, List.set_cons_succ]
  refine reg_take (i := 22) (d := some 37) (v := ?_) rfl rfl (by kernel_rfl) (by kernel_rfl) (by kernel_rfl) (fun _ _ _ h => h) (Or.inl ⟨by rfl, ?_⟩) ?_
  rotate_left
  · intro w' hx; (go_simp <;> with_reducible rfl)
  simp only [Act.put, List.setIfInBounds_toArray, List.set_cons_zero, List.set_cons_succ]
  refine reg_take (i := 23) (d := some 38) (v := ?_) rfl rfl (by kernel_rfl) (by kernel_rfl) (by kernel_rfl) (fun _ _ _ h => h) (Or.inl ⟨by rfl, ?_⟩) ?_
  rotate_left
  · intro w' hx; (go_simp <;> with_reducible rfl)
  simp only [Act.put, List.setIfInBounds_toArray, List.set_cons_zero, List.set_cons_succ]
  refine reg_take (i := 24) (d := some 39) (v := ?_) rfl rfl (by kernel_rfl) (by kernel_rfl) (by kernel_rfl) (fun _ _ _ h => h) (Or.inl ⟨by rfl, ?_⟩) ?_
  rotate_left
  · intro w' hx; (go_simp <;> with_reducible rfl)
  simp only [Act.put, List.setIfInBounds_toArray, List.set_cons_zero, List.set_cons_succ]
  refine reg_one 25 _ (by kernel_rfl) rfl ?_
  intro K hK
  go_simp
  go_wp2_with (go_at_call 59; (with_reducible refine (H6.out _ hb).mono ?_); rintro e wm ⟨rfl, hbm⟩; replace hb := hb.trans (hbm.mono hb.size))
  refine hK.out _ _ hbm ?_
  clear hK K
  refine reg_take (i := 26) (d := some 41) (v := ?_) rfl rfl (by kernel_rfl) (by kernel_rfl) (by kernel_rfl) (fun _ _ _ h => h) (Or.inl ⟨by rfl, ?_⟩) ?_
  rotate_left
  · intro w' hx; (go_simp <;> with_reducible rfl)
  simp only [Act.put, List.setIfInBounds_toArray, List.set_cons_zero, List.set_cons_succ]
  refine reg_take (i := 27) (d := some 42) (v := ?_) rfl rfl (by kernel_rfl) (by kernel_rfl) (by kernel_rfl) (fun _ _ _ h => h) (Or.inl ⟨by rfl, ?_⟩) ?_
  rotate_left
  · intro w' hx; (go_simp <;> with_reducible rfl)
  simp only [Act.put, List.setIfInBounds_toArray, List.set_cons_zero, List.set_cons_succ]
  refine reg_take (i := 28) (d := some 43) (v := ?_) rfl rfl (by kernel_rfl) (by kernel_rfl) (by kernel_rfl) (fun _ _ _ h => h) (Or.inl ⟨by rfl, ?_⟩) ?_
  rotate_left
  · intro w' hx; (go_simp <;> with_reducible rfl)
  simp only [Act.put, List.setIfInBounds_toArray, List.set_cons_zero, List.set_cons_succ]
  refine reg_take (i := 29) (d := some 44) (v := ?_) rfl rfl (by kernel_rfl) (by kernel_rfl) (by kernel_rfl) (fun _ _ _ h => h) (Or.inl ⟨by rfl, ?_⟩) ?_
  rotate_left
  · intro w' hx; (go_simp <;> with_reducible rfl)
  simp only [Act.put, List.setIfInBounds_toArray, List.set_cons_zero, List.set_cons_succ]
  refine reg_take (i := 30) (d := some 45) (v := ?_) rfl rfl (by kernel_rfl) (by kernel_rfl) (by kernel_rfl) (fun _ _ _ h => h) (Or.inl ⟨by rfl, ?_⟩) ?_
  rotate_left
  · intro w' hx; (go_simp <;> with_reducible rfl)
  simp only [Act.put, List.setIfInBounds_toArray, List.set_cons_zero, List.set_cons_succ]
  refine reg_take (i := 31) (d := some 46) (v := ?_) rfl rfl (by kernel_rfl) (by kernel_rfl) (by kernel_rfl) (fun _ _ _ h => h) (Or.inl ⟨by rfl, ?_⟩) ?_
  rotate_left
  · intro w' hx; (go_simp <;> with_reducible rfl)
  simp only [Act.put, List.setIfInBounds_toArray, List.set_cons_zero, List.set_cons_succ]
  refine reg_take (i := 32) (d := some 47) (v := ?_) rfl rfl (by kernel_rfl) (by kernel_rfl) (by kernel_rfl) (fun _ _ _ h => h) (Or.inl ⟨by rfl, ?_⟩) ?_
  rotate_left
  · intro w' hx; (go_simp <;> with_reducible rfl)
  simp only [Act.put, List.setIfInBounds_toArray, List.set_cons_zero, List.set_cons_succ]
  refine reg_take (i := 33) (d := some 48) (v := ?_) rfl rfl (by kernel_rfl) (by kernel_rfl) (by kernel_rfl) (fun _ _ _ h => h) (Or.inl ⟨by rfl, ?_⟩) ?_
  rotate_left
  · intro w' hx; (go_simp <;> with_reducible rfl)
  simp only [Act.put, List.setIfInBounds_toArray, List.set_cons_zero, List.set_cons_succ]
  refine reg_take (i := 34) (d := some 49) (v := ?_) rfl rfl (by kernel_rfl) (by kernel_rfl) (by kernel_rfl) (fun _ _ _ h => h) (Or.inl ⟨by rfl, ?_⟩) ?_
  rotate_left
  · intro w' hx; (go_simp <;> with_reducible rfl)
  simp only [Act.put, List.setIfInBounds_toArray, List.set_cons_zero, List.set_cons_succ]
  refine reg_take (i := 35) (d := some 50) (v := ?_) rfl rfl (by kernel_rfl) (by kernel_rfl) (by kernel_rfl) (fun _ _ _ h => h) (Or.inl ⟨by rfl, ?_⟩) ?_
  rotate_left
  · intro w' hx; (go_simp <;> with_reducible rfl)
  simp only [Act.put, List.setIfInBounds_toArray, List.set_cons_zero, List.set_cons_succ]
  refine reg_take (i := 36) (d := some 51) (v := ?_) rfl rfl (by kernel_rfl) (by kernel_rfl) (by kernel_rfl) (fun _ _ _ h => h) (Or.inl ⟨by rfl, ?_⟩) ?_
  rotate_left
  · intro w' hx; (go_simp <;> with_reducible rfl)
  simp only [Act.put, List.setIfInBounds_toArray, List.set_cons_zero, List.set_cons_succ]
  refine reg_take (i := 37) (d := some 52) (v := ?_) rfl rfl (by kernel_rfl) (by kernel_rfl) (by kernel_rfl) (fun _ _ _ h => h) (Or.inl ⟨by rfl, ?_⟩) ?_
  rotate_left
  · intro w' hx; (go_simp <;> with_reducible rfl)
  simp only [Act.put, List.setIfInBounds_toArray, List.set_cons_zero, List.set_cons_succ]
  refine reg_take (i := 38) (d := some 53) (v := ?_) rfl rfl (by kernel_rfl) (by kernel_rfl) (by kernel_rfl) (fun _ _ _ h => h) (Or.inl ⟨by rfl, ?_⟩) ?_
  rotate_left
  · intro w' hx; (go_simp <;> with_reducible rfl)
  simp only [Act.put, List.setIfInBounds_toArray, List.set_cons_zero, List.set_cons_succ]
  refine reg_take (i := 39) (d := some 54) (v := ?_) rfl rfl (by kernel_rfl) (by kernel_rfl) (by kernel_rfl) (fun _ _ _ h => h) (Or.inl ⟨by rfl, ?_⟩) ?_
  rotate_left
  · intro w' hx; (go_simp <;> with_reducible rfl)
  simp only [Act.put, List.setIfInBounds_toArray, List.set_cons_zero, List.set_cons_succ]
  refine reg_take (i := 40) (d := some 55) (v := ?_) rfl rfl (by kernel_rfl) (by kernel_rfl) (by kernel_rfl) (fun _ _ _ h => h) (Or.inl ⟨by rfl, ?_⟩) ?_
  rotate_left
  · intro w' hx; (go_simp <;> with_reducible rfl)
  simp only [Act.put, List.setIfInBounds_toArray, List.set_cons_zero, List.set_cons_succ]
  refine reg_take (i := 41) (d := some 56) (v := ?_) rfl rfl (by kernel_rfl) (by kernel_rfl) (by kernel_rfl) (fun _ _ _ h => h) (Or.inl ⟨by rfl, ?_⟩) ?_
  rotate_left
  · intro w' hx; (go_simp <;> with_reducible rfl)
  simp only [Act.put, List.setIfInBounds_toArray, List.set_cons_zero, List.set_cons_succ]
  refine reg_take (i := 42) (d := some 57) (v := ?_) rfl rfl (by kernel_rfl) (by kernel_rfl) (by kernel_rfl) (fun _ _ _ h => h) (Or.inl ⟨by rfl, ?_⟩) ?_
  rotate_left
  · intro w' hx; (go_simp <;> with_reducible rfl)
  simp only [Act.put, List.setIfInBounds_toArray, List.set_cons_zero, List.set_cons_succ]
  refine reg_take (i := 43) (d := some 58) (v := ?_) rfl rfl (by kernel_rfl) (by kernel_rfl) (by kernel_rfl) (fun _ _ _ h => h) (Or.inl ⟨by rfl, ?_⟩) ?_
  rotate_left
  · intro w' hx; (go_simp <;> with_reducible rfl)
  simp only [Act.put, List.setIfInBounds_toArray, List.set_cons_zero, List.set_cons_succ]
  refine reg_one 44 _ (by kernel_rfl) rfl ?_
  intro K hK
  go_simp
  go_wp2_with (go_at_call 53; (with_reducible refine (HSr.out _).mono ?_); rintro e ws ⟨A2, n2, c2', rfl, o, hbm⟩; replace hb := hb.trans (hbm.mono hb.size); have hj := o.row; have hjl := hj.len; rw [srB_len] at hjl; subst hjl; clear o)
  refine hK.out _ _ hbm ?_
  clear hK K
  refine reg_one 45 _ (by kernel_rfl) rfl ?_
  intro K hK
  go_simp
  go_wp2_with (go_at_call 12; refine (same_any _ _ _ _ _ _ _ _ _ (Hp8.out.below hb) hj (by omega) (by omega)).mono ?_; rintro e wm ⟨rfl, q, hw⟩; rw [HSS.out]; have hbm : Ext ws wm := (by rw [hw]; exact below_drewN (Below.refl _ _) q); replace hb := hb.trans (Below.mono hbm hb.size); clear hw hj)
  refine hK.out _ _ hbm ?_
  clear hK K
  refine reg_take (i := 46) (d := some 61) (v := ?_) rfl rfl (by kernel_rfl) (by kernel_rfl) (by kernel_rfl) (fun _ _ _ h => h) (Or.inl ⟨by rfl, ?_⟩) ?_
  rotate_left
  · intro w' hx; (go_simp <;> with_reducible rfl)
  simp only [Act.put, List.setIfInBounds_toArray, List.set_cons_zero, List.set_cons_succ]
  refine reg_take (i := 47) (d := some 62) (v := ?_) rfl rfl (by kernel_rfl) (by kernel_rfl) (by kernel_rfl) (fun _ _ _ h => h) (Or.inl ⟨by rfl, ?_⟩) ?_
  rotate_left
  · intro w' hx; (go_simp <;> with_reducible rfl)
  simp only [Act.put, List.setIfInBounds_toArray, List.set_cons_zero, List.set_cons_succ]
  refine reg_take (i := 48) (d := some 63) (v := ?_) rfl rfl (by kernel_rfl) (by kernel_rfl) (by kernel_rfl) (fun _ _ _ h => h) (Or.inl ⟨by rfl, ?_⟩) ?_
  rotate_left
  · intro w' hx; (go_simp <;> with_reducible rfl)
  simp only [Act.put, List.setIfInBounds_toArray, List.set_cons_zero, List.set_cons_succ]
  refine reg_take (i := 49) (d := some 64) (v := ?_) rfl rfl (by kernel_rfl) (by kernel_rfl) (by kernel_rfl) (fun _ _ _ h => h) (Or.inl ⟨by rfl, ?_⟩) ?_
  rotate_left
  · intro w' hx; (go_simp <;> with_reducible rfl)
  simp only [Act.put, List.setIfInBounds_toArray, List.set_cons_zero, List.set_cons_succ]
  refine reg_take (i := 50) (d := some 65) (v := ?_) rfl rfl (by kernel_rfl) (by kernel_rfl) (by kernel_rfl) (fun _ _ _ h => h) (Or.inl ⟨by rfl, ?_⟩) ?_
  rotate_left
  · intro w' hx; (go_simp <;> with_reducible rfl)
  simp only [Act.put, List.setIfInBounds_toArray, List.set_cons_zero, List.set_cons_succ]
  refine reg_take (i := 51) (d := some 66) (v := ?_) rfl rfl (by kernel_rfl) (by kernel_rfl) (by kernel_rfl) (fun _ _ _ h => h) (Or.inl ⟨by rfl, ?_⟩) ?_
  rotate_left
  · intro w' hx; (go_simp <;> with_reducible rfl)
  simp only [Act.put, List.setIfInBounds_toArray, List.set_cons_zero, List.set_cons_succ]
  refine reg_take (i := 52) (d := some 67) (v := ?_) rfl rfl (by kernel_rfl) (by kernel_rfl) (by kernel_rfl) (fun _ _ _ h => h) (Or.inl ⟨by rfl, ?_⟩) ?_
  rotate_left
  · intro w' hx; (go_simp <;> with_reducible rfl)
  simp only [Act.put, List.setIfInBounds_toArray, List.set_cons_zero, List.set_cons_succ]
  refine reg_one 53 _ (by kernel_rfl) rfl ?_
  intro K hK
  go_simp
  go_wp2_with (go_at_call 59; (with_reducible refine (H14.out _ hb).mono ?_); rintro e wm ⟨rfl, hbm⟩; replace hb := hb.trans (hbm.mono hb.size))
  refine hK.out _ _ hbm ?_
  clear hK K
  refine reg_take (i := 54) (d := some 69) (v := ?_) rfl rfl (by kernel_rfl) (by kernel_rfl) (by kernel_rfl) (fun _ _ _ h => h) (Or.inl ⟨by rfl, ?_⟩) ?_
  rotate_left
  · intro w' hx; (go_simp <;> with_reducible rfl)
  simp only [Act.put, List.setIfInBounds_toArray, List.set_cons_zero, List.set_cons_succ]
  refine reg_take (i := 55) (d := some 70) (v := ?_) rfl rfl (by kernel_rfl) (by kernel_rfl) (by kernel_rfl) (fun _ _ _ h => h) (Or.inl ⟨by rfl, ?_⟩) ?_
  rotate_left
  · intro w' hx; (go_simp <;> with_reducible rfl)
  simp only [Act.put, List.setIfInBounds_toArray, List.set_cons_zero, List.set_cons_succ]
  refine reg_take (i := 56) (d := some 71) (v := ?_) rfl rfl (by kernel_rfl) (by kernel_rfl) (by kernel_rfl) (fun _ _ _ h => h) (Or.inl ⟨by rfl, ?_⟩) ?_
  rotate_left
  · intro w' hx; (go_simp <;> with_reducible rfl)
  simp only [Act.put, List.setIfInBounds_toArray, List.set_cons_zero, List.set_cons_succ]
  refine reg_take (i := 57) (d := some 72) (v := ?_) rfl rfl (by kernel_rfl) (by kernel_rfl) (by kernel_rfl) (fun _ _ _ h => h) (Or.inl ⟨by rfl, ?_⟩) ?_
  rotate_left
  · intro w' hx; (go_simp <;> with_reducible rfl)
  simp only [Act.put, List.setIfInBounds_toArray, List.set_cons_zero, List.set_cons_succ]
  refine reg_take (i := 58) (d := some 73) (v := ?_) rfl rfl (by kernel_rfl) (by kernel_rfl) (by kernel_rfl) (fun _ _ _ h => h) (Or.inl ⟨by rfl, ?_⟩) ?_
  rotate_left
  · intro w' hx; (go_simp <;> with_reducible rfl)
  simp only [Act.put, List.setIfInBounds_toArray, List.set_cons_zero, List.set_cons_succ]
  refine reg_take (i := 59) (d := some 74) (v := ?_) rfl rfl (by kernel_rfl) (by kernel_rfl) (by kernel_rfl) (fun _ _ _ h => h) (Or.inl ⟨by rfl, ?_⟩) ?_
  rotate_left
  · intro w' hx; (go_simp <;> with_reducible rfl)
  simp only [Act.put, List.setIfInBounds_toArray, List.set_cons_zero, List.set_cons_succ]
  refine reg_take (i := 60) (d := some 75) (v := ?_) rfl rfl (by kernel_rfl) (by kernel_rfl) (by kernel_rfl) (fun _ _ _ h => h) (Or.inl ⟨by rfl, ?_⟩) ?_
  rotate_left
  · intro w' hx; (go_simp <;> with_reducible rfl)
  simp only [Act.put, List.setIfInBounds_toArray, List.set_cons_zero, List.set_cons_succ]
  refine reg_one 61 _ (by kernel_rfl) rfl ?_
  intro K hK
  go_simp
  go_wp2_with (go_at_call 59; (with_reducible refine (H12.out _ hb).mono ?_); rintro e wm ⟨rfl, hbm⟩; replace hb := hb.trans (hbm.mono hb.size))
  refine hK.out _ _ hbm ?_
  clear hK K
  refine reg_take (i := 62) (d := some 77) (v := ?_) rfl rfl (by kernel_rfl) (by kernel_rfl) (by kernel_rfl) (fun _ _ _ h => h) (Or.inl ⟨by rfl, ?_⟩) ?_
  rotate_left
  · intro w' hx; (go_simp <;> with_reducible rfl)
  simp only [Act.put, List.setIfInBounds_toArray, List.set_cons_zero, List.set_cons_succ]
  refine reg_take (i := 63) (d := some 78) (v := ?_) rfl rfl (by kernel_rfl) (by kernel_rfl) (by kernel_rfl) (fun _ _ _ h => h) (Or.inl ⟨by rfl, ?_⟩) ?_
  rotate_left
  · intro w' hx; (go_simp <;> with_reducible rfl)
  simp only [Act.put, List.setIfInBounds_toArray, List.set_cons_zero, List.set_cons_succ]
  refine wpAnyH_done (by kernel_rfl) ?_ _
  go_wp2
  go_ret2
  rw [HT.out.1, HT.out.2]
  exact ⟨rfl, hb⟩

end Go.Proofs.YthkaeimpflggjaaDoor

/- The document's Right of segments, where the front is right: the loop. -/
namespace Go.Proofs.YthkaeimpflggjaaDoor
open Go.RowKit
set_option linter.unusedVariables false

set_option maxRecDepth 100000 in
set_option maxHeartbeats 8000000 in
theorem rright9_loop (A : Option Addr) (n c : Nat) (zs : List Int) (w : World) (hr : Row w A n (cellsOf .u8 zs)) (hB : Bytes zs) (hn : n ≤ 1000000) (hc : n ≤ c) (hf : (sFront zs && sCnt0 zs) = true) (hTo : sTold zs = true) (hz : n2at zs (14 + 2 * sN zs) = 0) (he : n2at zs (12 + 2 * sN zs) = 65535) :
    Calls Tryd.prog 38 #[.slice A n c] w (Ret w (.tuple #[.int .i64 (sRV zs), .bool (sRight zs)])) := by
  have HAll : Hid (∀ (i : Nat) (a : Int), a = i → i ≤ 100000000 → ∀ W, Below w.heap.size w W → Calls Tryd.prog 59 #[.slice A n c, .int .i64 a] W (Ret W (.int .i64 (n2at zs i)))) := fun i a ha hi W hW => rat9_any A n c zs a i W (hr.below hW) hB (by omega) ha (by omega)
  have H0 := Lib.hid (HAll.out 0 0 rfl (by omega))
  have H2 := Lib.hid (HAll.out 2 2 rfl (by omega))
  have H6 := Lib.hid (HAll.out 6 6 rfl (by omega))
  have k0 := n2at_lt hB 0
  have k2 := n2at_lt hB 2
  have k6 := n2at_lt hB 6
  have hl := hr.len
  have hfs := hf
  unfold sFront sCnt0 at hfs
  simp only [Bool.and_eq_true, decide_eq_true_eq] at hfs
  rw [hl] at hfs
  obtain ⟨⟨⟨⟨f0, f1⟩, f2⟩, f3⟩, ⟨g1, g2⟩, g3⟩ := hfs
  have hsN : n2at zs 6 / 2 = (sN zs : Int) := by unfold sN; omega
  have HRt : Hid (sRight zs = (sTold zs && (sOkK zs (sN zs) (sN zs) && sEnd zs (sN zs)))) := by
    show _ = _
    rw [Bool.and_eq_true] at hf
    unfold sRight sCnt
    rw [hf.1, hf.2]
    rfl
  have HV : Hid (sRV zs = if sRight zs then (sN zs : Int) else 0) := rfl
  rw [hsN] at g2 g3
  generalize hN : sN zs = N at *
  have HSS := Lib.hid (srB_same hB (by omega) (n := N) (by omega) (by omega))
  have HTd : Hid (sTold zs = decide ([n2at zs 8, n2at zs 10, n2at zs 12] = srL N)) := by show _ = _; unfold sTold; rw [hN]
  rw [← HTd.out] at HSS
  have HEd : Hid (sEnd zs N = (decide (n2at zs (12 + 2 * N) = 65535) && decide (n2at zs (14 + 2 * N) = 0))) := rfl
  have H14 := Lib.hid (HAll.out (14 + 2 * N) (14 + 2 * (N : Int)) (by omega) (by omega))
  have H12 := Lib.hid (HAll.out (12 + 2 * N) (12 + 2 * (N : Int)) (by omega) (by omega))
  have HSr := Lib.hid (fun W => rsearch9_any N W (by omega) (by omega))
  have k14 := n2at_lt hB (14 + 2 * N)
  have k12 := n2at_lt hB (12 + 2 * N)
  obtain ⟨fg, foff, rfl, hfg, _⟩ := hr.2 (by omega)
  have hp8 : Row w (some ⟨fg, foff + 8, none⟩) 6 (cellsOf .u8 ((zs.drop 8).take 6)) := by
    have h := (hr.drop 8).take (k := 6) (by omega)
    rw [cellsOf_drop, cellsOf_take] at h
    simpa only [Option.map_some, Addr.add_lit] using h
  have Hp8 := Lib.hid hp8
  have HB := Lib.hid hB
  have hb := Below.refl w.heap.size w
  clear hp8 hB hf hr
  generalize hS : n2at zs 2 = S at *
  have HSq := Lib.hid hS
  clear hS
  generalize n2at zs 0 = v0 at *
  generalize n2at zs 6 = t at *
  have c1 : (14 : Int) ≤ (c : Int) := by omega
  have c2 : (8 : Int) < (c : Int) := by omega
  have c8 : ¬ c = 8 := by omega
  have D1 : decide ((n : Int) < 24) = false := decide_eq_false (by omega)
  have D1' : decide (n < 24) = false := decide_eq_false (by omega)
  have B0 : (v0 != 4) = false := by simp [f0]
  have D2 : decide (S < 24) = false := decide_eq_false (by omega)
  have D3 : decide ((n : Int) < S) = false := decide_eq_false (by omega)
  have D4 : decide (0 < S % 2) = false := decide_eq_false (by omega)
  have D5 : decide (0 < t % 2) = false := decide_eq_false (by omega)
  have B6 : ((N : Int) == 0) = false := by simp; omega
  have D7 : decide (S < 16 + 8 * (N : Int)) = false := decide_eq_false (by omega)
  have W1 : IntKind.i64.wrap (8 * (N : Int)) = 8 * (N : Int) := IntWalk.i64_in _ (by omega)
  have W2 : IntKind.i64.wrap (16 + 8 * (N : Int)) = 16 + 8 * (N : Int) := IntWalk.i64_in _ (by omega)
  have W3 : IntKind.i64.wrap (2 * (N : Int)) = 2 * (N : Int) := IntWalk.i64_in _ (by omega)
  have W4 : IntKind.i64.wrap (14 + 2 * (N : Int)) = 14 + 2 * (N : Int) := IntWalk.i64_in _ (by omega)
  have W5 : IntKind.i64.wrap (12 + 2 * (N : Int)) = 12 + 2 * (N : Int) := IntWalk.i64_in _ (by omega)
  have m1 : S.tmod 2 = S % 2 := Int.tmod_eq_emod_of_nonneg (by omega)
  have m2 : t.tmod 2 = t % 2 := Int.tmod_eq_emod_of_nonneg (by omega)
  go_enter Tryd.func38, Tryd.ntmps38
  go_upto_region 3 with (go_at_call 59; (first | (with_reducible refine (H2.out _ hb).mono ?_) | (with_reducible refine (H6.out _ hb).mono ?_)); rintro e wn ⟨rfl, hbn⟩; replace hb := hb.trans (hbn.mono hb.size); clear hbn)
  rw [hsN]
  replace hb := hb.drew
  clear f0
  rw [hTo] at HSS HRt
  have bz : (n2at zs (14 + 2 * N) != 0) = false := by simp [hz]
  have be : (n2at zs (12 + 2 * N) != 65535) = false := by simp [he]
  have HR : Hid (sRight zs = sOkK zs N N) := by show _ = _; rw [HRt.out, HEd.out, decide_eq_true hz, decide_eq_true he]; simp
  clear HRt HEd HTd hTo hz he
  generalize n2at zs (14 + 2 * N) = zz at *
  generalize n2at zs (12 + 2 * N) = ee at *
  generalize sRV zs = V at *
  generalize sRight zs = R at *
  refine reg_start (by kernel_rfl) ?_
  refine reg_take (i := 0) (d := some 15) (v := ?_) rfl rfl (by kernel_rfl) (by kernel_rfl) (by kernel_rfl) (fun _ _ _ h => h) (Or.inl ⟨by rfl, ?_⟩) ?_
  rotate_left
  · intro w' hx; (go_simp <;> with_reducible rfl)
  simp only [Act.put, List.setIfInBounds_toArray, List.set_cons_zero, List.set_cons_succ]
  refine reg_take (i := 1) (d := some 16) (v := ?_) rfl rfl (by kernel_rfl) (by kernel_rfl) (by kernel_rfl) (fun _ _ _ h => h) (Or.inl ⟨by rfl, ?_⟩) ?_
  rotate_left
  · intro w' hx; (go_simp <;> with_reducible rfl)
  simp only [Act.put, List.setIfInBounds_toArray, List.set_cons_zero, List.set_cons_succ]
  refine reg_take (i := 2) (d := some 17) (v := ?_) rfl rfl (by kernel_rfl) (by kernel_rfl) (by kernel_rfl) (fun _ _ _ h => h) (Or.inl ⟨by rfl, ?_⟩) ?_
  rotate_left
  · intro w' hx; (go_simp <;> with_reducible rfl)
  simp only [Act.put, List.setIfInBounds_toArray, List.set_cons_zero, List.set_cons_succ]
  refine reg_take (i := 3) (d := some 18) (v := ?_) rfl rfl (by kernel_rfl) (by kernel_rfl) (by kernel_rfl) (fun _ _ _ h => h) (Or.inl ⟨by rfl, ?_⟩) ?_
  rotate_left
  · intro w' hx; (go_simp <;> with_reducible rfl)
  simp only [Act.put, List.setIfInBounds_toArray, List.set_cons_zero, List.set_cons_succ]
  refine reg_take (i := 4) (d := some 19) (v := ?_) rfl rfl (by kernel_rfl) (by kernel_rfl) (by kernel_rfl) (fun _ _ _ h => h) (Or.inl ⟨by rfl, ?_⟩) ?_
  rotate_left
  · intro w' hx; (go_simp <;> with_reducible rfl)
  simp only [Act.put, List.setIfInBounds_toArray, List.set_cons_zero, List.set_cons_succ]
  refine reg_one 5 _ (by kernel_rfl) rfl ?_
  intro K hK
  go_simp
  go_wp2_with (go_at_call 59; (with_reducible refine (H0.out _ hb).mono ?_); rintro e wm ⟨rfl, hbm⟩; replace hb := hb.trans (hbm.mono hb.size))
  refine hK.out _ _ hbm ?_
  clear hK K
  refine reg_take (i := 6) (d := some 21) (v := ?_) rfl rfl (by kernel_rfl) (by kernel_rfl) (by kernel_rfl) (fun _ _ _ h => h) (Or.inl ⟨by rfl, ?_⟩) ?_
  rotate_left
  · intro w' hx; (go_simp <;> with_reducible rfl)
  simp only [Act.put, List.setIfInBounds_toArray, List.set_cons_zero, List.set_cons_succ]
  refine reg_take (i := 7) (d := some 22) (v := ?_) rfl rfl (by kernel_rfl) (by kernel_rfl) (by kernel_rfl) (fun _ _ _ h => h) (Or.inl ⟨by rfl, ?_⟩) ?_
  rotate_left
  · intro w' hx; (go_simp <;> with_reducible rfl)
  simp only [Act.put, List.setIfInBounds_toArray, List.set_cons_zero, List.set_cons_succ]
  refine reg_take (i := 8) (d := some 23) (v := ?_) rfl rfl (by kernel_rfl) (by kernel_rfl) (by kernel_rfl) (fun _ _ _ h => h) (Or.inl ⟨by rfl, ?_⟩) ?_
  rotate_left
  · intro w' hx; (go_simp <;> with_reducible rfl)
  simp only [Act.put, List.setIfInBounds_toArray, List.set_cons_zero, List.set_cons_succ]
  refine reg_take (i := 9) (d := some 24) (v := ?_) rfl rfl (by kernel_rfl) (by kernel_rfl) (by kernel_rfl) (fun _ _ _ h => h) (Or.inl ⟨by rfl, ?_⟩) ?_
  rotate_left
  · intro w' hx; (go_simp <;> with_reducible rfl)
  simp only [Act.put, List.setIfInBounds_toArray, List.set_cons_zero, List.set_cons_succ]
  refine reg_take (i := 10) (d := some 25) (v := ?_) rfl rfl (by kernel_rfl) (by kernel_rfl) (by kernel_rfl) (fun _ _ _ h => h) (Or.inl ⟨by rfl, ?_⟩) ?_
  rotate_left
  · intro w' hx; (go_simp <;> with_reducible rfl)
  simp only [Act.put, List.setIfInBounds_toArray, List.set_cons_zero, List.set_cons_succ]
  refine reg_take (i := 11) (d := some 26) (v := ?_) rfl rfl (by kernel_rfl) (by kernel_rfl) (by kernel_rfl) (fun _ _ _ h => h) (Or.inl ⟨by rfl, ?_⟩) ?_
  rotate_left
  · intro w' hx; (go_simp <;> with_reducible rfl)
  simp only [Act.put, List.setIfInBounds_toArray, List.set_cons_zero, List.set_cons_succ]
  refine reg_take (i := 12) (d := some 27) (v := ?_) rfl rfl (by kernel_rfl) (by kernel_rfl) (by kernel_rfl) (fun _ _ _ h => h) (Or.inl ⟨by rfl, ?_⟩) ?_
  rotate_left
  · intro w' hx; (go_simp <;> with_reducible rfl)
  simp only [Act.put, List.setIfInBounds_toArray, List.set_cons_zero, List.set_cons_succ]
  refine reg_take (i := 13) (d := some 28) (v := ?_) rfl rfl (by kernel_rfl) (by kernel_rfl) (by kernel_rfl) (fun _ _ _ h => h) (Or.inl ⟨by rfl, ?_⟩) ?_
  rotate_left
  · intro w' hx; (go_simp <;> with_reducible rfl)
  simp only [Act.put, List.setIfInBounds_toArray, List.set_cons_zero, List.set_cons_succ]
  refine reg_take (i := 14) (d := some 29) (v := ?_) rfl rfl (by kernel_rfl) (by kernel_rfl) (by kernel_rfl) (fun _ _ _ h => h) (Or.inl ⟨by rfl, ?_⟩) ?_
  rotate_left
  · intro w' hx; (go_simp <;> with_reducible rfl)
  simp only [Act.put, List.setIfInBounds_toArray, List.set_cons_zero, List.set_cons_succ]
  refine reg_take (i := 15) (d := some 30) (v := ?_) rfl rfl (by kernel_rfl) (by kernel_rfl) (by kernel_rfl) (fun _ _ _ h => h) (Or.inl ⟨by rfl, ?_⟩) ?_
  rotate_left
  · intro w' hx; (go_simp <;> with_reducible rfl)
  simp only [Act.put, List.setIfInBounds_toArray, List.set_cons_zero, List.set_cons_succ]
  refine reg_take (i := 16) (d := some 31) (v := ?_) rfl rfl (by kernel_rfl) (by kernel_rfl) (by kernel_rfl) (fun _ _ _ h => h) (Or.inl ⟨by rfl, ?_⟩) ?_
  rotate_left
  · intro w' hx; (go_simp <;> with_reducible rfl)
  simp only [Act.put, List.setIfInBounds_toArray, List.set_cons_zero, List.set_cons_succ]
  refine reg_take (i := 17) (d := some 32) (v := ?_) rfl rfl (by kernel_rfl) (by kernel_rfl) (by kernel_rfl) (fun _ _ _ h => h) (Or.inl ⟨by rfl, ?_⟩) ?_
  rotate_left
  · intro w' hx; (go_simp <;> with_reducible rfl)
  simp only [Act.put, List.setIfInBounds_toArray, List.set_cons_zero, List.set_cons_succ]
  refine reg_take (i := 18) (d := some 33) (v := ?_) rfl rfl (by kernel_rfl) (by kernel_rfl) (by kernel_rfl) (fun _ _ _ h => h) (Or.inl ⟨by rfl, ?_⟩) ?_
  rotate_left
  · intro w' hx; (go_simp <;> with_reducible rfl)
  simp only [Act.put, List.setIfInBounds_toArray, List.set_cons_zero, List.set_cons_succ]
  refine reg_take (i := 19) (d := some 34) (v := ?_) rfl rfl (by kernel_rfl) (by kernel_rfl) (by kernel_rfl) (fun _ _ _ h => h) (Or.inl ⟨by rfl, ?_⟩) ?_
  rotate_left
  · intro w' hx; (go_simp <;> with_reducible rfl)
  simp only [Act.put, List.setIfInBounds_toArray, List.set_cons_zero, List.set_cons_succ]
  refine reg_take (i := 20) (d := some 35) (v := ?_) rfl rfl (by kernel_rfl) (by kernel_rfl) (by kernel_rfl) (fun _ _ _ h => h) (Or.inl ⟨by rfl, ?_⟩) ?_
  rotate_left
  · intro w' hx; (go_simp <;> with_reducible rfl)
  simp only [Act.put, List.setIfInBounds_toArray, List.set_cons_zero, List.set_cons_succ]
  refine reg_take (i := 21) (d := some 36) (v := ?_) rfl rfl (by kernel_rfl) (by kernel_rfl) (by kernel_rfl) (fun _ _ _ h => h) (Or.inl ⟨by rfl, ?_⟩) ?_
  rotate_left
  · intro w' hx; (go_simp <;> with_reducible rfl)
  simp only [Act.put, List.setIfInBounds_toArray, List.set_cons_zero, List.set_cons_succ]
  refine reg_take (i := 22) (d := some 37) (v := ?_) rfl rfl (by kernel_rfl) (by kernel_rfl) (by kernel_rfl) (fun _ _ _ h => h) (Or.inl ⟨by rfl, ?_⟩) ?_
  rotate_left
  · intro w' hx; (go_simp <;> with_reducible rfl)
  simp only [Act.put, List.setIfInBounds_toArray, List.set_cons_zero, List.set_cons_succ]
  refine reg_take (i := 23) (d := some 38) (v := ?_) rfl rfl (by kernel_rfl) (by kernel_rfl) (by kernel_rfl) (fun _ _ _ h => h) (Or.inl ⟨by rfl, ?_⟩) ?_
  rotate_left
  · intro w' hx; (go_simp <;> with_reducible rfl)
  simp only [Act.put, List.setIfInBounds_toArray, List.set_cons_zero, List.set_cons_succ]
  refine reg_take (i := 24) (d := some 39) (v := ?_) rfl rfl (by kernel_rfl) (by kernel_rfl) (by kernel_rfl) (fun _ _ _ h => h) (Or.inl ⟨by rfl, ?_⟩) ?_
  rotate_left
  · intro w' hx; (go_simp <;> with_reducible rfl)
  simp only [Act.put, List.setIfInBounds_toArray, List.set_cons_zero, List.set_cons_succ]
  refine reg_one 25 _ (by kernel_rfl) rfl ?_
  intro K hK
  go_simp
  go_wp2_with (go_at_call 59; (with_reducible refine (H6.out _ hb).mono ?_); rintro e wm ⟨rfl, hbm⟩; replace hb := hb.trans (hbm.mono hb.size))
  refine hK.out _ _ hbm ?_
  clear hK K
  refine reg_take (i := 26) (d := some 41) (v := ?_) rfl rfl (by kernel_rfl) (by kernel_rfl) (by kernel_rfl) (fun _ _ _ h => h) (Or.inl ⟨by rfl, ?_⟩) ?_
  rotate_left
  · intro w' hx; (go_simp <;> with_reducible rfl)
  simp only [Act.put, List.setIfInBounds_toArray, List.set_cons_zero, List.set_cons_succ]
  refine reg_take (i := 27) (d := some 42) (v := ?_) rfl rfl (by kernel_rfl) (by kernel_rfl) (by kernel_rfl) (fun _ _ _ h => h) (Or.inl ⟨by rfl, ?_⟩) ?_
  rotate_left
  · intro w' hx; (go_simp <;> with_reducible rfl)
  simp only [Act.put, List.setIfInBounds_toArray, List.set_cons_zero, List.set_cons_succ]
  refine reg_take (i := 28) (d := some 43) (v := ?_) rfl rfl (by kernel_rfl) (by kernel_rfl) (by kernel_rfl) (fun _ _ _ h => h) (Or.inl ⟨by rfl, ?_⟩) ?_
  rotate_left
  · intro w' hx; (go_simp <;> with_reducible rfl)
  simp only [Act.put, List.setIfInBounds_toArray, List.set_cons_zero, List.set_cons_succ]
  refine reg_take (i := 29) (d := some 44) (v := ?_) rfl rfl (by kernel_rfl) (by kernel_rfl) (by kernel_rfl) (fun _ _ _ h => h) (Or.inl ⟨by rfl, ?_⟩) ?_
  rotate_left
  · intro w' hx; (go_simp <;> with_reducible rfl)
  simp only [Act.put, List.setIfInBounds_toArray, List.set_cons_zero, List.set_cons_succ]
  refine reg_take (i := 30) (d := some 45) (v := ?_) rfl rfl (by kernel_rfl) (by kernel_rfl) (by kernel_rfl) (fun _ _ _ h => h) (Or.inl ⟨by rfl, ?_⟩) ?_
  rotate_left
  · intro w' hx; (go_simp <;> with_reducible rfl)
  simp only [Act.put, List.setIfInBounds_toArray, List.set_cons_zero, List.set_cons_succ]
  refine reg_take (i := 31) (d := some 46) (v := ?_) rfl rfl (by kernel_rfl) (by kernel_rfl) (by kernel_rfl) (fun _ _ _ h => h) (Or.inl ⟨by rfl, ?_⟩) ?_
  rotate_left
  · intro w' hx; (go_simp <;> with_reducible rfl)
  simp only [Act.put, List.setIfInBounds_toArray, List.set_cons_zero, List.set_cons_succ]
  refine reg_take (i := 32) (d := some 47) (v := ?_) rfl rfl (by kernel_rfl) (by kernel_rfl) (by kernel_rfl) (fun _ _ _ h => h) (Or.inl ⟨by rfl, ?_⟩) ?_
  rotate_left
  · intro w' hx; (go_simp <;> with_reducible rfl)
  simp only [Act.put, List.setIfInBounds_toArray, List.set_cons_zero, List.set_cons_succ]
  refine reg_take (i := 33) (d := some 48) (v := ?_) rfl rfl (by kernel_rfl) (by kernel_rfl) (by kernel_rfl) (fun _ _ _ h => h) (Or.inl ⟨by rfl, ?_⟩) ?_
  rotate_left
  · intro w' hx; (go_simp <;> with_reducible rfl)
  simp only [Act.put, List.setIfInBounds_toArray, List.set_cons_zero, List.set_cons_succ]
  refine reg_take (i := 34) (d := some 49) (v := ?_) rfl rfl (by kernel_rfl) (by kernel_rfl) (by kernel_rfl) (fun _ _ _ h => h) (Or.inl ⟨by rfl, ?_⟩) ?_
  rotate_left
  · intro w' hx; (go_simp <;> with_reducible rfl)
  simp only [Act.put, List.setIfInBounds_toArray, List.set_cons_zero, List.set_cons_succ]
  refine reg_take (i := 35) (d := some 50) (v := ?_) rfl rfl (by kernel_rfl) (by kernel_rfl) (by kernel_rfl) (fun _ _ _ h => h) (Or.inl ⟨by rfl, ?_⟩) ?_
  rotate_left
  · intro w' hx; (go_simp <;> with_reducible rfl)
  simp only [Act.put, List.setIfInBounds_toArray, List.set_cons_zero, List.set_cons_succ]
  refine reg_take (i := 36) (d := some 51) (v := ?_) rfl rfl (by kernel_rfl) (by kernel_rfl) (by kernel_rfl) (fun _ _ _ h => h) (Or.inl ⟨by rfl, ?_⟩) ?_
  rotate_left
  · intro w' hx; (go_simp <;> with_reducible rfl)
  simp only [Act.put, List.setIfInBounds_toArray, List.set_cons_zero, List.set_cons_succ]
  refine reg_take (i := 37) (d := some 52) (v := ?_) rfl rfl (by kernel_rfl) (by kernel_rfl) (by kernel_rfl) (fun _ _ _ h => h) (Or.inl ⟨by rfl, ?_⟩) ?_
  rotate_left
  · intro w' hx; (go_simp <;> with_reducible rfl)
  simp only [Act.put, List.setIfInBounds_toArray, List.set_cons_zero, List.set_cons_succ]
  refine reg_take (i := 38) (d := some 53) (v := ?_) rfl rfl (by kernel_rfl) (by kernel_rfl) (by kernel_rfl) (fun _ _ _ h => h) (Or.inl ⟨by rfl, ?_⟩) ?_
  rotate_left
  · intro w' hx; (go_simp <;> with_reducible rfl)
  simp only [Act.put, List.setIfInBounds_toArray, List.set_cons_zero, List.set_cons_succ]
  refine reg_take (i := 39) (d := some 54) (v := ?_) rfl rfl (by kernel_rfl) (by kernel_rfl) (by kernel_rfl) (fun _ _ _ h => h) (Or.inl ⟨by rfl, ?_⟩) ?_
  rotate_left
  · intro w' hx; (go_simp <;> with_reducible rfl)
  simp only [Act.put, List.setIfInBounds_toArray, List.set_cons_zero, List.set_cons_succ]
  refine reg_take (i := 40) (d := some 55) (v := ?_) rfl rfl (by kernel_rfl) (by kernel_rfl) (by kernel_rfl) (fun _ _ _ h => h) (Or.inl ⟨by rfl, ?_⟩) ?_
  rotate_left
  · intro w' hx; (go_simp <;> with_reducible rfl)
  simp only [Act.put, List.setIfInBounds_toArray, List.set_cons_zero, List.set_cons_succ]
  refine reg_take (i := 41) (d := some 56) (v := ?_) rfl rfl (by kernel_rfl) (by kernel_rfl) (by kernel_rfl) (fun _ _ _ h => h) (Or.inl ⟨by rfl, ?_⟩) ?_
  rotate_left
  · intro w' hx; (go_simp <;> with_reducible rfl)
  simp only [Act.put, List.setIfInBounds_toArray, List.set_cons_zero, List.set_cons_succ]
  refine reg_take (i := 42) (d := some 57) (v := ?_) rfl rfl (by kernel_rfl) (by kernel_rfl) (by kernel_rfl) (fun _ _ _ h => h) (Or.inl ⟨by rfl, ?_⟩) ?_
  rotate_left
  · intro w' hx; (go_simp <;> with_reducible rfl)
  simp only [Act.put, List.setIfInBounds_toArray, List.set_cons_zero, List.set_cons_succ]
  refine reg_take (i := 43) (d := some 58) (v := ?_) rfl rfl (by kernel_rfl) (by kernel_rfl) (by kernel_rfl) (fun _ _ _ h => h) (Or.inl ⟨by rfl, ?_⟩) ?_
  rotate_left
  · intro w' hx; (go_simp <;> with_reducible rfl)
  simp only [Act.put, List.setIfInBounds_toArray, List.set_cons_zero, List.set_cons_succ]
  refine reg_one 44 _ (by kernel_rfl) rfl ?_
  intro K hK
  go_simp
  go_wp2_with (go_at_call 53; (with_reducible refine (HSr.out _).mono ?_); rintro e ws ⟨A2, n2, c2', rfl, o, hbm⟩; replace hb := hb.trans (hbm.mono hb.size); have hj := o.row; have hjl := hj.len; rw [srB_len] at hjl; subst hjl; clear o)
  refine hK.out _ _ hbm ?_
  clear hK K
  refine reg_one 45 _ (by kernel_rfl) rfl ?_
  intro K hK
  go_simp
  go_wp2_with (go_at_call 12; refine (same_any _ _ _ _ _ _ _ _ _ (Hp8.out.below hb) hj (by omega) (by omega)).mono ?_; rintro e wm ⟨rfl, q, hw⟩; rw [HSS.out]; have hbm : Ext ws wm := (by rw [hw]; exact below_drewN (Below.refl _ _) q); replace hb := hb.trans (Below.mono hbm hb.size); clear hw hj)
  refine hK.out _ _ hbm ?_
  clear hK K
  refine reg_take (i := 46) (d := some 61) (v := ?_) rfl rfl (by kernel_rfl) (by kernel_rfl) (by kernel_rfl) (fun _ _ _ h => h) (Or.inl ⟨by rfl, ?_⟩) ?_
  rotate_left
  · intro w' hx; (go_simp <;> with_reducible rfl)
  simp only [Act.put, List.setIfInBounds_toArray, List.set_cons_zero, List.set_cons_succ]
  refine reg_take (i := 47) (d := some 62) (v := ?_) rfl rfl (by kernel_rfl) (by kernel_rfl) (by kernel_rfl) (fun _ _ _ h => h) (Or.inl ⟨by rfl, ?_⟩) ?_
  rotate_left
  · intro w' hx; (go_simp <;> with_reducible rfl)
  simp only [Act.put, List.setIfInBounds_toArray, List.set_cons_zero, List.set_cons_succ]
  refine reg_take (i := 48) (d := some 63) (v := ?_) rfl rfl (by kernel_rfl) (by kernel_rfl) (by kernel_rfl) (fun _ _ _ h => h) (Or.inl ⟨by rfl, ?_⟩) ?_
  rotate_left
  · intro w' hx; (go_simp <;> with_reducible rfl)
  simp only [Act.put, List.setIfInBounds_toArray, List.set_cons_zero, List.set_cons_succ]
  refine reg_take (i := 49) (d := some 64) (v := ?_) rfl rfl (by kernel_rfl) (by kernel_rfl) (by kernel_rfl) (fun _ _ _ h => h) (Or.inl ⟨by rfl, ?_⟩) ?_
  rotate_left
  · intro w' hx; (go_simp <;> with_reducible rfl)
  simp only [Act.put, List.setIfInBounds_toArray, List.set_cons_zero, List.set_cons_succ]
  refine reg_take (i := 50) (d := some 65) (v := ?_) rfl rfl (by kernel_rfl) (by kernel_rfl) (by kernel_rfl) (fun _ _ _ h => h) (Or.inl ⟨by rfl, ?_⟩) ?_
  rotate_left
  · intro w' hx; (go_simp <;> with_reducible rfl)
  simp only [Act.put, List.setIfInBounds_toArray, List.set_cons_zero, List.set_cons_succ]
  refine reg_take (i := 51) (d := some 66) (v := ?_) rfl rfl (by kernel_rfl) (by kernel_rfl) (by kernel_rfl) (fun _ _ _ h => h) (Or.inl ⟨by rfl, ?_⟩) ?_
  rotate_left
  · intro w' hx; (go_simp <;> with_reducible rfl)
  simp only [Act.put, List.setIfInBounds_toArray, List.set_cons_zero, List.set_cons_succ]
  refine reg_take (i := 52) (d := some 67) (v := ?_) rfl rfl (by kernel_rfl) (by kernel_rfl) (by kernel_rfl) (fun _ _ _ h => h) (Or.inl ⟨by rfl, ?_⟩) ?_
  rotate_left
  · intro w' hx; (go_simp <;> with_reducible rfl)
  simp only [Act.put, List.setIfInBounds_toArray, List.set_cons_zero, List.set_cons_succ]
  refine reg_one 53 _ (by kernel_rfl) rfl ?_
  intro K hK
  go_simp
  go_wp2_with (go_at_call 59; (with_reducible refine (H14.out _ hb).mono ?_); rintro e wm ⟨rfl, hbm⟩; replace hb := hb.trans (hbm.mono hb.size))
  refine hK.out _ _ hbm ?_
  clear hK K
  refine reg_take (i := 54) (d := some 69) (v := ?_) rfl rfl (by kernel_rfl) (by kernel_rfl) (by kernel_rfl) (fun _ _ _ h => h) (Or.inl ⟨by rfl, ?_⟩) ?_
  rotate_left
  · intro w' hx; (go_simp <;> with_reducible rfl)
  simp only [Act.put, List.setIfInBounds_toArray, List.set_cons_zero, List.set_cons_succ]
  refine reg_take (i := 55) (d := some 70) (v := ?_) rfl rfl (by kernel_rfl) (by kernel_rfl) (by kernel_rfl) (fun _ _ _ h => h) (Or.inl ⟨by rfl, ?_⟩) ?_
  rotate_left
  · intro w' hx; (go_simp <;> with_reducible rfl)
  simp only [Act.put, List.setIfInBounds_toArray, List.set_cons_zero, List.set_cons_succ]
  refine reg_take (i := 56) (d := some 71) (v := ?_) rfl rfl (by kernel_rfl) (by kernel_rfl) (by kernel_rfl) (fun _ _ _ h => h) (Or.inl ⟨by rfl, ?_⟩) ?_
  rotate_left
  · intro w' hx; (go_simp <;> with_reducible rfl)
  simp only [Act.put, List.setIfInBounds_toArray, List.set_cons_zero, List.set_cons_succ]
  refine reg_take (i := 57) (d := some 72) (v := ?_) rfl rfl (by kernel_rfl) (by kernel_rfl) (by kernel_rfl) (fun _ _ _ h => h) (Or.inl ⟨by rfl, ?_⟩) ?_
  rotate_left
  · intro w' hx; (go_simp <;> with_reducible rfl)
  simp only [Act.put, List.setIfInBounds_toArray, List.set_cons_zero, List.set_cons_succ]
  refine reg_take (i := 58) (d := some 73) (v := ?_) rfl rfl (by kernel_rfl) (by kernel_rfl) (by kernel_rfl) (fun _ _ _ h => h) (Or.inl ⟨by rfl, ?_⟩) ?_
  rotate_left
  · intro w' hx; (go_simp <;> with_reducible rfl)
  simp only [Act.put, List.setIfInBounds_toArray, List.set_cons_zero, List.set_cons_succ]
  refine reg_take (i := 59) (d := some 74) (v := ?_) rfl rfl (by kernel_rfl) (by kernel_rfl) (by kernel_rfl) (fun _ _ _ h => h) (Or.inl ⟨by rfl, ?_⟩) ?_
  rotate_left
  · intro w' hx; (go_simp <;> with_reducible rfl)
  simp only [Act.put, List.setIfInBounds_toArray, List.set_cons_zero, List.set_cons_succ]
  refine reg_take (i := 60) (d := some 75) (v := ?_) rfl rfl (by kernel_rfl) (by kernel_rfl) (by kernel_rfl) (fun _ _ _ h => h) (Or.inl ⟨by rfl, ?_⟩) ?_
  rotate_left
  · intro w' hx; (go_simp <;> with_reducible rfl)
  simp only [Act.put, List.setIfInBounds_toArray, List.set_cons_zero, List.set_cons_succ]
  refine reg_one 61 _ (by kernel_rfl) rfl ?_
  intro K hK
  go_simp
  go_wp2_with (go_at_call 59; (with_reducible refine (H12.out _ hb).mono ?_); rintro e wm ⟨rfl, hbm⟩; replace hb := hb.trans (hbm.mono hb.size))
  refine hK.out _ _ hbm ?_
  clear hK K
  refine reg_take (i := 62) (d := some 77) (v := ?_) rfl rfl (by kernel_rfl) (by kernel_rfl) (by kernel_rfl) (fun _ _ _ h => h) (Or.inl ⟨by rfl, ?_⟩) ?_
  rotate_left
  · intro w' hx; (go_simp <;> with_reducible rfl)
  simp only [Act.put, List.setIfInBounds_toArray, List.set_cons_zero, List.set_cons_succ]
  refine reg_take (i := 63) (d := some 78) (v := ?_) rfl rfl (by kernel_rfl) (by kernel_rfl) (by kernel_rfl) (fun _ _ _ h => h) (Or.inl ⟨by rfl, ?_⟩) ?_
  rotate_left
  · intro w' hx; (go_simp <;> with_reducible rfl)
  simp only [Act.put, List.setIfInBounds_toArray, List.set_cons_zero, List.set_cons_succ]
  refine wpAnyH_done (by kernel_rfl) ?_ _
  clear HSS Hp8 H0 H6 H14 H12 HSr H2
  go_wp2
  go_loopw [6] (fun i wr => ∃ k : Nat, k ≤ N ∧ i = .int .i64 k ∧ Hid (sOkK zs N k = true) ∧ Below w.heap.size w wr) (fun i _ => N - (intOf i).toNat)
  case atStart => exact ⟨0, Nat.zero_le _, rfl, Lib.hid rfl, hb⟩
  case round =>
    clear hb
    obtain ⟨k, hk, rfl, hok, hb⟩ := hrel
    by_cases hlt : k < N
    · have hE := Lib.hid (HAll.out (14 + 2 * k) (14 + 2 * (k : Int)) (by omega) (by omega))
      have hSt := Lib.hid (HAll.out (16 + 2 * N + 2 * k) (16 + 2 * (N : Int) + 2 * (k : Int)) (by omega) (by omega))
      have hOf := Lib.hid (HAll.out (16 + 6 * N + 2 * k) (16 + 6 * (N : Int) + 2 * (k : Int)) (by omega) (by omega))
      have hPv := Lib.hid (HAll.out (12 + 2 * k) (12 + 2 * (k : Int)) (by omega) (by omega))
      have lE := n2at_lt HB.out (14 + 2 * k)
      have lS := n2at_lt HB.out (16 + 2 * N + 2 * k)
      have lO := n2at_lt HB.out (16 + 6 * N + 2 * k)
      have lP := n2at_lt HB.out (12 + 2 * k)
      have hgo : sOkAt zs N k = (decide ((if k = 0 then 0 else n2at zs (12 + 2 * k) + 1) ≤ n2at zs (16 + 2 * N + 2 * k)) && decide (n2at zs (16 + 2 * N + 2 * k) ≤ n2at zs (14 + 2 * k)) && (decide (n2at zs (16 + 6 * N + 2 * k) = 0) || (decide (n2at zs (16 + 6 * N + 2 * k) % 2 = 0) && decide (16 + 6 * (N : Int) + 2 * k + n2at zs (16 + 6 * N + 2 * k) + 2 * (n2at zs (14 + 2 * k) - n2at zs (16 + 2 * N + 2 * k)) + 2 ≤ n2at zs 2)))) := rfl
      rw [HSq.out] at hgo
      have HNO : Hid (sOkAt zs N k = false → V = 0 ∧ R = false) := fun h => by
        have := HR.out
        rw [sOkK_not hlt h] at this
        exact ⟨by rw [HV.out, this]; rfl, this⟩
      have HYES : Hid (sOkAt zs N k = true → sOkK zs N (k + 1) = true) := fun h => by rw [sOkK_succ, hok.out, h]; rfl
      clear HAll HR HV HSq HB hok
      generalize n2at zs (14 + 2 * k) = en at *
      generalize n2at zs (16 + 2 * N + 2 * k) = st at *
      generalize n2at zs (16 + 6 * N + 2 * k) = ofs at *
      generalize n2at zs (12 + 2 * k) = pv at *
      by_cases h1 : st ≤ en
      · by_cases h0 : k = 0
        · have h0' : ¬ 0 < k := by omega
          rw [if_pos h0] at hgo
          have HGO := Lib.hid hgo
          clear hgo h0
          by_cases h3 : 0 < ofs % 2
          · have m3 : decide (0 < ofs % 2) = true := decide_eq_true h3
            have HT := Lib.hid (HNO.out (by rw [HGO.out]; simp; omega))
            clear HNO HYES HGO
            go_wp2_with (go_at_call 59; (first | (with_reducible refine (hE.out _ hb).mono ?_) | (with_reducible refine (hSt.out _ hb).mono ?_) | (with_reducible refine (hOf.out _ hb).mono ?_) | (with_reducible refine (hPv.out _ hb).mono ?_)); rintro e wn ⟨rfl, hbn⟩; replace hb := hb.trans (hbn.mono hb.size); clear hbn)
            go_ret2
            rw [HT.out.1, HT.out.2]
            exact ⟨rfl, hb⟩
          · have m3 : decide (0 < ofs % 2) = false := decide_eq_false h3
            by_cases h4 : 0 < ofs
            · by_cases h5 : S < 16 + 6 * (N : Int) + 2 * (k : Int) + ofs + 2 * (en - st) + 2
              · skip
                have HT := Lib.hid (HNO.out (by rw [HGO.out]; simp; omega))
                clear HNO HYES HGO
                go_wp2_with (go_at_call 59; (first | (with_reducible refine (hE.out _ hb).mono ?_) | (with_reducible refine (hSt.out _ hb).mono ?_) | (with_reducible refine (hOf.out _ hb).mono ?_) | (with_reducible refine (hPv.out _ hb).mono ?_)); rintro e wn ⟨rfl, hbn⟩; replace hb := hb.trans (hbn.mono hb.size); clear hbn)
                go_ret2
                rw [HT.out.1, HT.out.2]
                exact ⟨rfl, hb⟩
              · skip
                have HT := Lib.hid (HYES.out (by rw [HGO.out]; simp; omega))
                clear HNO HYES HGO
                go_wp2_with (go_at_call 59; (first | (with_reducible refine (hE.out _ hb).mono ?_) | (with_reducible refine (hSt.out _ hb).mono ?_) | (with_reducible refine (hOf.out _ hb).mono ?_) | (with_reducible refine (hPv.out _ hb).mono ?_)); rintro e wn ⟨rfl, hbn⟩; replace hb := hb.trans (hbn.mono hb.size); clear hbn)
                go_roundw
                case rel => exact ⟨k + 1, by omega, by go_num, HT, hb⟩
                case measure => simp [intOf]; omega
            · skip
              have HT := Lib.hid (HYES.out (by rw [HGO.out]; simp; omega))
              clear HNO HYES HGO
              go_wp2_with (go_at_call 59; (first | (with_reducible refine (hE.out _ hb).mono ?_) | (with_reducible refine (hSt.out _ hb).mono ?_) | (with_reducible refine (hOf.out _ hb).mono ?_) | (with_reducible refine (hPv.out _ hb).mono ?_)); rintro e wn ⟨rfl, hbn⟩; replace hb := hb.trans (hbn.mono hb.size); clear hbn)
              go_roundw
              case rel => exact ⟨k + 1, by omega, by go_num, HT, hb⟩
              case measure => simp [intOf]; omega
        · have h0' : 0 < k := by omega
          rw [if_neg h0] at hgo
          have HGO := Lib.hid hgo
          clear hgo h0
          by_cases h2 : pv < st
          · skip
            by_cases h3 : 0 < ofs % 2
            · have m3 : decide (0 < ofs % 2) = true := decide_eq_true h3
              have HT := Lib.hid (HNO.out (by rw [HGO.out]; simp; omega))
              clear HNO HYES HGO
              go_wp2_with (go_at_call 59; (first | (with_reducible refine (hE.out _ hb).mono ?_) | (with_reducible refine (hSt.out _ hb).mono ?_) | (with_reducible refine (hOf.out _ hb).mono ?_) | (with_reducible refine (hPv.out _ hb).mono ?_)); rintro e wn ⟨rfl, hbn⟩; replace hb := hb.trans (hbn.mono hb.size); clear hbn)
              go_ret2
              rw [HT.out.1, HT.out.2]
              exact ⟨rfl, hb⟩
            · have m3 : decide (0 < ofs % 2) = false := decide_eq_false h3
              by_cases h4 : 0 < ofs
              · by_cases h5 : S < 16 + 6 * (N : Int) + 2 * (k : Int) + ofs + 2 * (en - st) + 2
                · skip
                  have HT := Lib.hid (HNO.out (by rw [HGO.out]; simp; omega))
                  clear HNO HYES HGO
                  go_wp2_with (go_at_call 59; (first | (with_reducible refine (hE.out _ hb).mono ?_) | (with_reducible refine (hSt.out _ hb).mono ?_) | (with_reducible refine (hOf.out _ hb).mono ?_) | (with_reducible refine (hPv.out _ hb).mono ?_)); rintro e wn ⟨rfl, hbn⟩; replace hb := hb.trans (hbn.mono hb.size); clear hbn)
                  go_ret2
                  rw [HT.out.1, HT.out.2]
                  exact ⟨rfl, hb⟩
                · skip
                  have HT := Lib.hid (HYES.out (by rw [HGO.out]; simp; omega))
                  clear HNO HYES HGO
                  go_wp2_with (go_at_call 59; (first | (with_reducible refine (hE.out _ hb).mono ?_) | (with_reducible refine (hSt.out _ hb).mono ?_) | (with_reducible refine (hOf.out _ hb).mono ?_) | (with_reducible refine (hPv.out _ hb).mono ?_)); rintro e wn ⟨rfl, hbn⟩; replace hb := hb.trans (hbn.mono hb.size); clear hbn)
                  go_roundw
                  case rel => exact ⟨k + 1, by omega, by go_num, HT, hb⟩
                  case measure => simp [intOf]; omega
              · skip
                have HT := Lib.hid (HYES.out (by rw [HGO.out]; simp; omega))
                clear HNO HYES HGO
                go_wp2_with (go_at_call 59; (first | (with_reducible refine (hE.out _ hb).mono ?_) | (with_reducible refine (hSt.out _ hb).mono ?_) | (with_reducible refine (hOf.out _ hb).mono ?_) | (with_reducible refine (hPv.out _ hb).mono ?_)); rintro e wn ⟨rfl, hbn⟩; replace hb := hb.trans (hbn.mono hb.size); clear hbn)
                go_roundw
                case rel => exact ⟨k + 1, by omega, by go_num, HT, hb⟩
                case measure => simp [intOf]; omega
          · skip
            have HT := Lib.hid (HNO.out (by rw [HGO.out]; simp; omega))
            clear HNO HYES HGO
            go_wp2_with (go_at_call 59; (first | (with_reducible refine (hE.out _ hb).mono ?_) | (with_reducible refine (hSt.out _ hb).mono ?_) | (with_reducible refine (hOf.out _ hb).mono ?_) | (with_reducible refine (hPv.out _ hb).mono ?_)); rintro e wn ⟨rfl, hbn⟩; replace hb := hb.trans (hbn.mono hb.size); clear hbn)
            go_ret2
            rw [HT.out.1, HT.out.2]
            exact ⟨rfl, hb⟩
      · have HGO : Hid (sOkAt zs N k = false) := (by show _ = _; rw [hgo, decide_eq_false h1]; simp)
        clear hgo
        have HT := Lib.hid (HNO.out HGO.out)
        clear HNO HYES HGO
        go_wp2_with (go_at_call 59; (first | (with_reducible refine (hE.out _ hb).mono ?_) | (with_reducible refine (hSt.out _ hb).mono ?_) | (with_reducible refine (hOf.out _ hb).mono ?_) | (with_reducible refine (hPv.out _ hb).mono ?_)); rintro e wn ⟨rfl, hbn⟩; replace hb := hb.trans (hbn.mono hb.size); clear hbn)
        go_ret2
        rw [HT.out.1, HT.out.2]
        exact ⟨rfl, hb⟩
    · obtain rfl : k = N := by omega
      have HT : Hid (R = true ∧ V = (k : Int)) := by
        have := HR.out
        rw [hok.out] at this
        exact ⟨this, by rw [HV.out, this]; rfl⟩
      clear HAll HR HV
      go_wp2
      go_ret2
      rw [HT.out.1, HT.out.2]
      exact ⟨rfl, hb⟩

end Go.Proofs.YthkaeimpflggjaaDoor

/- The document's Right of segments: a contract over this seat's translation. -/
namespace Go.Proofs.YthkaeimpflggjaaDoor
open Go.RowKit
set_option linter.unusedVariables false

theorem rright9_any (A : Option Addr) (n c : Nat) (zs : List Int) (w : World) (hr : Row w A n (cellsOf .u8 zs)) (hB : Bytes zs) (hn : n ≤ 1000000) (hc : n ≤ c) :
    Calls Tryd.prog 38 #[.slice A n c] w (Ret w (.tuple #[.int .i64 (sRV zs), .bool (sRight zs)])) := by
  cases hf : sFront zs && sCnt0 zs with
  | false =>
    have h : sRight zs = false := by
      unfold sRight sCnt
      rw [Bool.and_eq_false_iff] at hf
      rcases hf with h | h <;> rw [h] <;> simp
    have hv : sRV zs = 0 := by unfold sRV; rw [h]; rfl
    rw [h, hv]
    exact rright9_no A n c zs w hr hB hn hf
  | true =>
    cases hTo : sTold zs with
    | false => exact rright9_told A n c zs w hr hB hn hc hf hTo
    | true =>
      by_cases hz : n2at zs (14 + 2 * sN zs) = 0
      · by_cases he : n2at zs (12 + 2 * sN zs) = 65535
        · exact rright9_loop A n c zs w hr hB hn hc hf hTo hz he
        · exact rright9_last A n c zs w hr hB hn hc hf hTo hz he
      · exact rright9_mid A n c zs w hr hB hn hc hf hTo hz

end Go.Proofs.YthkaeimpflggjaaDoor
