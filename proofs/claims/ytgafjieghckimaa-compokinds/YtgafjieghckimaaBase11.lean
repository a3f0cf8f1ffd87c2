/- What the laws of this seat lean on: LComK3. -/
import Derived.Test.YtgafjieghckimaaBase9

/- A part's matrix, of kind 3. -/
namespace Go.Proofs.Ytgafjieghckimaa
open Go.RowKit
set_option linter.unusedVariables false
set_option linter.unusedSimpArgs false

set_option maxRecDepth 1000000 in
set_option maxHeartbeats 8000000 in
theorem kinds_3_t (xx xy yx yy n : Int) (u e : Bool) (w : World) (n0 : 0 ≤ n) (n1 : n ≤ 255) (hK : n % 6 = 3) (h0 : -32768 ≤ xx ∧ xx ≤ 32767) (h1 : -32768 ≤ xy ∧ xy ≤ 32767) (h2 : -32768 ≤ yx ∧ yx ≤ 32767) (h3 : -32768 ≤ yy ∧ yy ≤ 32767) (hxy : xy = 0) (hyx : yx = 0)
    (hU : decide ([xx, xy, yx, yy] = [16384, 0, 0, 16384]) = u) (hE : decide (xx = yy) = e) (hE2 : (xx == yy) = e) (hR : ptRight (kPt 130 xx xy yx yy) = true) :
    Calls Try.prog 3 #[mxV xx xy yx yy, .int .u8 n] w (True_ w) := by
  subst hxy hyx
  have HAw := Lib.hid (fun W => awake13_any W)
  have Hok := Lib.hid (kPt_ok (f := 130) (by decide) h0 h1 h2 h3)
  have HRt := Lib.hid hR
  have heq := fun W => eq_mx xx 0 0 yy 16384 0 0 16384 W
  rw [hU] at heq
  have hA := (Below.refl w.heap.size w).alloc (Nat.le_refl _) (.cells #[.int .i16 xx, .int .i16 0, .int .i16 0, .int .i16 yy] 24)
  have hk := heap_alloc_new w (.cells #[.int .i16 xx, .int .i16 0, .int .i16 0, .int .i16 yy] 24)
  have hq : Int.tmod n 6 = 3 := by rw [Int.tmod_eq_emod_of_nonneg n0]; exact hK
  unfold mxV
  clear h0 h1 h2 h3 hU hR hK
  go_enter Try.func3, Try.ntmps3
  go_wp2_with fail
  with_reducible refine (HAw.out _).mono ?_
  rintro e0 w0 ⟨rfl, hb0⟩
  have hk0 := kept_block hk hb0
  have hbw := hA.trans (hb0.mono hA.size)
  have hlt : w.heap.size < w0.heap.size := lt_of_block hk0
  clear HAw hA hk hb0
  go_upto_region 4 with fail
  have hk1 := kept_alloc hk0 (.cells #[.int .u16 0, .int .u16 8, .int .u16 64, .int .u16 128, .int .u16 72, .int .u16 192] 26)
  have hb1 := hbw.alloc hbw.size (.cells #[.int .u16 0, .int .u16 8, .int .u16 64, .int .u16 128, .int .u16 72, .int .u16 192] 26)
  have hlt1 := lt_of_block hk1
  clear hk0 hbw hlt
  generalize w0.alloc _ = V0 at *
  have hor : bits .or .u16 2 128 = 130 := by decide
  obtain ⟨c0, c1, c2, c3⟩ := cells4 hk1
  have hA2 := (Below.refl V0.heap.size V0).alloc (Nat.le_refl _) (.cells #[.int .u16 130, .int .u16 0, .int .i16 0, .int .i16 0, .int .i16 xx, .int .i16 0, .int .i16 0, .int .i16 yy] 29)
  have hA3 := hA2.alloc hA2.size (.cells #[.int .i16 0, .int .i16 0, .int .i16 0, .int .i16 0, .slice (some ⟨V0.heap.size, 0, none⟩) 1 1, .slice none 0 0] 34)
  have hk2 := kept_block hk1 hA3
  have hb2 := hb1.trans (hA3.mono hb1.size)
  have hg2 := heap_alloc_new (V0.alloc (.cells #[.int .u16 130, .int .u16 0, .int .i16 0, .int .i16 0, .int .i16 xx, .int .i16 0, .int .i16 0, .int .i16 yy] 29)) (.cells #[.int .i16 0, .int .i16 0, .int .i16 0, .int .i16 0, .slice (some ⟨V0.heap.size, 0, none⟩) 1 1, .slice none 0 0] 34)
  have hps2 : RowS encPt 8 (V0.alloc (.cells #[.int .u16 130, .int .u16 0, .int .i16 0, .int .i16 0, .int .i16 xx, .int .i16 0, .int .i16 0, .int .i16 yy] 29)) (some ⟨V0.heap.size, 0, none⟩) 1 [kPt 130 xx 0 0 yy] := rowS_vals encPt_len V0 29 [kPt 130 xx 0 0 yy] _ rfl 1 rfl
  have hps3 := hps2.below ((Below.refl _ (V0.alloc (.cells #[.int .u16 130, .int .u16 0, .int .i16 0, .int .i16 0, .int .i16 xx, .int .i16 0, .int .i16 0, .int .i16 yy] 29))).alloc (Nat.le_refl _) (.cells #[.int .i16 0, .int .i16 0, .int .i16 0, .int .i16 0, .slice (some ⟨V0.heap.size, 0, none⟩) 1 1, .slice none 0 0] 34))
  have hnew := heap_alloc_new (V0.alloc (.cells #[.int .u16 130, .int .u16 0, .int .i16 0, .int .i16 0, .int .i16 xx, .int .i16 0, .int .i16 0, .int .i16 yy] 29)) (.cells #[.int .i16 0, .int .i16 0, .int .i16 0, .int .i16 0, .slice none 0 0, .slice none 0 0] 34)
  have hgs : (V0.alloc (.cells #[.int .u16 130, .int .u16 0, .int .i16 0, .int .i16 0, .int .i16 xx, .int .i16 0, .int .i16 0, .int .i16 yy] 29)).heap.size = V0.heap.size + 1 := by simp
  clear hA2 hA3 hps2 hk1 hb1
  go_upto_region 5 with fail
  clear hnew c0 c1 c2 c3 hor
  rw [hgs] at hg2
  have hgs2 := lt_of_block hg2
  clear hgs
  generalize (V0.alloc (.cells #[.int .u16 130, .int .u16 0, .int .i16 0, .int .i16 0, .int .i16 xx, .int .i16 0, .int .i16 0, .int .i16 yy] 29)).alloc _ = V at *
  generalize V0.heap.size = gp at *
  obtain ⟨c0, c1, c2, c3⟩ := cells4 hk2
  go_upto_region 6 with fail
  have q0 : V.drew.cell? ⟨w.heap.size, 0, none⟩ = _ := c0
  have q1 : V.drew.cell? ⟨w.heap.size, 1, none⟩ = _ := c1
  have q2 : V.drew.cell? ⟨w.heap.size, 2, none⟩ = _ := c2
  have q3 : V.drew.cell? ⟨w.heap.size, 3, none⟩ = _ := c3
  refine regF_start (by kernel_rfl) ?_
  refine regF_take (i := 0) (d := some 35) (v := ?_) (Ext.refl _) rfl rfl (by kernel_rfl) (by kernel_rfl) (by kernel_rfl) (fun _ _ _ h => h) (Or.inl ⟨by rfl, ?_⟩) ?_
  rotate_left
  · intro w' hx; have r0 := hx.cell q0; have r1 := hx.cell q1; have r2 := hx.cell q2; have r3 := hx.cell q3; (go_simp <;> with_reducible rfl)
  simp only [Act.put, List.setIfInBounds_toArray, List.set_cons_zero, List.set_cons_succ]
  refine regF_take (i := 3) (d := some 38) (v := ?_) (Ext.refl _) rfl rfl (by kernel_rfl) (by kernel_rfl) (by kernel_rfl) (fun _ _ _ h => h) (Or.inl ⟨by rfl, ?_⟩) ?_
  rotate_left
  · intro w' hx; (go_simp <;> with_reducible rfl)
  simp only [Act.put, List.setIfInBounds_toArray, List.set_cons_zero, List.set_cons_succ]
  refine regF_take (i := 11) (d := some 46) (v := ?_) (Ext.refl _) rfl rfl (by kernel_rfl) (by kernel_rfl) (by kernel_rfl) (fun _ _ _ h => h) (Or.inl ⟨by rfl, ?_⟩) ?_
  rotate_left
  · intro w' hx; (go_simp <;> with_reducible rfl)
  simp only [Act.put, List.setIfInBounds_toArray, List.set_cons_zero, List.set_cons_succ]
  refine regF_take (i := 13) (d := some 48) (v := ?_) (Ext.refl _) rfl rfl (by kernel_rfl) (by kernel_rfl) (by kernel_rfl) (fun _ _ _ h => h) (Or.inl ⟨by rfl, ?_⟩) ?_
  rotate_left
  · intro w' hx; (go_simp <;> with_reducible rfl)
  simp only [Act.put, List.setIfInBounds_toArray, List.set_cons_zero, List.set_cons_succ]
  refine regF_take (i := 14) (d := some 49) (v := ?_) (Ext.refl _) rfl rfl (by kernel_rfl) (by kernel_rfl) (by kernel_rfl) (fun _ _ _ h => h) (Or.inl ⟨by rfl, ?_⟩) ?_
  rotate_left
  · intro w' hx; (go_simp <;> with_reducible rfl)
  simp only [Act.put, List.setIfInBounds_toArray, List.set_cons_zero, List.set_cons_succ]
  refine regF_one 1 _ (by kernel_rfl) rfl ?_
  intro K hK
  go_simp
  refine (unit_any _).mono ?_
  rintro e4 W4 ⟨rfl, hb4⟩
  unfold mxV
  have hX1 := (Ext.refl V.drew).call hb4
  refine hK.out _ _ hX1 ?_
  clear hK K
  refine regF_take (i := 2) (d := some 37) (v := ?_) hX1 rfl rfl (by kernel_rfl) (by kernel_rfl) (by kernel_rfl) (fun _ _ _ h => h) (Or.inl ⟨by rfl, ?_⟩) ?_
  rotate_left
  · intro w' hx; (go_simp <;> with_reducible rfl)
  simp only [Act.put, List.setIfInBounds_toArray, List.set_cons_zero, List.set_cons_succ]
  refine regF_take (i := 4) (d := some 39) (v := ?_) hX1 rfl rfl (by kernel_rfl) (by kernel_rfl) (by kernel_rfl) (fun _ _ _ h => h) (Or.inl ⟨by rfl, ?_⟩) ?_
  rotate_left
  · intro w' hx; (go_simp <;> with_reducible rfl)
  simp only [Act.put, List.setIfInBounds_toArray, List.set_cons_zero, List.set_cons_succ]
  refine regF_take (i := 5) (d := some 40) (v := ?_) hX1 rfl rfl (by kernel_rfl) (by kernel_rfl) (by kernel_rfl) (fun _ _ _ h => h) (Or.inl ⟨by rfl, ?_⟩) ?_
  rotate_left
  · intro w' hx; (go_simp <;> with_reducible rfl)
  simp only [Act.put, List.setIfInBounds_toArray, List.set_cons_zero, List.set_cons_succ]
  refine regF_take (i := 6) (d := some 41) (v := ?_) hX1 rfl rfl (by kernel_rfl) (by kernel_rfl) (by kernel_rfl) (fun _ _ _ h => h) (Or.inl ⟨by rfl, ?_⟩) ?_
  rotate_left
  · intro w' hx; have r0 := hx.cell q0; have r1 := hx.cell q1; have r2 := hx.cell q2; have r3 := hx.cell q3; (go_simp <;> with_reducible rfl)
  simp only [Act.put, List.setIfInBounds_toArray, List.set_cons_zero, List.set_cons_succ]
  refine regF_take (i := 7) (d := some 42) (v := ?_) hX1 rfl rfl (by kernel_rfl) (by kernel_rfl) (by kernel_rfl) (fun _ _ _ h => h) (Or.inl ⟨by rfl, ?_⟩) ?_
  rotate_left
  · intro w' hx; (go_simp <;> with_reducible rfl)
  simp only [Act.put, List.setIfInBounds_toArray, List.set_cons_zero, List.set_cons_succ]
  refine regF_take (i := 8) (d := some 43) (v := ?_) hX1 rfl rfl (by kernel_rfl) (by kernel_rfl) (by kernel_rfl) (fun _ _ _ h => h) (Or.inl ⟨by rfl, ?_⟩) ?_
  rotate_left
  · intro w' hx; have r0 := hx.cell q0; have r1 := hx.cell q1; have r2 := hx.cell q2; have r3 := hx.cell q3; (go_simp <;> with_reducible rfl)
  simp only [Act.put, List.setIfInBounds_toArray, List.set_cons_zero, List.set_cons_succ]
  refine regF_take (i := 9) (d := some 44) (v := ?_) hX1 rfl rfl (by kernel_rfl) (by kernel_rfl) (by kernel_rfl) (fun _ _ _ h => h) (Or.inl ⟨by rfl, ?_⟩) ?_
  rotate_left
  · intro w' hx; (go_simp <;> with_reducible rfl)
  simp only [Act.put, List.setIfInBounds_toArray, List.set_cons_zero, List.set_cons_succ]
  refine regF_take (i := 10) (d := some 45) (v := ?_) hX1 rfl rfl (by kernel_rfl) (by kernel_rfl) (by kernel_rfl) (fun _ _ _ h => h) (Or.inl ⟨by rfl, ?_⟩) ?_
  rotate_left
  · intro w' hx; (go_simp <;> with_reducible rfl)
  simp only [Act.put, List.setIfInBounds_toArray, List.set_cons_zero, List.set_cons_succ]
  refine regF_one 12 _ (by kernel_rfl) rfl ?_
  intro K hK
  go_simp
  have hX2 := hX1.new (.cells #[.bool u, .bool e, .bool true, .bool true, .bool false, .bool false] 4)
  have hkn := heap_alloc_new W4 (.cells #[.bool u, .bool e, .bool true, .bool true, .bool false, .bool false] 4)
  have cK : (W4.alloc (.cells #[.bool u, .bool e, .bool true, .bool true, .bool false, .bool false] 4)).cell? ⟨W4.heap.size, 3, none⟩ = some (.bool true) := cell_of_row _ _ 3 _ _ _ hkn
  refine hK.out _ _ hX2 ?_
  generalize W4.alloc _ = W5 at *
  clear hK K hkn
  refine regF_one 15 _ (by kernel_rfl) rfl ?_
  intro K hK
  go_simp
  refine hK.out _ _ hX2 ?_
  clear hK K
  refine regF_one 16 _ (by kernel_rfl) rfl ?_
  intro K hK
  go_simp
  refine hK.out _ _ hX2 ?_
  clear hK K
  refine regF_one 17 _ (by kernel_rfl) rfl ?_
  intro K hK
  go_simp
  refine hK.out _ _ hX2 ?_
  clear hK K
  refine wpAnyH_done (by kernel_rfl) ?_ _
  have hb5 := hb2.drew.trans (hX2.mono hb2.size)
  have hk5 : W5.heap[w.heap.size]? = _ := kept_block (w := V.drew) hk2 hX2
  have hg5 : W5.heap[gp + 1]? = _ := kept_block (w := V.drew) hg2 hX2
  have hps5 := (hps3.below (Below.refl _ V).drew).below hX2
  clear hb2 hk2 hg2 hps3 c0 c1 c2 c3 q0 q1 q2 q3 hb4 hX1 hX2
  have hgo : (kG 130 xx 0 0 yy).ok := kG_ok Hok.out
  have hcr : cRight (kG 130 xx 0 0 yy) = true := (kG_right _ _ _ _ _ (by decide)).trans HRt.out
  go_upto_region 8 with fail
  clear cK
  have hb6 := hb5.alloc hb5.size (.cells #[.int .i64 0, .int .i64 2, .int .i64 4, .int .i64 8, .int .i64 0, .int .i64 0] 3)
  have hX6 := (Below.refl W5.heap.size W5).alloc (Nat.le_refl _) (.cells #[.int .i64 0, .int .i64 2, .int .i64 4, .int .i64 8, .int .i64 0, .int .i64 0] 3)
  have hk6 := kept_block hk5 hX6
  have hg6 := kept_block hg5 hX6
  have hps6 := hps5.below hX6
  clear hb5 hk5 hg5 hps5 hX6
  generalize W5.alloc _ = W6 at *
  have hrows : CgV.rows W6 ⟨(kG 130 xx 0 0 yy), some ⟨gp, 0, none⟩, 1, 1, none, 0, 0⟩ := ⟨hps6, Row.empty _ _⟩
  have HBy : Hid (Calls Try.prog 17 #[.agg #[.int .i16 0, .int .i16 0, .int .i16 0, .int .i16 0, .slice (some ⟨gp, 0, none⟩) 1 1, .slice none 0 0]] W6 (RetB W6 (cBytes (kG 130 xx 0 0 yy)))) := cbytes_any ⟨(kG 130 xx 0 0 yy), some ⟨gp, 0, none⟩, 1, 1, none, 0, 0⟩ W6 hrows (by show (1 : Nat) ≤ 1000000; omega) (by show (0 : Nat) ≤ 1000000; omega) hgo
  have HRi : Hid (∀ W, Below W6.heap.size W6 W → Calls Try.prog 18 #[.agg #[.int .i16 0, .int .i16 0, .int .i16 0, .int .i16 0, .slice (some ⟨gp, 0, none⟩) 1 1, .slice none 0 0]] W (Ret W (.bool true))) := fun W hW => by
    have h := cright_any ⟨(kG 130 xx 0 0 yy), some ⟨gp, 0, none⟩, 1, 1, none, 0, 0⟩ W (hrows.below hW) (by show (1 : Nat) ≤ 1000000; omega) (by show (0 : Nat) ≤ 1000000; omega) hgo
    rw [show CgV.g ⟨(kG 130 xx 0 0 yy), some ⟨gp, 0, none⟩, 1, 1, none, 0, 0⟩ = (kG 130 xx 0 0 yy) from rfl, hcr] at h
    exact h
  have HGo := Lib.hid hgo
  have HCr := Lib.hid hcr
  clear hrows hps6 hcr hgo
  obtain ⟨c0, c1, c2, c3, c4, c5⟩ := cells6 hg6
  go_wp2_with fail
  with_reducible refine HBy.out.mono ?_
  rintro e7 w7 ⟨A, an, ac, rfl, hown, hb7⟩
  have hk7 := kept_block hk6 hb7
  have hg7 := kept_block hg6 hb7
  have hbw7 := hb6.trans (hb7.mono hb6.size)
  clear HBy hk6 hg6 hb6 c0 c1 c2 c3 c4 c5
  obtain ⟨c0, c1, c2, c3, c4, c5⟩ := cells6 hg7
  unfold cBytes at hown
  rw [HCr.out, if_pos rfl] at hown
  have hlen := kG_len 130 xx 0 0 yy (by decide) HRt.out
  rw [show 10 + pSz (knd 130) (fb 130 1) = 24 by decide] at hlen
  obtain rfl : an = 24 := hown.len.symm.trans hlen
  have HPa := Lib.hid (cparse_any A 24 ac _ w7 hown.row (cB_bytes _ HGo.out HCr.out) (by omega) hown.cap)
  have HOk := cOk_cB _ HGo.out HCr.out []
  have hdec := (cB_dec _ HGo.out HCr.out []).2.1
  rw [List.append_nil] at HOk hdec
  clear hlen hown
  go_upto_region 11 with fail
  go_wp2_with fail
  with_reducible refine HPa.out.mono ?_
  rintro e8 w8 ⟨hb8, hway⟩
  rcases hway with ⟨hno, _⟩ | ⟨_, v, rfl, hvr, hvg, _, _⟩
  · rw [HOk] at hno
    cases hno
  rw [hdec] at hvg
  obtain ⟨g2, QA, q, qc, PA, pn, pc⟩ := v
  simp only at hvg
  subst hvg
  have hq1 : (1 : Nat) = q := hvr.ps.len
  subst hq1
  have hpn : (0 : Nat) = pn := hvr.pr.len
  subst hpn
  clear HPa HOk hdec
  have hb78 := hb7.trans (hb8.mono hb7.size)
  have hk8 := kept_block hk7 hb8
  have hg8 := kept_block hg7 hb8
  have hb8w := hbw7.trans (hb8.mono hbw7.size)
  have hAx := (Below.refl w8.heap.size w8).alloc (Nat.le_refl _) (.cells #[.int .i16 0, .int .i16 0, .int .i16 0, .int .i16 0, .slice QA 1 qc, .slice PA 0 pc] 34)
  have hx9 := heap_alloc_new w8 (.cells #[.int .i16 0, .int .i16 0, .int .i16 0, .int .i16 0, .slice QA 1 qc, .slice PA 0 pc] 34)
  have hk9 := kept_block hk8 hAx
  have hg9 := kept_block hg8 hAx
  have hb9w := hb8w.trans (hAx.mono hb8w.size)
  have hps9 := hvr.ps.below hAx
  have hb79 := hb78.trans (hAx.mono hb78.size)
  have hnew := heap_alloc_new w8 (.cells #[.int .i16 0, .int .i16 0, .int .i16 0, .int .i16 0, .slice none 0 0, .slice none 0 0] 34)
  clear hb8 hb78 hk8 hg8 hb8w hAx hvr hk7 hg7 hbw7 hb7 c0 c1 c2 c3 c4 c5
  unfold CgV.val CgV.cells kG
  simp only
  go_upto_region 12 with fail
  clear hnew
  generalize w8.alloc _ = w9 at *
  have HR1 := Lib.hid (HRi.out _ hb79.drew)
  clear HRi hb79
  have heq2 := fun W => eq_mx xx 0 0 yy xx 0 0 yy W
  rw [show decide (([xx, 0, 0, yy] : List Int) = [xx, 0, 0, yy]) = true from decide_eq_true rfl] at heq2
  obtain ⟨gq, off, rfl, hgq, _, _, _, _, d4, d5, d6, d7⟩ := atPt hps9 (j := 0) rfl
  simp only [Nat.zero_mul, Nat.add_zero, kPt] at d4 d5 d6 d7
  obtain ⟨q0, q1, q2, q3⟩ := cells4 (w := w9.drew) hk9
  obtain ⟨c0, c1, c2, c3, c4, c5⟩ := cells6 (w := w9.drew) hg9
  obtain ⟨x0, x1, x2, x3, x4, x5⟩ := cells6 (w := w9.drew) hx9
  replace d4 : w9.drew.cell? _ = _ := d4
  replace d5 : w9.drew.cell? _ = _ := d5
  replace d6 : w9.drew.cell? _ = _ := d6
  replace d7 : w9.drew.cell? _ = _ := d7
  have hoff4 : off + 4 = off + 4 := rfl
  refine regF_start (by kernel_rfl) ?_
  refine regF_take (i := 0) (d := some 76) (v := ?_) (Ext.refl _) rfl rfl (by kernel_rfl) (by kernel_rfl) (by kernel_rfl) (fun _ _ _ h => h) (Or.inl ⟨by rfl, ?_⟩) ?_
  rotate_left
  · intro w' hx; have r0 := hx.cell c0; have r1 := hx.cell c1; have r2 := hx.cell c2; have r3 := hx.cell c3; have r4 := hx.cell c4; have r5 := hx.cell c5; (go_simp <;> with_reducible rfl)
  simp only [Act.put, List.setIfInBounds_toArray, List.set_cons_zero, List.set_cons_succ]
  refine regF_one 1 _ (by kernel_rfl) rfl ?_
  intro K hK
  go_simp
  refine HR1.out.mono ?_
  rintro e10 w10 ⟨rfl, hb10⟩
  have hX1 := (Ext.refl w9.drew).call hb10
  refine hK.out _ _ hX1 ?_
  clear hK K
  refine regF_take (i := 2) (d := some 78) (v := ?_) hX1 rfl rfl (by kernel_rfl) (by kernel_rfl) (by kernel_rfl) (fun _ _ _ h => h) (Or.inl ⟨by rfl, ?_⟩) ?_
  rotate_left
  · intro w' hx; (go_simp <;> with_reducible rfl)
  simp only [Act.put, List.setIfInBounds_toArray, List.set_cons_zero, List.set_cons_succ]
  refine regF_take (i := 3) (d := some 79) (v := ?_) hX1 rfl rfl (by kernel_rfl) (by kernel_rfl) (by kernel_rfl) (fun _ _ _ h => h) (Or.inl ⟨by rfl, ?_⟩) ?_
  rotate_left
  · intro w' hx; (go_simp <;> with_reducible rfl)
  simp only [Act.put, List.setIfInBounds_toArray, List.set_cons_zero, List.set_cons_succ]
  refine regF_take (i := 4) (d := some 80) (v := ?_) hX1 rfl rfl (by kernel_rfl) (by kernel_rfl) (by kernel_rfl) (fun _ _ _ h => h) (Or.inl ⟨by rfl, ?_⟩) ?_
  rotate_left
  · intro w' hx; (go_simp <;> with_reducible rfl)
  simp only [Act.put, List.setIfInBounds_toArray, List.set_cons_zero, List.set_cons_succ]
  refine regF_take (i := 5) (d := some 81) (v := ?_) hX1 rfl rfl (by kernel_rfl) (by kernel_rfl) (by kernel_rfl) (fun _ _ _ h => h) (Or.inl ⟨by rfl, ?_⟩) ?_
  rotate_left
  · intro w' hx; (go_simp <;> with_reducible rfl)
  simp only [Act.put, List.setIfInBounds_toArray, List.set_cons_zero, List.set_cons_succ]
  refine regF_take (i := 6) (d := some 82) (v := ?_) hX1 rfl rfl (by kernel_rfl) (by kernel_rfl) (by kernel_rfl) (fun _ _ _ h => h) (Or.inl ⟨by rfl, ?_⟩) ?_
  rotate_left
  · intro w' hx; (go_simp <;> with_reducible rfl)
  simp only [Act.put, List.setIfInBounds_toArray, List.set_cons_zero, List.set_cons_succ]
  refine regF_take (i := 7) (d := some 83) (v := ?_) hX1 rfl rfl (by kernel_rfl) (by kernel_rfl) (by kernel_rfl) (fun _ _ _ h => h) (Or.inl ⟨by rfl, ?_⟩) ?_
  rotate_left
  · intro w' hx; (go_simp <;> with_reducible rfl)
  simp only [Act.put, List.setIfInBounds_toArray, List.set_cons_zero, List.set_cons_succ]
  refine regF_take (i := 8) (d := some 84) (v := ?_) hX1 rfl rfl (by kernel_rfl) (by kernel_rfl) (by kernel_rfl) (fun _ _ _ h => h) (Or.inl ⟨by rfl, ?_⟩) ?_
  rotate_left
  · intro w' hx; (go_simp <;> with_reducible rfl)
  simp only [Act.put, List.setIfInBounds_toArray, List.set_cons_zero, List.set_cons_succ]
  refine regF_take (i := 9) (d := some 85) (v := ?_) hX1 rfl rfl (by kernel_rfl) (by kernel_rfl) (by kernel_rfl) (fun _ _ _ h => h) (Or.inl ⟨by rfl, ?_⟩) ?_
  rotate_left
  · intro w' hx; (go_simp <;> with_reducible rfl)
  simp only [Act.put, List.setIfInBounds_toArray, List.set_cons_zero, List.set_cons_succ]
  refine regF_take (i := 10) (d := some 86) (v := ?_) hX1 rfl rfl (by kernel_rfl) (by kernel_rfl) (by kernel_rfl) (fun _ _ _ h => h) (Or.inl ⟨by rfl, ?_⟩) ?_
  rotate_left
  · intro w' hx; (go_simp <;> with_reducible rfl)
  simp only [Act.put, List.setIfInBounds_toArray, List.set_cons_zero, List.set_cons_succ]
  refine regF_take (i := 11) (d := some 87) (v := ?_) hX1 rfl rfl (by kernel_rfl) (by kernel_rfl) (by kernel_rfl) (fun _ _ _ h => h) (Or.inl ⟨by rfl, ?_⟩) ?_
  rotate_left
  · intro w' hx; (go_simp <;> with_reducible rfl)
  simp only [Act.put, List.setIfInBounds_toArray, List.set_cons_zero, List.set_cons_succ]
  refine regF_take (i := 12) (d := some 88) (v := ?_) hX1 rfl rfl (by kernel_rfl) (by kernel_rfl) (by kernel_rfl) (fun _ _ _ h => h) (Or.inl ⟨by rfl, ?_⟩) ?_
  rotate_left
  · intro w' hx; (go_simp <;> with_reducible rfl)
  simp only [Act.put, List.setIfInBounds_toArray, List.set_cons_zero, List.set_cons_succ]
  refine regF_take (i := 13) (d := some 89) (v := ?_) hX1 rfl rfl (by kernel_rfl) (by kernel_rfl) (by kernel_rfl) (fun _ _ _ h => h) (Or.inl ⟨by rfl, ?_⟩) ?_
  rotate_left
  · intro w' hx; (go_simp <;> with_reducible rfl)
  simp only [Act.put, List.setIfInBounds_toArray, List.set_cons_zero, List.set_cons_succ]
  refine regF_take (i := 14) (d := some 90) (v := ?_) hX1 rfl rfl (by kernel_rfl) (by kernel_rfl) (by kernel_rfl) (fun _ _ _ h => h) (Or.inl ⟨by rfl, ?_⟩) ?_
  rotate_left
  · intro w' hx; have r4 := hx.cell x4; (go_simp <;> with_reducible rfl)
  simp only [Act.put, List.setIfInBounds_toArray, List.set_cons_zero, List.set_cons_succ]
  refine regF_take (i := 15) (d := some 91) (v := ?_) hX1 rfl rfl (by kernel_rfl) (by kernel_rfl) (by kernel_rfl) (fun _ _ _ h => h) (Or.inl ⟨by rfl, ?_⟩) ?_
  rotate_left
  · intro w' hx; (go_simp <;> with_reducible rfl)
  simp only [Act.put, List.setIfInBounds_toArray, List.set_cons_zero, List.set_cons_succ]
  refine regF_take (i := 16) (d := some 92) (v := ?_) hX1 rfl rfl (by kernel_rfl) (by kernel_rfl) (by kernel_rfl) (fun _ _ _ h => h) (Or.inl ⟨by rfl, ?_⟩) ?_
  rotate_left
  · intro w' hx; (go_simp <;> with_reducible rfl)
  simp only [Act.put, List.setIfInBounds_toArray, List.set_cons_zero, List.set_cons_succ]
  refine regF_take (i := 17) (d := some 93) (v := ?_) hX1 rfl rfl (by kernel_rfl) (by kernel_rfl) (by kernel_rfl) (fun _ _ _ h => h) (Or.inl ⟨by rfl, ?_⟩) ?_
  rotate_left
  · intro w' hx; have r4 := hx.cell d4; have r5 := hx.cell d5; have r6 := hx.cell d6; have r7 := hx.cell d7; (go_simp <;> with_reducible rfl)
  simp only [Act.put, List.setIfInBounds_toArray, List.set_cons_zero, List.set_cons_succ]
  refine regF_take (i := 18) (d := some 94) (v := ?_) hX1 rfl rfl (by kernel_rfl) (by kernel_rfl) (by kernel_rfl) (fun _ _ _ h => h) (Or.inl ⟨by rfl, ?_⟩) ?_
  rotate_left
  · intro w' hx; have r0 := hx.cell q0; have r1 := hx.cell q1; have r2 := hx.cell q2; have r3 := hx.cell q3; (go_simp <;> with_reducible rfl)
  simp only [Act.put, List.setIfInBounds_toArray, List.set_cons_zero, List.set_cons_succ]
  refine regF_take (i := 19) (d := some 95) (v := ?_) hX1 rfl rfl (by kernel_rfl) (by kernel_rfl) (by kernel_rfl) (fun _ _ _ h => h) (Or.inl ⟨by rfl, ?_⟩) ?_
  rotate_left
  · intro w' hx; (go_simp <;> with_reducible rfl)
  simp only [Act.put, List.setIfInBounds_toArray, List.set_cons_zero, List.set_cons_succ]
  refine regF_take (i := 20) (d := some 96) (v := ?_) hX1 rfl rfl (by kernel_rfl) (by kernel_rfl) (by kernel_rfl) (fun _ _ _ h => h) (Or.inl ⟨by rfl, ?_⟩) ?_
  rotate_left
  · intro w' hx; (go_simp <;> with_reducible rfl)
  simp only [Act.put, List.setIfInBounds_toArray, List.set_cons_zero, List.set_cons_succ]
  refine regF_one 21 _ (by kernel_rfl) rfl ?_
  intro K hK
  go_simp
  refine hK.out _ _ hX1 ?_
  clear hK K
  refine wpAnyH_done (by kernel_rfl) ?_ _
  go_wp2
  go_ret
  exact ⟨rfl, hb9w.drew.trans (hX1.mono hb9w.size)⟩

set_option maxRecDepth 1000000 in
set_option maxHeartbeats 8000000 in
theorem kinds_3_x (xx xy yx yy n : Int) (u e : Bool) (w : World) (n0 : 0 ≤ n) (n1 : n ≤ 255) (hK : n % 6 = 3) (h0 : -32768 ≤ xx ∧ xx ≤ 32767) (h1 : -32768 ≤ xy ∧ xy ≤ 32767) (h2 : -32768 ≤ yx ∧ yx ≤ 32767) (h3 : -32768 ≤ yy ∧ yy ≤ 32767) (hxy : (xy == 0) = false)
    (hU : decide ([xx, xy, yx, yy] = [16384, 0, 0, 16384]) = u) (hE : decide (xx = yy) = e) (hE2 : (xx == yy) = e) (hR : ptRight (kPt 130 xx xy yx yy) = true) :
    Calls Try.prog 3 #[mxV xx xy yx yy, .int .u8 n] w (True_ w) := by
  have HAw := Lib.hid (fun W => awake13_any W)
  have Hok := Lib.hid (kPt_ok (f := 130) (by decide) h0 h1 h2 h3)
  have HRt := Lib.hid hR
  have heq := fun W => eq_mx xx xy yx yy 16384 0 0 16384 W
  rw [hU] at heq
  have hA := (Below.refl w.heap.size w).alloc (Nat.le_refl _) (.cells #[.int .i16 xx, .int .i16 xy, .int .i16 yx, .int .i16 yy] 24)
  have hk := heap_alloc_new w (.cells #[.int .i16 xx, .int .i16 xy, .int .i16 yx, .int .i16 yy] 24)
  have hq : Int.tmod n 6 = 3 := by rw [Int.tmod_eq_emod_of_nonneg n0]; exact hK
  unfold mxV
  clear h0 h1 h2 h3 hU hR hK
  go_enter Try.func3, Try.ntmps3
  go_wp2_with fail
  with_reducible refine (HAw.out _).mono ?_
  rintro e0 w0 ⟨rfl, hb0⟩
  have hk0 := kept_block hk hb0
  have hbw := hA.trans (hb0.mono hA.size)
  have hlt : w.heap.size < w0.heap.size := lt_of_block hk0
  clear HAw hA hk hb0
  go_upto_region 4 with fail
  have hk1 := kept_alloc hk0 (.cells #[.int .u16 0, .int .u16 8, .int .u16 64, .int .u16 128, .int .u16 72, .int .u16 192] 26)
  have hb1 := hbw.alloc hbw.size (.cells #[.int .u16 0, .int .u16 8, .int .u16 64, .int .u16 128, .int .u16 72, .int .u16 192] 26)
  have hlt1 := lt_of_block hk1
  clear hk0 hbw hlt
  generalize w0.alloc _ = V0 at *
  have hor : bits .or .u16 2 128 = 130 := by decide
  obtain ⟨c0, c1, c2, c3⟩ := cells4 hk1
  have hA2 := (Below.refl V0.heap.size V0).alloc (Nat.le_refl _) (.cells #[.int .u16 130, .int .u16 0, .int .i16 0, .int .i16 0, .int .i16 xx, .int .i16 xy, .int .i16 yx, .int .i16 yy] 29)
  have hA3 := hA2.alloc hA2.size (.cells #[.int .i16 0, .int .i16 0, .int .i16 0, .int .i16 0, .slice (some ⟨V0.heap.size, 0, none⟩) 1 1, .slice none 0 0] 34)
  have hk2 := kept_block hk1 hA3
  have hb2 := hb1.trans (hA3.mono hb1.size)
  have hg2 := heap_alloc_new (V0.alloc (.cells #[.int .u16 130, .int .u16 0, .int .i16 0, .int .i16 0, .int .i16 xx, .int .i16 xy, .int .i16 yx, .int .i16 yy] 29)) (.cells #[.int .i16 0, .int .i16 0, .int .i16 0, .int .i16 0, .slice (some ⟨V0.heap.size, 0, none⟩) 1 1, .slice none 0 0] 34)
  have hps2 : RowS encPt 8 (V0.alloc (.cells #[.int .u16 130, .int .u16 0, .int .i16 0, .int .i16 0, .int .i16 xx, .int .i16 xy, .int .i16 yx, .int .i16 yy] 29)) (some ⟨V0.heap.size, 0, none⟩) 1 [kPt 130 xx xy yx yy] := rowS_vals encPt_len V0 29 [kPt 130 xx xy yx yy] _ rfl 1 rfl
  have hps3 := hps2.below ((Below.refl _ (V0.alloc (.cells #[.int .u16 130, .int .u16 0, .int .i16 0, .int .i16 0, .int .i16 xx, .int .i16 xy, .int .i16 yx, .int .i16 yy] 29))).alloc (Nat.le_refl _) (.cells #[.int .i16 0, .int .i16 0, .int .i16 0, .int .i16 0, .slice (some ⟨V0.heap.size, 0, none⟩) 1 1, .slice none 0 0] 34))
  have hnew := heap_alloc_new (V0.alloc (.cells #[.int .u16 130, .int .u16 0, .int .i16 0, .int .i16 0, .int .i16 xx, .int .i16 xy, .int .i16 yx, .int .i16 yy] 29)) (.cells #[.int .i16 0, .int .i16 0, .int .i16 0, .int .i16 0, .slice none 0 0, .slice none 0 0] 34)
  have hgs : (V0.alloc (.cells #[.int .u16 130, .int .u16 0, .int .i16 0, .int .i16 0, .int .i16 xx, .int .i16 xy, .int .i16 yx, .int .i16 yy] 29)).heap.size = V0.heap.size + 1 := by simp
  clear hA2 hA3 hps2 hk1 hb1
  go_upto_region 5 with fail
  clear hnew c0 c1 c2 c3 hor
  rw [hgs] at hg2
  have hgs2 := lt_of_block hg2
  clear hgs
  generalize (V0.alloc (.cells #[.int .u16 130, .int .u16 0, .int .i16 0, .int .i16 0, .int .i16 xx, .int .i16 xy, .int .i16 yx, .int .i16 yy] 29)).alloc _ = V at *
  generalize V0.heap.size = gp at *
  obtain ⟨c0, c1, c2, c3⟩ := cells4 hk2
  go_upto_region 6 with fail
  have q0 : V.drew.cell? ⟨w.heap.size, 0, none⟩ = _ := c0
  have q1 : V.drew.cell? ⟨w.heap.size, 1, none⟩ = _ := c1
  have q2 : V.drew.cell? ⟨w.heap.size, 2, none⟩ = _ := c2
  have q3 : V.drew.cell? ⟨w.heap.size, 3, none⟩ = _ := c3
  refine regF_start (by kernel_rfl) ?_
  refine regF_take (i := 0) (d := some 35) (v := ?_) (Ext.refl _) rfl rfl (by kernel_rfl) (by kernel_rfl) (by kernel_rfl) (fun _ _ _ h => h) (Or.inl ⟨by rfl, ?_⟩) ?_
  rotate_left
  · intro w' hx; have r0 := hx.cell q0; have r1 := hx.cell q1; have r2 := hx.cell q2; have r3 := hx.cell q3; (go_simp <;> with_reducible rfl)
  simp only [Act.put, List.setIfInBounds_toArray, List.set_cons_zero, List.set_cons_succ]
  refine regF_take (i := 3) (d := some 38) (v := ?_) (Ext.refl _) rfl rfl (by kernel_rfl) (by kernel_rfl) (by kernel_rfl) (fun _ _ _ h => h) (Or.inl ⟨by rfl, ?_⟩) ?_
  rotate_left
  · intro w' hx; (go_simp <;> with_reducible rfl)
  simp only [Act.put, List.setIfInBounds_toArray, List.set_cons_zero, List.set_cons_succ]
  refine regF_take (i := 11) (d := some 46) (v := ?_) (Ext.refl _) rfl rfl (by kernel_rfl) (by kernel_rfl) (by kernel_rfl) (fun _ _ _ h => h) (Or.inl ⟨by rfl, ?_⟩) ?_
  rotate_left
  · intro w' hx; (go_simp <;> with_reducible rfl)
  simp only [Act.put, List.setIfInBounds_toArray, List.set_cons_zero, List.set_cons_succ]
  refine regF_take (i := 13) (d := some 48) (v := ?_) (Ext.refl _) rfl rfl (by kernel_rfl) (by kernel_rfl) (by kernel_rfl) (fun _ _ _ h => h) (Or.inl ⟨by rfl, ?_⟩) ?_
  rotate_left
  · intro w' hx; (go_simp <;> with_reducible rfl)
  simp only [Act.put, List.setIfInBounds_toArray, List.set_cons_zero, List.set_cons_succ]
  refine regF_take (i := 14) (d := some 49) (v := ?_) (Ext.refl _) rfl rfl (by kernel_rfl) (by kernel_rfl) (by kernel_rfl) (fun _ _ _ h => h) (Or.inl ⟨by rfl, ?_⟩) ?_
  rotate_left
  · intro w' hx; (go_simp <;> with_reducible rfl)
  simp only [Act.put, List.setIfInBounds_toArray, List.set_cons_zero, List.set_cons_succ]
  refine regF_one 1 _ (by kernel_rfl) rfl ?_
  intro K hK
  go_simp
  refine (unit_any _).mono ?_
  rintro e4 W4 ⟨rfl, hb4⟩
  unfold mxV
  have hX1 := (Ext.refl V.drew).call hb4
  refine hK.out _ _ hX1 ?_
  clear hK K
  refine regF_take (i := 2) (d := some 37) (v := ?_) hX1 rfl rfl (by kernel_rfl) (by kernel_rfl) (by kernel_rfl) (fun _ _ _ h => h) (Or.inl ⟨by rfl, ?_⟩) ?_
  rotate_left
  · intro w' hx; (go_simp <;> with_reducible rfl)
  simp only [Act.put, List.setIfInBounds_toArray, List.set_cons_zero, List.set_cons_succ]
  refine regF_take (i := 4) (d := some 39) (v := ?_) hX1 rfl rfl (by kernel_rfl) (by kernel_rfl) (by kernel_rfl) (fun _ _ _ h => h) (Or.inl ⟨by rfl, ?_⟩) ?_
  rotate_left
  · intro w' hx; (go_simp <;> with_reducible rfl)
  simp only [Act.put, List.setIfInBounds_toArray, List.set_cons_zero, List.set_cons_succ]
  refine regF_take (i := 5) (d := some 40) (v := undef) hX1 rfl rfl (by kernel_rfl) (by kernel_rfl) (by kernel_rfl) (fun _ _ _ h => h) (Or.inr ⟨by rfl, rfl⟩) ?_
  simp only [Act.put, List.setIfInBounds_toArray, List.set_cons_zero, List.set_cons_succ]
  refine regF_take (i := 6) (d := some 41) (v := undef) hX1 rfl rfl (by kernel_rfl) (by kernel_rfl) (by kernel_rfl) (fun _ _ _ h => h) (Or.inr ⟨by rfl, rfl⟩) ?_
  simp only [Act.put, List.setIfInBounds_toArray, List.set_cons_zero, List.set_cons_succ]
  refine regF_take (i := 7) (d := some 42) (v := undef) hX1 rfl rfl (by kernel_rfl) (by kernel_rfl) (by kernel_rfl) (fun _ _ _ h => h) (Or.inr ⟨by rfl, rfl⟩) ?_
  simp only [Act.put, List.setIfInBounds_toArray, List.set_cons_zero, List.set_cons_succ]
  refine regF_take (i := 8) (d := some 43) (v := undef) hX1 rfl rfl (by kernel_rfl) (by kernel_rfl) (by kernel_rfl) (fun _ _ _ h => h) (Or.inr ⟨by rfl, rfl⟩) ?_
  simp only [Act.put, List.setIfInBounds_toArray, List.set_cons_zero, List.set_cons_succ]
  refine regF_take (i := 9) (d := some 44) (v := undef) hX1 rfl rfl (by kernel_rfl) (by kernel_rfl) (by kernel_rfl) (fun _ _ _ h => h) (Or.inr ⟨by rfl, rfl⟩) ?_
  simp only [Act.put, List.setIfInBounds_toArray, List.set_cons_zero, List.set_cons_succ]
  refine regF_take (i := 10) (d := some 45) (v := ?_) hX1 rfl rfl (by kernel_rfl) (by kernel_rfl) (by kernel_rfl) (fun _ _ _ h => h) (Or.inl ⟨by rfl, ?_⟩) ?_
  rotate_left
  · intro w' hx; (go_simp <;> with_reducible rfl)
  simp only [Act.put, List.setIfInBounds_toArray, List.set_cons_zero, List.set_cons_succ]
  refine regF_one 12 _ (by kernel_rfl) rfl ?_
  intro K hK
  go_simp
  have hX2 := hX1.new (.cells #[.bool u, .bool false, .bool false, .bool true, .bool false, .bool false] 4)
  have hkn := heap_alloc_new W4 (.cells #[.bool u, .bool false, .bool false, .bool true, .bool false, .bool false] 4)
  have cK : (W4.alloc (.cells #[.bool u, .bool false, .bool false, .bool true, .bool false, .bool false] 4)).cell? ⟨W4.heap.size, 3, none⟩ = some (.bool true) := cell_of_row _ _ 3 _ _ _ hkn
  refine hK.out _ _ hX2 ?_
  generalize W4.alloc _ = W5 at *
  clear hK K hkn
  refine regF_one 15 _ (by kernel_rfl) rfl ?_
  intro K hK
  go_simp
  refine hK.out _ _ hX2 ?_
  clear hK K
  refine regF_one 16 _ (by kernel_rfl) rfl ?_
  intro K hK
  go_simp
  refine hK.out _ _ hX2 ?_
  clear hK K
  refine regF_one 17 _ (by kernel_rfl) rfl ?_
  intro K hK
  go_simp
  refine hK.out _ _ hX2 ?_
  clear hK K
  refine wpAnyH_done (by kernel_rfl) ?_ _
  have hb5 := hb2.drew.trans (hX2.mono hb2.size)
  have hk5 : W5.heap[w.heap.size]? = _ := kept_block (w := V.drew) hk2 hX2
  have hg5 : W5.heap[gp + 1]? = _ := kept_block (w := V.drew) hg2 hX2
  have hps5 := (hps3.below (Below.refl _ V).drew).below hX2
  clear hb2 hk2 hg2 hps3 c0 c1 c2 c3 q0 q1 q2 q3 hb4 hX1 hX2
  have hgo : (kG 130 xx xy yx yy).ok := kG_ok Hok.out
  have hcr : cRight (kG 130 xx xy yx yy) = true := (kG_right _ _ _ _ _ (by decide)).trans HRt.out
  go_upto_region 8 with fail
  clear cK
  have hb6 := hb5.alloc hb5.size (.cells #[.int .i64 0, .int .i64 2, .int .i64 4, .int .i64 8, .int .i64 0, .int .i64 0] 3)
  have hX6 := (Below.refl W5.heap.size W5).alloc (Nat.le_refl _) (.cells #[.int .i64 0, .int .i64 2, .int .i64 4, .int .i64 8, .int .i64 0, .int .i64 0] 3)
  have hk6 := kept_block hk5 hX6
  have hg6 := kept_block hg5 hX6
  have hps6 := hps5.below hX6
  clear hb5 hk5 hg5 hps5 hX6
  generalize W5.alloc _ = W6 at *
  have hrows : CgV.rows W6 ⟨(kG 130 xx xy yx yy), some ⟨gp, 0, none⟩, 1, 1, none, 0, 0⟩ := ⟨hps6, Row.empty _ _⟩
  have HBy : Hid (Calls Try.prog 17 #[.agg #[.int .i16 0, .int .i16 0, .int .i16 0, .int .i16 0, .slice (some ⟨gp, 0, none⟩) 1 1, .slice none 0 0]] W6 (RetB W6 (cBytes (kG 130 xx xy yx yy)))) := cbytes_any ⟨(kG 130 xx xy yx yy), some ⟨gp, 0, none⟩, 1, 1, none, 0, 0⟩ W6 hrows (by show (1 : Nat) ≤ 1000000; omega) (by show (0 : Nat) ≤ 1000000; omega) hgo
  have HRi : Hid (∀ W, Below W6.heap.size W6 W → Calls Try.prog 18 #[.agg #[.int .i16 0, .int .i16 0, .int .i16 0, .int .i16 0, .slice (some ⟨gp, 0, none⟩) 1 1, .slice none 0 0]] W (Ret W (.bool true))) := fun W hW => by
    have h := cright_any ⟨(kG 130 xx xy yx yy), some ⟨gp, 0, none⟩, 1, 1, none, 0, 0⟩ W (hrows.below hW) (by show (1 : Nat) ≤ 1000000; omega) (by show (0 : Nat) ≤ 1000000; omega) hgo
    rw [show CgV.g ⟨(kG 130 xx xy yx yy), some ⟨gp, 0, none⟩, 1, 1, none, 0, 0⟩ = (kG 130 xx xy yx yy) from rfl, hcr] at h
    exact h
  have HGo := Lib.hid hgo
  have HCr := Lib.hid hcr
  clear hrows hps6 hcr hgo
  obtain ⟨c0, c1, c2, c3, c4, c5⟩ := cells6 hg6
  go_wp2_with fail
  with_reducible refine HBy.out.mono ?_
  rintro e7 w7 ⟨A, an, ac, rfl, hown, hb7⟩
  have hk7 := kept_block hk6 hb7
  have hg7 := kept_block hg6 hb7
  have hbw7 := hb6.trans (hb7.mono hb6.size)
  clear HBy hk6 hg6 hb6 c0 c1 c2 c3 c4 c5
  obtain ⟨c0, c1, c2, c3, c4, c5⟩ := cells6 hg7
  unfold cBytes at hown
  rw [HCr.out, if_pos rfl] at hown
  have hlen := kG_len 130 xx xy yx yy (by decide) HRt.out
  rw [show 10 + pSz (knd 130) (fb 130 1) = 24 by decide] at hlen
  obtain rfl : an = 24 := hown.len.symm.trans hlen
  have HPa := Lib.hid (cparse_any A 24 ac _ w7 hown.row (cB_bytes _ HGo.out HCr.out) (by omega) hown.cap)
  have HOk := cOk_cB _ HGo.out HCr.out []
  have hdec := (cB_dec _ HGo.out HCr.out []).2.1
  rw [List.append_nil] at HOk hdec
  clear hlen hown
  go_upto_region 11 with fail
  go_wp2_with fail
  with_reducible refine HPa.out.mono ?_
  rintro e8 w8 ⟨hb8, hway⟩
  rcases hway with ⟨hno, _⟩ | ⟨_, v, rfl, hvr, hvg, _, _⟩
  · rw [HOk] at hno
    cases hno
  rw [hdec] at hvg
  obtain ⟨g2, QA, q, qc, PA, pn, pc⟩ := v
  simp only at hvg
  subst hvg
  have hq1 : (1 : Nat) = q := hvr.ps.len
  subst hq1
  have hpn : (0 : Nat) = pn := hvr.pr.len
  subst hpn
  clear HPa HOk hdec
  have hb78 := hb7.trans (hb8.mono hb7.size)
  have hk8 := kept_block hk7 hb8
  have hg8 := kept_block hg7 hb8
  have hb8w := hbw7.trans (hb8.mono hbw7.size)
  have hAx := (Below.refl w8.heap.size w8).alloc (Nat.le_refl _) (.cells #[.int .i16 0, .int .i16 0, .int .i16 0, .int .i16 0, .slice QA 1 qc, .slice PA 0 pc] 34)
  have hx9 := heap_alloc_new w8 (.cells #[.int .i16 0, .int .i16 0, .int .i16 0, .int .i16 0, .slice QA 1 qc, .slice PA 0 pc] 34)
  have hk9 := kept_block hk8 hAx
  have hg9 := kept_block hg8 hAx
  have hb9w := hb8w.trans (hAx.mono hb8w.size)
  have hps9 := hvr.ps.below hAx
  have hb79 := hb78.trans (hAx.mono hb78.size)
  have hnew := heap_alloc_new w8 (.cells #[.int .i16 0, .int .i16 0, .int .i16 0, .int .i16 0, .slice none 0 0, .slice none 0 0] 34)
  clear hb8 hb78 hk8 hg8 hb8w hAx hvr hk7 hg7 hbw7 hb7 c0 c1 c2 c3 c4 c5
  unfold CgV.val CgV.cells kG
  simp only
  go_upto_region 12 with fail
  clear hnew
  generalize w8.alloc _ = w9 at *
  have HR1 := Lib.hid (HRi.out _ hb79.drew)
  clear HRi hb79
  have heq2 := fun W => eq_mx xx xy yx yy xx xy yx yy W
  rw [show decide (([xx, xy, yx, yy] : List Int) = [xx, xy, yx, yy]) = true from decide_eq_true rfl] at heq2
  obtain ⟨gq, off, rfl, hgq, _, _, _, _, d4, d5, d6, d7⟩ := atPt hps9 (j := 0) rfl
  simp only [Nat.zero_mul, Nat.add_zero, kPt] at d4 d5 d6 d7
  obtain ⟨q0, q1, q2, q3⟩ := cells4 (w := w9.drew) hk9
  obtain ⟨c0, c1, c2, c3, c4, c5⟩ := cells6 (w := w9.drew) hg9
  obtain ⟨x0, x1, x2, x3, x4, x5⟩ := cells6 (w := w9.drew) hx9
  replace d4 : w9.drew.cell? _ = _ := d4
  replace d5 : w9.drew.cell? _ = _ := d5
  replace d6 : w9.drew.cell? _ = _ := d6
  replace d7 : w9.drew.cell? _ = _ := d7
  have hoff4 : off + 4 = off + 4 := rfl
  refine regF_start (by kernel_rfl) ?_
  refine regF_take (i := 0) (d := some 76) (v := ?_) (Ext.refl _) rfl rfl (by kernel_rfl) (by kernel_rfl) (by kernel_rfl) (fun _ _ _ h => h) (Or.inl ⟨by rfl, ?_⟩) ?_
  rotate_left
  · intro w' hx; have r0 := hx.cell c0; have r1 := hx.cell c1; have r2 := hx.cell c2; have r3 := hx.cell c3; have r4 := hx.cell c4; have r5 := hx.cell c5; (go_simp <;> with_reducible rfl)
  simp only [Act.put, List.setIfInBounds_toArray, List.set_cons_zero, List.set_cons_succ]
  refine regF_one 1 _ (by kernel_rfl) rfl ?_
  intro K hK
  go_simp
  refine HR1.out.mono ?_
  rintro e10 w10 ⟨rfl, hb10⟩
  have hX1 := (Ext.refl w9.drew).call hb10
  refine hK.out _ _ hX1 ?_
  clear hK K
  refine regF_take (i := 2) (d := some 78) (v := ?_) hX1 rfl rfl (by kernel_rfl) (by kernel_rfl) (by kernel_rfl) (fun _ _ _ h => h) (Or.inl ⟨by rfl, ?_⟩) ?_
  rotate_left
  · intro w' hx; (go_simp <;> with_reducible rfl)
  simp only [Act.put, List.setIfInBounds_toArray, List.set_cons_zero, List.set_cons_succ]
  refine regF_take (i := 3) (d := some 79) (v := ?_) hX1 rfl rfl (by kernel_rfl) (by kernel_rfl) (by kernel_rfl) (fun _ _ _ h => h) (Or.inl ⟨by rfl, ?_⟩) ?_
  rotate_left
  · intro w' hx; (go_simp <;> with_reducible rfl)
  simp only [Act.put, List.setIfInBounds_toArray, List.set_cons_zero, List.set_cons_succ]
  refine regF_take (i := 4) (d := some 80) (v := ?_) hX1 rfl rfl (by kernel_rfl) (by kernel_rfl) (by kernel_rfl) (fun _ _ _ h => h) (Or.inl ⟨by rfl, ?_⟩) ?_
  rotate_left
  · intro w' hx; (go_simp <;> with_reducible rfl)
  simp only [Act.put, List.setIfInBounds_toArray, List.set_cons_zero, List.set_cons_succ]
  refine regF_take (i := 5) (d := some 81) (v := ?_) hX1 rfl rfl (by kernel_rfl) (by kernel_rfl) (by kernel_rfl) (fun _ _ _ h => h) (Or.inl ⟨by rfl, ?_⟩) ?_
  rotate_left
  · intro w' hx; (go_simp <;> with_reducible rfl)
  simp only [Act.put, List.setIfInBounds_toArray, List.set_cons_zero, List.set_cons_succ]
  refine regF_take (i := 6) (d := some 82) (v := ?_) hX1 rfl rfl (by kernel_rfl) (by kernel_rfl) (by kernel_rfl) (fun _ _ _ h => h) (Or.inl ⟨by rfl, ?_⟩) ?_
  rotate_left
  · intro w' hx; (go_simp <;> with_reducible rfl)
  simp only [Act.put, List.setIfInBounds_toArray, List.set_cons_zero, List.set_cons_succ]
  refine regF_take (i := 7) (d := some 83) (v := ?_) hX1 rfl rfl (by kernel_rfl) (by kernel_rfl) (by kernel_rfl) (fun _ _ _ h => h) (Or.inl ⟨by rfl, ?_⟩) ?_
  rotate_left
  · intro w' hx; (go_simp <;> with_reducible rfl)
  simp only [Act.put, List.setIfInBounds_toArray, List.set_cons_zero, List.set_cons_succ]
  refine regF_take (i := 8) (d := some 84) (v := ?_) hX1 rfl rfl (by kernel_rfl) (by kernel_rfl) (by kernel_rfl) (fun _ _ _ h => h) (Or.inl ⟨by rfl, ?_⟩) ?_
  rotate_left
  · intro w' hx; (go_simp <;> with_reducible rfl)
  simp only [Act.put, List.setIfInBounds_toArray, List.set_cons_zero, List.set_cons_succ]
  refine regF_take (i := 9) (d := some 85) (v := ?_) hX1 rfl rfl (by kernel_rfl) (by kernel_rfl) (by kernel_rfl) (fun _ _ _ h => h) (Or.inl ⟨by rfl, ?_⟩) ?_
  rotate_left
  · intro w' hx; (go_simp <;> with_reducible rfl)
  simp only [Act.put, List.setIfInBounds_toArray, List.set_cons_zero, List.set_cons_succ]
  refine regF_take (i := 10) (d := some 86) (v := ?_) hX1 rfl rfl (by kernel_rfl) (by kernel_rfl) (by kernel_rfl) (fun _ _ _ h => h) (Or.inl ⟨by rfl, ?_⟩) ?_
  rotate_left
  · intro w' hx; (go_simp <;> with_reducible rfl)
  simp only [Act.put, List.setIfInBounds_toArray, List.set_cons_zero, List.set_cons_succ]
  refine regF_take (i := 11) (d := some 87) (v := ?_) hX1 rfl rfl (by kernel_rfl) (by kernel_rfl) (by kernel_rfl) (fun _ _ _ h => h) (Or.inl ⟨by rfl, ?_⟩) ?_
  rotate_left
  · intro w' hx; (go_simp <;> with_reducible rfl)
  simp only [Act.put, List.setIfInBounds_toArray, List.set_cons_zero, List.set_cons_succ]
  refine regF_take (i := 12) (d := some 88) (v := ?_) hX1 rfl rfl (by kernel_rfl) (by kernel_rfl) (by kernel_rfl) (fun _ _ _ h => h) (Or.inl ⟨by rfl, ?_⟩) ?_
  rotate_left
  · intro w' hx; (go_simp <;> with_reducible rfl)
  simp only [Act.put, List.setIfInBounds_toArray, List.set_cons_zero, List.set_cons_succ]
  refine regF_take (i := 13) (d := some 89) (v := ?_) hX1 rfl rfl (by kernel_rfl) (by kernel_rfl) (by kernel_rfl) (fun _ _ _ h => h) (Or.inl ⟨by rfl, ?_⟩) ?_
  rotate_left
  · intro w' hx; (go_simp <;> with_reducible rfl)
  simp only [Act.put, List.setIfInBounds_toArray, List.set_cons_zero, List.set_cons_succ]
  refine regF_take (i := 14) (d := some 90) (v := ?_) hX1 rfl rfl (by kernel_rfl) (by kernel_rfl) (by kernel_rfl) (fun _ _ _ h => h) (Or.inl ⟨by rfl, ?_⟩) ?_
  rotate_left
  · intro w' hx; have r4 := hx.cell x4; (go_simp <;> with_reducible rfl)
  simp only [Act.put, List.setIfInBounds_toArray, List.set_cons_zero, List.set_cons_succ]
  refine regF_take (i := 15) (d := some 91) (v := ?_) hX1 rfl rfl (by kernel_rfl) (by kernel_rfl) (by kernel_rfl) (fun _ _ _ h => h) (Or.inl ⟨by rfl, ?_⟩) ?_
  rotate_left
  · intro w' hx; (go_simp <;> with_reducible rfl)
  simp only [Act.put, List.setIfInBounds_toArray, List.set_cons_zero, List.set_cons_succ]
  refine regF_take (i := 16) (d := some 92) (v := ?_) hX1 rfl rfl (by kernel_rfl) (by kernel_rfl) (by kernel_rfl) (fun _ _ _ h => h) (Or.inl ⟨by rfl, ?_⟩) ?_
  rotate_left
  · intro w' hx; (go_simp <;> with_reducible rfl)
  simp only [Act.put, List.setIfInBounds_toArray, List.set_cons_zero, List.set_cons_succ]
  refine regF_take (i := 17) (d := some 93) (v := ?_) hX1 rfl rfl (by kernel_rfl) (by kernel_rfl) (by kernel_rfl) (fun _ _ _ h => h) (Or.inl ⟨by rfl, ?_⟩) ?_
  rotate_left
  · intro w' hx; have r4 := hx.cell d4; have r5 := hx.cell d5; have r6 := hx.cell d6; have r7 := hx.cell d7; (go_simp <;> with_reducible rfl)
  simp only [Act.put, List.setIfInBounds_toArray, List.set_cons_zero, List.set_cons_succ]
  refine regF_take (i := 18) (d := some 94) (v := ?_) hX1 rfl rfl (by kernel_rfl) (by kernel_rfl) (by kernel_rfl) (fun _ _ _ h => h) (Or.inl ⟨by rfl, ?_⟩) ?_
  rotate_left
  · intro w' hx; have r0 := hx.cell q0; have r1 := hx.cell q1; have r2 := hx.cell q2; have r3 := hx.cell q3; (go_simp <;> with_reducible rfl)
  simp only [Act.put, List.setIfInBounds_toArray, List.set_cons_zero, List.set_cons_succ]
  refine regF_take (i := 19) (d := some 95) (v := ?_) hX1 rfl rfl (by kernel_rfl) (by kernel_rfl) (by kernel_rfl) (fun _ _ _ h => h) (Or.inl ⟨by rfl, ?_⟩) ?_
  rotate_left
  · intro w' hx; (go_simp <;> with_reducible rfl)
  simp only [Act.put, List.setIfInBounds_toArray, List.set_cons_zero, List.set_cons_succ]
  refine regF_take (i := 20) (d := some 96) (v := ?_) hX1 rfl rfl (by kernel_rfl) (by kernel_rfl) (by kernel_rfl) (fun _ _ _ h => h) (Or.inl ⟨by rfl, ?_⟩) ?_
  rotate_left
  · intro w' hx; (go_simp <;> with_reducible rfl)
  simp only [Act.put, List.setIfInBounds_toArray, List.set_cons_zero, List.set_cons_succ]
  refine regF_one 21 _ (by kernel_rfl) rfl ?_
  intro K hK
  go_simp
  refine hK.out _ _ hX1 ?_
  clear hK K
  refine wpAnyH_done (by kernel_rfl) ?_ _
  go_wp2
  go_ret
  exact ⟨rfl, hb9w.drew.trans (hX1.mono hb9w.size)⟩

set_option maxRecDepth 1000000 in
set_option maxHeartbeats 8000000 in
theorem kinds_3_y (xx xy yx yy n : Int) (u e : Bool) (w : World) (n0 : 0 ≤ n) (n1 : n ≤ 255) (hK : n % 6 = 3) (h0 : -32768 ≤ xx ∧ xx ≤ 32767) (h1 : -32768 ≤ xy ∧ xy ≤ 32767) (h2 : -32768 ≤ yx ∧ yx ≤ 32767) (h3 : -32768 ≤ yy ∧ yy ≤ 32767) (hxy : xy = 0) (hyx : (yx == 0) = false)
    (hU : decide ([xx, xy, yx, yy] = [16384, 0, 0, 16384]) = u) (hE : decide (xx = yy) = e) (hE2 : (xx == yy) = e) (hR : ptRight (kPt 130 xx xy yx yy) = true) :
    Calls Try.prog 3 #[mxV xx xy yx yy, .int .u8 n] w (True_ w) := by
  subst hxy
  have HAw := Lib.hid (fun W => awake13_any W)
  have Hok := Lib.hid (kPt_ok (f := 130) (by decide) h0 h1 h2 h3)
  have HRt := Lib.hid hR
  have heq := fun W => eq_mx xx 0 yx yy 16384 0 0 16384 W
  rw [hU] at heq
  have hA := (Below.refl w.heap.size w).alloc (Nat.le_refl _) (.cells #[.int .i16 xx, .int .i16 0, .int .i16 yx, .int .i16 yy] 24)
  have hk := heap_alloc_new w (.cells #[.int .i16 xx, .int .i16 0, .int .i16 yx, .int .i16 yy] 24)
  have hq : Int.tmod n 6 = 3 := by rw [Int.tmod_eq_emod_of_nonneg n0]; exact hK
  unfold mxV
  clear h0 h1 h2 h3 hU hR hK
  go_enter Try.func3, Try.ntmps3
  go_wp2_with fail
  with_reducible refine (HAw.out _).mono ?_
  rintro e0 w0 ⟨rfl, hb0⟩
  have hk0 := kept_block hk hb0
  have hbw := hA.trans (hb0.mono hA.size)
  have hlt : w.heap.size < w0.heap.size := lt_of_block hk0
  clear HAw hA hk hb0
  go_upto_region 4 with fail
  have hk1 := kept_alloc hk0 (.cells #[.int .u16 0, .int .u16 8, .int .u16 64, .int .u16 128, .int .u16 72, .int .u16 192] 26)
  have hb1 := hbw.alloc hbw.size (.cells #[.int .u16 0, .int .u16 8, .int .u16 64, .int .u16 128, .int .u16 72, .int .u16 192] 26)
  have hlt1 := lt_of_block hk1
  clear hk0 hbw hlt
  generalize w0.alloc _ = V0 at *
  have hor : bits .or .u16 2 128 = 130 := by decide
  obtain ⟨c0, c1, c2, c3⟩ := cells4 hk1
  have hA2 := (Below.refl V0.heap.size V0).alloc (Nat.le_refl _) (.cells #[.int .u16 130, .int .u16 0, .int .i16 0, .int .i16 0, .int .i16 xx, .int .i16 0, .int .i16 yx, .int .i16 yy] 29)
  have hA3 := hA2.alloc hA2.size (.cells #[.int .i16 0, .int .i16 0, .int .i16 0, .int .i16 0, .slice (some ⟨V0.heap.size, 0, none⟩) 1 1, .slice none 0 0] 34)
  have hk2 := kept_block hk1 hA3
  have hb2 := hb1.trans (hA3.mono hb1.size)
  have hg2 := heap_alloc_new (V0.alloc (.cells #[.int .u16 130, .int .u16 0, .int .i16 0, .int .i16 0, .int .i16 xx, .int .i16 0, .int .i16 yx, .int .i16 yy] 29)) (.cells #[.int .i16 0, .int .i16 0, .int .i16 0, .int .i16 0, .slice (some ⟨V0.heap.size, 0, none⟩) 1 1, .slice none 0 0] 34)
  have hps2 : RowS encPt 8 (V0.alloc (.cells #[.int .u16 130, .int .u16 0, .int .i16 0, .int .i16 0, .int .i16 xx, .int .i16 0, .int .i16 yx, .int .i16 yy] 29)) (some ⟨V0.heap.size, 0, none⟩) 1 [kPt 130 xx 0 yx yy] := rowS_vals encPt_len V0 29 [kPt 130 xx 0 yx yy] _ rfl 1 rfl
  have hps3 := hps2.below ((Below.refl _ (V0.alloc (.cells #[.int .u16 130, .int .u16 0, .int .i16 0, .int .i16 0, .int .i16 xx, .int .i16 0, .int .i16 yx, .int .i16 yy] 29))).alloc (Nat.le_refl _) (.cells #[.int .i16 0, .int .i16 0, .int .i16 0, .int .i16 0, .slice (some ⟨V0.heap.size, 0, none⟩) 1 1, .slice none 0 0] 34))
  have hnew := heap_alloc_new (V0.alloc (.cells #[.int .u16 130, .int .u16 0, .int .i16 0, .int .i16 0, .int .i16 xx, .int .i16 0, .int .i16 yx, .int .i16 yy] 29)) (.cells #[.int .i16 0, .int .i16 0, .int .i16 0, .int .i16 0, .slice none 0 0, .slice none 0 0] 34)
  have hgs : (V0.alloc (.cells #[.int .u16 130, .int .u16 0, .int .i16 0, .int .i16 0, .int .i16 xx, .int .i16 0, .int .i16 yx, .int .i16 yy] 29)).heap.size = V0.heap.size + 1 := by simp
  clear hA2 hA3 hps2 hk1 hb1
  go_upto_region 5 with fail
  clear hnew c0 c1 c2 c3 hor
  rw [hgs] at hg2
  have hgs2 := lt_of_block hg2
  clear hgs
  generalize (V0.alloc (.cells #[.int .u16 130, .int .u16 0, .int .i16 0, .int .i16 0, .int .i16 xx, .int .i16 0, .int .i16 yx, .int .i16 yy] 29)).alloc _ = V at *
  generalize V0.heap.size = gp at *
  obtain ⟨c0, c1, c2, c3⟩ := cells4 hk2
  go_upto_region 6 with fail
  have q0 : V.drew.cell? ⟨w.heap.size, 0, none⟩ = _ := c0
  have q1 : V.drew.cell? ⟨w.heap.size, 1, none⟩ = _ := c1
  have q2 : V.drew.cell? ⟨w.heap.size, 2, none⟩ = _ := c2
  have q3 : V.drew.cell? ⟨w.heap.size, 3, none⟩ = _ := c3
  refine regF_start (by kernel_rfl) ?_
  refine regF_take (i := 0) (d := some 35) (v := ?_) (Ext.refl _) rfl rfl (by kernel_rfl) (by kernel_rfl) (by kernel_rfl) (fun _ _ _ h => h) (Or.inl ⟨by rfl, ?_⟩) ?_
  rotate_left
  · intro w' hx; have r0 := hx.cell q0; have r1 := hx.cell q1; have r2 := hx.cell q2; have r3 := hx.cell q3; (go_simp <;> with_reducible rfl)
  simp only [Act.put, List.setIfInBounds_toArray, List.set_cons_zero, List.set_cons_succ]
  refine regF_take (i := 3) (d := some 38) (v := ?_) (Ext.refl _) rfl rfl (by kernel_rfl) (by kernel_rfl) (by kernel_rfl) (fun _ _ _ h => h) (Or.inl ⟨by rfl, ?_⟩) ?_
  rotate_left
  · intro w' hx; (go_simp <;> with_reducible rfl)
  simp only [Act.put, List.setIfInBounds_toArray, List.set_cons_zero, List.set_cons_succ]
  refine regF_take (i := 11) (d := some 46) (v := ?_) (Ext.refl _) rfl rfl (by kernel_rfl) (by kernel_rfl) (by kernel_rfl) (fun _ _ _ h => h) (Or.inl ⟨by rfl, ?_⟩) ?_
  rotate_left
  · intro w' hx; (go_simp <;> with_reducible rfl)
  simp only [Act.put, List.setIfInBounds_toArray, List.set_cons_zero, List.set_cons_succ]
  refine regF_take (i := 13) (d := some 48) (v := ?_) (Ext.refl _) rfl rfl (by kernel_rfl) (by kernel_rfl) (by kernel_rfl) (fun _ _ _ h => h) (Or.inl ⟨by rfl, ?_⟩) ?_
  rotate_left
  · intro w' hx; (go_simp <;> with_reducible rfl)
  simp only [Act.put, List.setIfInBounds_toArray, List.set_cons_zero, List.set_cons_succ]
  refine regF_take (i := 14) (d := some 49) (v := ?_) (Ext.refl _) rfl rfl (by kernel_rfl) (by kernel_rfl) (by kernel_rfl) (fun _ _ _ h => h) (Or.inl ⟨by rfl, ?_⟩) ?_
  rotate_left
  · intro w' hx; (go_simp <;> with_reducible rfl)
  simp only [Act.put, List.setIfInBounds_toArray, List.set_cons_zero, List.set_cons_succ]
  refine regF_one 1 _ (by kernel_rfl) rfl ?_
  intro K hK
  go_simp
  refine (unit_any _).mono ?_
  rintro e4 W4 ⟨rfl, hb4⟩
  unfold mxV
  have hX1 := (Ext.refl V.drew).call hb4
  refine hK.out _ _ hX1 ?_
  clear hK K
  refine regF_take (i := 2) (d := some 37) (v := ?_) hX1 rfl rfl (by kernel_rfl) (by kernel_rfl) (by kernel_rfl) (fun _ _ _ h => h) (Or.inl ⟨by rfl, ?_⟩) ?_
  rotate_left
  · intro w' hx; (go_simp <;> with_reducible rfl)
  simp only [Act.put, List.setIfInBounds_toArray, List.set_cons_zero, List.set_cons_succ]
  refine regF_take (i := 4) (d := some 39) (v := ?_) hX1 rfl rfl (by kernel_rfl) (by kernel_rfl) (by kernel_rfl) (fun _ _ _ h => h) (Or.inl ⟨by rfl, ?_⟩) ?_
  rotate_left
  · intro w' hx; (go_simp <;> with_reducible rfl)
  simp only [Act.put, List.setIfInBounds_toArray, List.set_cons_zero, List.set_cons_succ]
  refine regF_take (i := 5) (d := some 40) (v := undef) hX1 rfl rfl (by kernel_rfl) (by kernel_rfl) (by kernel_rfl) (fun _ _ _ h => h) (Or.inr ⟨by rfl, rfl⟩) ?_
  simp only [Act.put, List.setIfInBounds_toArray, List.set_cons_zero, List.set_cons_succ]
  refine regF_take (i := 6) (d := some 41) (v := undef) hX1 rfl rfl (by kernel_rfl) (by kernel_rfl) (by kernel_rfl) (fun _ _ _ h => h) (Or.inr ⟨by rfl, rfl⟩) ?_
  simp only [Act.put, List.setIfInBounds_toArray, List.set_cons_zero, List.set_cons_succ]
  refine regF_take (i := 7) (d := some 42) (v := undef) hX1 rfl rfl (by kernel_rfl) (by kernel_rfl) (by kernel_rfl) (fun _ _ _ h => h) (Or.inr ⟨by rfl, rfl⟩) ?_
  simp only [Act.put, List.setIfInBounds_toArray, List.set_cons_zero, List.set_cons_succ]
  refine regF_take (i := 8) (d := some 43) (v := undef) hX1 rfl rfl (by kernel_rfl) (by kernel_rfl) (by kernel_rfl) (fun _ _ _ h => h) (Or.inr ⟨by rfl, rfl⟩) ?_
  simp only [Act.put, List.setIfInBounds_toArray, List.set_cons_zero, List.set_cons_succ]
  refine regF_take (i := 9) (d := some 44) (v := undef) hX1 rfl rfl (by kernel_rfl) (by kernel_rfl) (by kernel_rfl) (fun _ _ _ h => h) (Or.inr ⟨by rfl, rfl⟩) ?_
  simp only [Act.put, List.setIfInBounds_toArray, List.set_cons_zero, List.set_cons_succ]
  refine regF_take (i := 10) (d := some 45) (v := ?_) hX1 rfl rfl (by kernel_rfl) (by kernel_rfl) (by kernel_rfl) (fun _ _ _ h => h) (Or.inl ⟨by rfl, ?_⟩) ?_
  rotate_left
  · intro w' hx; (go_simp <;> with_reducible rfl)
  simp only [Act.put, List.setIfInBounds_toArray, List.set_cons_zero, List.set_cons_succ]
  refine regF_one 12 _ (by kernel_rfl) rfl ?_
  intro K hK
  go_simp
  have hX2 := hX1.new (.cells #[.bool u, .bool false, .bool false, .bool true, .bool false, .bool false] 4)
  have hkn := heap_alloc_new W4 (.cells #[.bool u, .bool false, .bool false, .bool true, .bool false, .bool false] 4)
  have cK : (W4.alloc (.cells #[.bool u, .bool false, .bool false, .bool true, .bool false, .bool false] 4)).cell? ⟨W4.heap.size, 3, none⟩ = some (.bool true) := cell_of_row _ _ 3 _ _ _ hkn
  refine hK.out _ _ hX2 ?_
  generalize W4.alloc _ = W5 at *
  clear hK K hkn
  refine regF_one 15 _ (by kernel_rfl) rfl ?_
  intro K hK
  go_simp
  refine hK.out _ _ hX2 ?_
  clear hK K
  refine regF_one 16 _ (by kernel_rfl) rfl ?_
  intro K hK
  go_simp
  refine hK.out _ _ hX2 ?_
  clear hK K
  refine regF_one 17 _ (by kernel_rfl) rfl ?_
  intro K hK
  go_simp
  refine hK.out _ _ hX2 ?_
  clear hK K
  refine wpAnyH_done (by kernel_rfl) ?_ _
  have hb5 := hb2.drew.trans (hX2.mono hb2.size)
  have hk5 : W5.heap[w.heap.size]? = _ := kept_block (w := V.drew) hk2 hX2
  have hg5 : W5.heap[gp + 1]? = _ := kept_block (w := V.drew) hg2 hX2
  have hps5 := (hps3.below (Below.refl _ V).drew).below hX2
  clear hb2 hk2 hg2 hps3 c0 c1 c2 c3 q0 q1 q2 q3 hb4 hX1 hX2
  have hgo : (kG 130 xx 0 yx yy).ok := kG_ok Hok.out
  have hcr : cRight (kG 130 xx 0 yx yy) = true := (kG_right _ _ _ _ _ (by decide)).trans HRt.out
  go_upto_region 8 with fail
  clear cK
  have hb6 := hb5.alloc hb5.size (.cells #[.int .i64 0, .int .i64 2, .int .i64 4, .int .i64 8, .int .i64 0, .int .i64 0] 3)
  have hX6 := (Below.refl W5.heap.size W5).alloc (Nat.le_refl _) (.cells #[.int .i64 0, .int .i64 2, .int .i64 4, .int .i64 8, .int .i64 0, .int .i64 0] 3)
  have hk6 := kept_block hk5 hX6
  have hg6 := kept_block hg5 hX6
  have hps6 := hps5.below hX6
  clear hb5 hk5 hg5 hps5 hX6
  generalize W5.alloc _ = W6 at *
  have hrows : CgV.rows W6 ⟨(kG 130 xx 0 yx yy), some ⟨gp, 0, none⟩, 1, 1, none, 0, 0⟩ := ⟨hps6, Row.empty _ _⟩
  have HBy : Hid (Calls Try.prog 17 #[.agg #[.int .i16 0, .int .i16 0, .int .i16 0, .int .i16 0, .slice (some ⟨gp, 0, none⟩) 1 1, .slice none 0 0]] W6 (RetB W6 (cBytes (kG 130 xx 0 yx yy)))) := cbytes_any ⟨(kG 130 xx 0 yx yy), some ⟨gp, 0, none⟩, 1, 1, none, 0, 0⟩ W6 hrows (by show (1 : Nat) ≤ 1000000; omega) (by show (0 : Nat) ≤ 1000000; omega) hgo
  have HRi : Hid (∀ W, Below W6.heap.size W6 W → Calls Try.prog 18 #[.agg #[.int .i16 0, .int .i16 0, .int .i16 0, .int .i16 0, .slice (some ⟨gp, 0, none⟩) 1 1, .slice none 0 0]] W (Ret W (.bool true))) := fun W hW => by
    have h := cright_any ⟨(kG 130 xx 0 yx yy), some ⟨gp, 0, none⟩, 1, 1, none, 0, 0⟩ W (hrows.below hW) (by show (1 : Nat) ≤ 1000000; omega) (by show (0 : Nat) ≤ 1000000; omega) hgo
    rw [show CgV.g ⟨(kG 130 xx 0 yx yy), some ⟨gp, 0, none⟩, 1, 1, none, 0, 0⟩ = (kG 130 xx 0 yx yy) from rfl, hcr] at h
    exact h
  have HGo := Lib.hid hgo
  have HCr := Lib.hid hcr
  clear hrows hps6 hcr hgo
  obtain ⟨c0, c1, c2, c3, c4, c5⟩ := cells6 hg6
  go_wp2_with fail
  with_reducible refine HBy.out.mono ?_
  rintro e7 w7 ⟨A, an, ac, rfl, hown, hb7⟩
  have hk7 := kept_block hk6 hb7
  have hg7 := kept_block hg6 hb7
  have hbw7 := hb6.trans (hb7.mono hb6.size)
  clear HBy hk6 hg6 hb6 c0 c1 c2 c3 c4 c5
  obtain ⟨c0, c1, c2, c3, c4, c5⟩ := cells6 hg7
  unfold cBytes at hown
  rw [HCr.out, if_pos rfl] at hown
  have hlen := kG_len 130 xx 0 yx yy (by decide) HRt.out
  rw [show 10 + pSz (knd 130) (fb 130 1) = 24 by decide] at hlen
  obtain rfl : an = 24 := hown.len.symm.trans hlen
  have HPa := Lib.hid (cparse_any A 24 ac _ w7 hown.row (cB_bytes _ HGo.out HCr.out) (by omega) hown.cap)
  have HOk := cOk_cB _ HGo.out HCr.out []
  have hdec := (cB_dec _ HGo.out HCr.out []).2.1
  rw [List.append_nil] at HOk hdec
  clear hlen hown
  go_upto_region 11 with fail
  go_wp2_with fail
  with_reducible refine HPa.out.mono ?_
  rintro e8 w8 ⟨hb8, hway⟩
  rcases hway with ⟨hno, _⟩ | ⟨_, v, rfl, hvr, hvg, _, _⟩
  · rw [HOk] at hno
    cases hno
  rw [hdec] at hvg
  obtain ⟨g2, QA, q, qc, PA, pn, pc⟩ := v
  simp only at hvg
  subst hvg
  have hq1 : (1 : Nat) = q := hvr.ps.len
  subst hq1
  have hpn : (0 : Nat) = pn := hvr.pr.len
  subst hpn
  clear HPa HOk hdec
  have hb78 := hb7.trans (hb8.mono hb7.size)
  have hk8 := kept_block hk7 hb8
  have hg8 := kept_block hg7 hb8
  have hb8w := hbw7.trans (hb8.mono hbw7.size)
  have hAx := (Below.refl w8.heap.size w8).alloc (Nat.le_refl _) (.cells #[.int .i16 0, .int .i16 0, .int .i16 0, .int .i16 0, .slice QA 1 qc, .slice PA 0 pc] 34)
  have hx9 := heap_alloc_new w8 (.cells #[.int .i16 0, .int .i16 0, .int .i16 0, .int .i16 0, .slice QA 1 qc, .slice PA 0 pc] 34)
  have hk9 := kept_block hk8 hAx
  have hg9 := kept_block hg8 hAx
  have hb9w := hb8w.trans (hAx.mono hb8w.size)
  have hps9 := hvr.ps.below hAx
  have hb79 := hb78.trans (hAx.mono hb78.size)
  have hnew := heap_alloc_new w8 (.cells #[.int .i16 0, .int .i16 0, .int .i16 0, .int .i16 0, .slice none 0 0, .slice none 0 0] 34)
  clear hb8 hb78 hk8 hg8 hb8w hAx hvr hk7 hg7 hbw7 hb7 c0 c1 c2 c3 c4 c5
  unfold CgV.val CgV.cells kG
  simp only
  go_upto_region 12 with fail
  clear hnew
  generalize w8.alloc _ = w9 at *
  have HR1 := Lib.hid (HRi.out _ hb79.drew)
  clear HRi hb79
  have heq2 := fun W => eq_mx xx 0 yx yy xx 0 yx yy W
  rw [show decide (([xx, 0, yx, yy] : List Int) = [xx, 0, yx, yy]) = true from decide_eq_true rfl] at heq2
  obtain ⟨gq, off, rfl, hgq, _, _, _, _, d4, d5, d6, d7⟩ := atPt hps9 (j := 0) rfl
  simp only [Nat.zero_mul, Nat.add_zero, kPt] at d4 d5 d6 d7
  obtain ⟨q0, q1, q2, q3⟩ := cells4 (w := w9.drew) hk9
  obtain ⟨c0, c1, c2, c3, c4, c5⟩ := cells6 (w := w9.drew) hg9
  obtain ⟨x0, x1, x2, x3, x4, x5⟩ := cells6 (w := w9.drew) hx9
  replace d4 : w9.drew.cell? _ = _ := d4
  replace d5 : w9.drew.cell? _ = _ := d5
  replace d6 : w9.drew.cell? _ = _ := d6
  replace d7 : w9.drew.cell? _ = _ := d7
  have hoff4 : off + 4 = off + 4 := rfl
  refine regF_start (by kernel_rfl) ?_
  refine regF_take (i := 0) (d := some 76) (v := ?_) (Ext.refl _) rfl rfl (by kernel_rfl) (by kernel_rfl) (by kernel_rfl) (fun _ _ _ h => h) (Or.inl ⟨by rfl, ?_⟩) ?_
  rotate_left
  · intro w' hx; have r0 := hx.cell c0; have r1 := hx.cell c1; have r2 := hx.cell c2; have r3 := hx.cell c3; have r4 := hx.cell c4; have r5 := hx.cell c5; (go_simp <;> with_reducible rfl)
  simp only [Act.put, List.setIfInBounds_toArray, List.set_cons_zero, List.set_cons_succ]
  refine regF_one 1 _ (by kernel_rfl) rfl ?_
  intro K hK
  go_simp
  refine HR1.out.mono ?_
  rintro e10 w10 ⟨rfl, hb10⟩
  have hX1 := (Ext.refl w9.drew).call hb10
  refine hK.out _ _ hX1 ?_
  clear hK K
  refine regF_take (i := 2) (d := some 78) (v := ?_) hX1 rfl rfl (by kernel_rfl) (by kernel_rfl) (by kernel_rfl) (fun _ _ _ h => h) (Or.inl ⟨by rfl, ?_⟩) ?_
  rotate_left
  · intro w' hx; (go_simp <;> with_reducible rfl)
  simp only [Act.put, List.setIfInBounds_toArray, List.set_cons_zero, List.set_cons_succ]
  refine regF_take (i := 3) (d := some 79) (v := ?_) hX1 rfl rfl (by kernel_rfl) (by kernel_rfl) (by kernel_rfl) (fun _ _ _ h => h) (Or.inl ⟨by rfl, ?_⟩) ?_
  rotate_left
  · intro w' hx; (go_simp <;> with_reducible rfl)
  simp only [Act.put, List.setIfInBounds_toArray, List.set_cons_zero, List.set_cons_succ]
  refine regF_take (i := 4) (d := some 80) (v := ?_) hX1 rfl rfl (by kernel_rfl) (by kernel_rfl) (by kernel_rfl) (fun _ _ _ h => h) (Or.inl ⟨by rfl, ?_⟩) ?_
  rotate_left
  · intro w' hx; (go_simp <;> with_reducible rfl)
  simp only [Act.put, List.setIfInBounds_toArray, List.set_cons_zero, List.set_cons_succ]
  refine regF_take (i := 5) (d := some 81) (v := ?_) hX1 rfl rfl (by kernel_rfl) (by kernel_rfl) (by kernel_rfl) (fun _ _ _ h => h) (Or.inl ⟨by rfl, ?_⟩) ?_
  rotate_left
  · intro w' hx; (go_simp <;> with_reducible rfl)
  simp only [Act.put, List.setIfInBounds_toArray, List.set_cons_zero, List.set_cons_succ]
  refine regF_take (i := 6) (d := some 82) (v := ?_) hX1 rfl rfl (by kernel_rfl) (by kernel_rfl) (by kernel_rfl) (fun _ _ _ h => h) (Or.inl ⟨by rfl, ?_⟩) ?_
  rotate_left
  · intro w' hx; (go_simp <;> with_reducible rfl)
  simp only [Act.put, List.setIfInBounds_toArray, List.set_cons_zero, List.set_cons_succ]
  refine regF_take (i := 7) (d := some 83) (v := ?_) hX1 rfl rfl (by kernel_rfl) (by kernel_rfl) (by kernel_rfl) (fun _ _ _ h => h) (Or.inl ⟨by rfl, ?_⟩) ?_
  rotate_left
  · intro w' hx; (go_simp <;> with_reducible rfl)
  simp only [Act.put, List.setIfInBounds_toArray, List.set_cons_zero, List.set_cons_succ]
  refine regF_take (i := 8) (d := some 84) (v := ?_) hX1 rfl rfl (by kernel_rfl) (by kernel_rfl) (by kernel_rfl) (fun _ _ _ h => h) (Or.inl ⟨by rfl, ?_⟩) ?_
  rotate_left
  · intro w' hx; (go_simp <;> with_reducible rfl)
  simp only [Act.put, List.setIfInBounds_toArray, List.set_cons_zero, List.set_cons_succ]
  refine regF_take (i := 9) (d := some 85) (v := ?_) hX1 rfl rfl (by kernel_rfl) (by kernel_rfl) (by kernel_rfl) (fun _ _ _ h => h) (Or.inl ⟨by rfl, ?_⟩) ?_
  rotate_left
  · intro w' hx; (go_simp <;> with_reducible rfl)
  simp only [Act.put, List.setIfInBounds_toArray, List.set_cons_zero, List.set_cons_succ]
  refine regF_take (i := 10) (d := some 86) (v := ?_) hX1 rfl rfl (by kernel_rfl) (by kernel_rfl) (by kernel_rfl) (fun _ _ _ h => h) (Or.inl ⟨by rfl, ?_⟩) ?_
  rotate_left
  · intro w' hx; (go_simp <;> with_reducible rfl)
  simp only [Act.put, List.setIfInBounds_toArray, List.set_cons_zero, List.set_cons_succ]
  refine regF_take (i := 11) (d := some 87) (v := ?_) hX1 rfl rfl (by kernel_rfl) (by kernel_rfl) (by kernel_rfl) (fun _ _ _ h => h) (Or.inl ⟨by rfl, ?_⟩) ?_
  rotate_left
  · intro w' hx; (go_simp <;> with_reducible rfl)
  simp only [Act.put, List.setIfInBounds_toArray, List.set_cons_zero, List.set_cons_succ]
  refine regF_take (i := 12) (d := some 88) (v := ?_) hX1 rfl rfl (by kernel_rfl) (by kernel_rfl) (by kernel_rfl) (fun _ _ _ h => h) (Or.inl ⟨by rfl, ?_⟩) ?_
  rotate_left
  · intro w' hx; (go_simp <;> with_reducible rfl)
  simp only [Act.put, List.setIfInBounds_toArray, List.set_cons_zero, List.set_cons_succ]
  refine regF_take (i := 13) (d := some 89) (v := ?_) hX1 rfl rfl (by kernel_rfl) (by kernel_rfl) (by kernel_rfl) (fun _ _ _ h => h) (Or.inl ⟨by rfl, ?_⟩) ?_
  rotate_left
  · intro w' hx; (go_simp <;> with_reducible rfl)
  simp only [Act.put, List.setIfInBounds_toArray, List.set_cons_zero, List.set_cons_succ]
  refine regF_take (i := 14) (d := some 90) (v := ?_) hX1 rfl rfl (by kernel_rfl) (by kernel_rfl) (by kernel_rfl) (fun _ _ _ h => h) (Or.inl ⟨by rfl, ?_⟩) ?_
  rotate_left
  · intro w' hx; have r4 := hx.cell x4; (go_simp <;> with_reducible rfl)
  simp only [Act.put, List.setIfInBounds_toArray, List.set_cons_zero, List.set_cons_succ]
  refine regF_take (i := 15) (d := some 91) (v := ?_) hX1 rfl rfl (by kernel_rfl) (by kernel_rfl) (by kernel_rfl) (fun _ _ _ h => h) (Or.inl ⟨by rfl, ?_⟩) ?_
  rotate_left
  · intro w' hx; (go_simp <;> with_reducible rfl)
  simp only [Act.put, List.setIfInBounds_toArray, List.set_cons_zero, List.set_cons_succ]
  refine regF_take (i := 16) (d := some 92) (v := ?_) hX1 rfl rfl (by kernel_rfl) (by kernel_rfl) (by kernel_rfl) (fun _ _ _ h => h) (Or.inl ⟨by rfl, ?_⟩) ?_
  rotate_left
  · intro w' hx; (go_simp <;> with_reducible rfl)
  simp only [Act.put, List.setIfInBounds_toArray, List.set_cons_zero, List.set_cons_succ]
  refine regF_take (i := 17) (d := some 93) (v := ?_) hX1 rfl rfl (by kernel_rfl) (by kernel_rfl) (by kernel_rfl) (fun _ _ _ h => h) (Or.inl ⟨by rfl, ?_⟩) ?_
  rotate_left
  · intro w' hx; have r4 := hx.cell d4; have r5 := hx.cell d5; have r6 := hx.cell d6; have r7 := hx.cell d7; (go_simp <;> with_reducible rfl)
  simp only [Act.put, List.setIfInBounds_toArray, List.set_cons_zero, List.set_cons_succ]
  refine regF_take (i := 18) (d := some 94) (v := ?_) hX1 rfl rfl (by kernel_rfl) (by kernel_rfl) (by kernel_rfl) (fun _ _ _ h => h) (Or.inl ⟨by rfl, ?_⟩) ?_
  rotate_left
  · intro w' hx; have r0 := hx.cell q0; have r1 := hx.cell q1; have r2 := hx.cell q2; have r3 := hx.cell q3; (go_simp <;> with_reducible rfl)
  simp only [Act.put, List.setIfInBounds_toArray, List.set_cons_zero, List.set_cons_succ]
  refine regF_take (i := 19) (d := some 95) (v := ?_) hX1 rfl rfl (by kernel_rfl) (by kernel_rfl) (by kernel_rfl) (fun _ _ _ h => h) (Or.inl ⟨by rfl, ?_⟩) ?_
  rotate_left
  · intro w' hx; (go_simp <;> with_reducible rfl)
  simp only [Act.put, List.setIfInBounds_toArray, List.set_cons_zero, List.set_cons_succ]
  refine regF_take (i := 20) (d := some 96) (v := ?_) hX1 rfl rfl (by kernel_rfl) (by kernel_rfl) (by kernel_rfl) (fun _ _ _ h => h) (Or.inl ⟨by rfl, ?_⟩) ?_
  rotate_left
  · intro w' hx; (go_simp <;> with_reducible rfl)
  simp only [Act.put, List.setIfInBounds_toArray, List.set_cons_zero, List.set_cons_succ]
  refine regF_one 21 _ (by kernel_rfl) rfl ?_
  intro K hK
  go_simp
  refine hK.out _ _ hX1 ?_
  clear hK K
  refine wpAnyH_done (by kernel_rfl) ?_ _
  go_wp2
  go_ret
  exact ⟨rfl, hb9w.drew.trans (hX1.mono hb9w.size)⟩

end Go.Proofs.Ytgafjieghckimaa
