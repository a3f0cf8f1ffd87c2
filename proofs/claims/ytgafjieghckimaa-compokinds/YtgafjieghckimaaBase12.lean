/- What the laws of this seat lean on: LComK4 LComK5 LComK. -/
import Derived.Test.YtgafjieghckimaaBase9
import Derived.Test.YtgafjieghckimaaBase10
import Derived.Test.YtgafjieghckimaaBase11

/- A part's matrix, of kind 4. -/
namespace Go.Proofs.Ytgafjieghckimaa
open Go.RowKit
set_option linter.unusedVariables false
set_option linter.unusedSimpArgs false

set_option maxRecDepth 1000000 in
set_option maxHeartbeats 8000000 in
theorem kinds_4_t (xx xy yx yy n : Int) (u e : Bool) (w : World) (n0 : 0 ≤ n) (n1 : n ≤ 255) (hK : n % 6 = 4) (h0 : -32768 ≤ xx ∧ xx ≤ 32767) (h1 : -32768 ≤ xy ∧ xy ≤ 32767) (h2 : -32768 ≤ yx ∧ yx ≤ 32767) (h3 : -32768 ≤ yy ∧ yy ≤ 32767) (hxy : xy = 0) (hyx : yx = 0)
    (hU : decide ([xx, xy, yx, yy] = [16384, 0, 0, 16384]) = u) (hE : decide (xx = yy) = e) (hE2 : (xx == yy) = e) (hR : ptRight (kPt 74 xx xy yx yy) = false) :
    Calls Try.prog 3 #[mxV xx xy yx yy, .int .u8 n] w (True_ w) := by
  subst hxy hyx
  have HAw := Lib.hid (fun W => awake13_any W)
  have Hok := Lib.hid (kPt_ok (f := 74) (by decide) h0 h1 h2 h3)
  have HRt := Lib.hid hR
  have heq := fun W => eq_mx xx 0 0 yy 16384 0 0 16384 W
  rw [hU] at heq
  have hA := (Below.refl w.heap.size w).alloc (Nat.le_refl _) (.cells #[.int .i16 xx, .int .i16 0, .int .i16 0, .int .i16 yy] 24)
  have hk := heap_alloc_new w (.cells #[.int .i16 xx, .int .i16 0, .int .i16 0, .int .i16 yy] 24)
  have hq : Int.tmod n 6 = 4 := by rw [Int.tmod_eq_emod_of_nonneg n0]; exact hK
  unfold mxV
  clear h0 h1 h2 h3 hU hR hK
  go_enter Try.func3, Try.ntmps3
  go_wp2_with fail
  with_reducible refine (HAw.out _).mono ?_
  rintro e0 w0 ⟨rfl, hb0⟩
  have hk0 := kept_block hk hb0
  have hbw := hA.trans (hb0.mono hA.size)
  have hlt : w.heap.size < w0.heap.size := lt_of_block hk0
  clear HAw hA hk hb0
  go_upto_region 4 with fail
  have hk1 := kept_alloc hk0 (.cells #[.int .u16 0, .int .u16 8, .int .u16 64, .int .u16 128, .int .u16 72, .int .u16 192] 26)
  have hb1 := hbw.alloc hbw.size (.cells #[.int .u16 0, .int .u16 8, .int .u16 64, .int .u16 128, .int .u16 72, .int .u16 192] 26)
  have hlt1 := lt_of_block hk1
  clear hk0 hbw hlt
  generalize w0.alloc _ = V0 at *
  have hor : bits .or .u16 2 72 = 74 := by decide
  obtain ⟨c0, c1, c2, c3⟩ := cells4 hk1
  have hA2 := (Below.refl V0.heap.size V0).alloc (Nat.le_refl _) (.cells #[.int .u16 74, .int .u16 0, .int .i16 0, .int .i16 0, .int .i16 xx, .int .i16 0, .int .i16 0, .int .i16 yy] 29)
  have hA3 := hA2.alloc hA2.size (.cells #[.int .i16 0, .int .i16 0, .int .i16 0, .int .i16 0, .slice (some ⟨V0.heap.size, 0, none⟩) 1 1, .slice none 0 0] 34)
  have hk2 := kept_block hk1 hA3
  have hb2 := hb1.trans (hA3.mono hb1.size)
  have hg2 := heap_alloc_new (V0.alloc (.cells #[.int .u16 74, .int .u16 0, .int .i16 0, .int .i16 0, .int .i16 xx, .int .i16 0, .int .i16 0, .int .i16 yy] 29)) (.cells #[.int .i16 0, .int .i16 0, .int .i16 0, .int .i16 0, .slice (some ⟨V0.heap.size, 0, none⟩) 1 1, .slice none 0 0] 34)
  have hps2 : RowS encPt 8 (V0.alloc (.cells #[.int .u16 74, .int .u16 0, .int .i16 0, .int .i16 0, .int .i16 xx, .int .i16 0, .int .i16 0, .int .i16 yy] 29)) (some ⟨V0.heap.size, 0, none⟩) 1 [kPt 74 xx 0 0 yy] := rowS_vals encPt_len V0 29 [kPt 74 xx 0 0 yy] _ rfl 1 rfl
  have hps3 := hps2.below ((Below.refl _ (V0.alloc (.cells #[.int .u16 74, .int .u16 0, .int .i16 0, .int .i16 0, .int .i16 xx, .int .i16 0, .int .i16 0, .int .i16 yy] 29))).alloc (Nat.le_refl _) (.cells #[.int .i16 0, .int .i16 0, .int .i16 0, .int .i16 0, .slice (some ⟨V0.heap.size, 0, none⟩) 1 1, .slice none 0 0] 34))
  have hnew := heap_alloc_new (V0.alloc (.cells #[.int .u16 74, .int .u16 0, .int .i16 0, .int .i16 0, .int .i16 xx, .int .i16 0, .int .i16 0, .int .i16 yy] 29)) (.cells #[.int .i16 0, .int .i16 0, .int .i16 0, .int .i16 0, .slice none 0 0, .slice none 0 0] 34)
  have hgs : (V0.alloc (.cells #[.int .u16 74, .int .u16 0, .int .i16 0, .int .i16 0, .int .i16 xx, .int .i16 0, .int .i16 0, .int .i16 yy] 29)).heap.size = V0.heap.size + 1 := by simp
  clear hA2 hA3 hps2 hk1 hb1
  go_upto_region 5 with fail
  clear hnew c0 c1 c2 c3 hor
  rw [hgs] at hg2
  have hgs2 := lt_of_block hg2
  clear hgs
  generalize (V0.alloc (.cells #[.int .u16 74, .int .u16 0, .int .i16 0, .int .i16 0, .int .i16 xx, .int .i16 0, .int .i16 0, .int .i16 yy] 29)).alloc _ = V at *
  generalize V0.heap.size = gp at *
  obtain ⟨c0, c1, c2, c3⟩ := cells4 hk2
  go_upto_region 6 with fail
  have q0 : V.drew.cell? ⟨w.heap.size, 0, none⟩ = _ := c0
  have q1 : V.drew.cell? ⟨w.heap.size, 1, none⟩ = _ := c1
  have q2 : V.drew.cell? ⟨w.heap.size, 2, none⟩ = _ := c2
  have q3 : V.drew.cell? ⟨w.heap.size, 3, none⟩ = _ := c3
  refine regF_start (by kernel_rfl) ?_
  refine regF_take (i := 0) (d := some 35) (v := ?_) (Ext.refl _) rfl rfl (by kernel_rfl) (by kernel_rfl) (by kernel_rfl) (fun _ _ _ h => h) (Or.inl ⟨by rfl, ?_⟩) ?_
  rotate_left
  · intro w' hx; have r0 := hx.cell q0; have r1 := hx.cell q1; have r2 := hx.cell q2; have r3 := hx.cell q3; (go_simp <;> with_reducible rfl)
  simp only [Act.put, List.setIfInBounds_toArray, List.set_cons_zero, List.set_cons_succ]
  refine regF_take (i := 3) (d := some 38) (v := ?_) (Ext.refl _) rfl rfl (by kernel_rfl) (by kernel_rfl) (by kernel_rfl) (fun _ _ _ h => h) (Or.inl ⟨by rfl, ?_⟩) ?_
  rotate_left
  · intro w' hx; (go_simp <;> with_reducible rfl)
  simp only [Act.put, List.setIfInBounds_toArray, List.set_cons_zero, List.set_cons_succ]
  refine regF_take (i := 11) (d := some 46) (v := ?_) (Ext.refl _) rfl rfl (by kernel_rfl) (by kernel_rfl) (by kernel_rfl) (fun _ _ _ h => h) (Or.inl ⟨by rfl, ?_⟩) ?_
  rotate_left
  · intro w' hx; (go_simp <;> with_reducible rfl)
  simp only [Act.put, List.setIfInBounds_toArray, List.set_cons_zero, List.set_cons_succ]
  refine regF_take (i := 13) (d := some 48) (v := ?_) (Ext.refl _) rfl rfl (by kernel_rfl) (by kernel_rfl) (by kernel_rfl) (fun _ _ _ h => h) (Or.inl ⟨by rfl, ?_⟩) ?_
  rotate_left
  · intro w' hx; (go_simp <;> with_reducible rfl)
  simp only [Act.put, List.setIfInBounds_toArray, List.set_cons_zero, List.set_cons_succ]
  refine regF_take (i := 14) (d := some 49) (v := ?_) (Ext.refl _) rfl rfl (by kernel_rfl) (by kernel_rfl) (by kernel_rfl) (fun _ _ _ h => h) (Or.inl ⟨by rfl, ?_⟩) ?_
  rotate_left
  · intro w' hx; (go_simp <;> with_reducible rfl)
  simp only [Act.put, List.setIfInBounds_toArray, List.set_cons_zero, List.set_cons_succ]
  refine regF_one 1 _ (by kernel_rfl) rfl ?_
  intro K hK
  go_simp
  refine (unit_any _).mono ?_
  rintro e4 W4 ⟨rfl, hb4⟩
  unfold mxV
  have hX1 := (Ext.refl V.drew).call hb4
  refine hK.out _ _ hX1 ?_
  clear hK K
  refine regF_take (i := 2) (d := some 37) (v := ?_) hX1 rfl rfl (by kernel_rfl) (by kernel_rfl) (by kernel_rfl) (fun _ _ _ h => h) (Or.inl ⟨by rfl, ?_⟩) ?_
  rotate_left
  · intro w' hx; (go_simp <;> with_reducible rfl)
  simp only [Act.put, List.setIfInBounds_toArray, List.set_cons_zero, List.set_cons_succ]
  refine regF_take (i := 4) (d := some 39) (v := ?_) hX1 rfl rfl (by kernel_rfl) (by kernel_rfl) (by kernel_rfl) (fun _ _ _ h => h) (Or.inl ⟨by rfl, ?_⟩) ?_
  rotate_left
  · intro w' hx; (go_simp <;> with_reducible rfl)
  simp only [Act.put, List.setIfInBounds_toArray, List.set_cons_zero, List.set_cons_succ]
  refine regF_take (i := 5) (d := some 40) (v := ?_) hX1 rfl rfl (by kernel_rfl) (by kernel_rfl) (by kernel_rfl) (fun _ _ _ h => h) (Or.inl ⟨by rfl, ?_⟩) ?_
  rotate_left
  · intro w' hx; (go_simp <;> with_reducible rfl)
  simp only [Act.put, List.setIfInBounds_toArray, List.set_cons_zero, List.set_cons_succ]
  refine regF_take (i := 6) (d := some 41) (v := ?_) hX1 rfl rfl (by kernel_rfl) (by kernel_rfl) (by kernel_rfl) (fun _ _ _ h => h) (Or.inl ⟨by rfl, ?_⟩) ?_
  rotate_left
  · intro w' hx; have r0 := hx.cell q0; have r1 := hx.cell q1; have r2 := hx.cell q2; have r3 := hx.cell q3; (go_simp <;> with_reducible rfl)
  simp only [Act.put, List.setIfInBounds_toArray, List.set_cons_zero, List.set_cons_succ]
  refine regF_take (i := 7) (d := some 42) (v := ?_) hX1 rfl rfl (by kernel_rfl) (by kernel_rfl) (by kernel_rfl) (fun _ _ _ h => h) (Or.inl ⟨by rfl, ?_⟩) ?_
  rotate_left
  · intro w' hx; (go_simp <;> with_reducible rfl)
  simp only [Act.put, List.setIfInBounds_toArray, List.set_cons_zero, List.set_cons_succ]
  refine regF_take (i := 8) (d := some 43) (v := ?_) hX1 rfl rfl (by kernel_rfl) (by kernel_rfl) (by kernel_rfl) (fun _ _ _ h => h) (Or.inl ⟨by rfl, ?_⟩) ?_
  rotate_left
  · intro w' hx; have r0 := hx.cell q0; have r1 := hx.cell q1; have r2 := hx.cell q2; have r3 := hx.cell q3; (go_simp <;> with_reducible rfl)
  simp only [Act.put, List.setIfInBounds_toArray, List.set_cons_zero, List.set_cons_succ]
  refine regF_take (i := 9) (d := some 44) (v := ?_) hX1 rfl rfl (by kernel_rfl) (by kernel_rfl) (by kernel_rfl) (fun _ _ _ h => h) (Or.inl ⟨by rfl, ?_⟩) ?_
  rotate_left
  · intro w' hx; (go_simp <;> with_reducible rfl)
  simp only [Act.put, List.setIfInBounds_toArray, List.set_cons_zero, List.set_cons_succ]
  refine regF_take (i := 10) (d := some 45) (v := ?_) hX1 rfl rfl (by kernel_rfl) (by kernel_rfl) (by kernel_rfl) (fun _ _ _ h => h) (Or.inl ⟨by rfl, ?_⟩) ?_
  rotate_left
  · intro w' hx; (go_simp <;> with_reducible rfl)
  simp only [Act.put, List.setIfInBounds_toArray, List.set_cons_zero, List.set_cons_succ]
  refine regF_one 12 _ (by kernel_rfl) rfl ?_
  intro K hK
  go_simp
  have hX2 := hX1.new (.cells #[.bool u, .bool e, .bool true, .bool true, .bool false, .bool false] 4)
  have hkn := heap_alloc_new W4 (.cells #[.bool u, .bool e, .bool true, .bool true, .bool false, .bool false] 4)
  have cK : (W4.alloc (.cells #[.bool u, .bool e, .bool true, .bool true, .bool false, .bool false] 4)).cell? ⟨W4.heap.size, 4, none⟩ = some (.bool false) := cell_of_row _ _ 4 _ _ _ hkn
  refine hK.out _ _ hX2 ?_
  generalize W4.alloc _ = W5 at *
  clear hK K hkn
  refine regF_one 15 _ (by kernel_rfl) rfl ?_
  intro K hK
  go_simp
  refine hK.out _ _ hX2 ?_
  clear hK K
  refine regF_one 16 _ (by kernel_rfl) rfl ?_
  intro K hK
  go_simp
  refine hK.out _ _ hX2 ?_
  clear hK K
  refine regF_one 17 _ (by kernel_rfl) rfl ?_
  intro K hK
  go_simp
  refine hK.out _ _ hX2 ?_
  clear hK K
  refine wpAnyH_done (by kernel_rfl) ?_ _
  have hb5 := hb2.drew.trans (hX2.mono hb2.size)
  have hk5 : W5.heap[w.heap.size]? = _ := kept_block (w := V.drew) hk2 hX2
  have hg5 : W5.heap[gp + 1]? = _ := kept_block (w := V.drew) hg2 hX2
  have hps5 := (hps3.below (Below.refl _ V).drew).below hX2
  clear hb2 hk2 hg2 hps3 c0 c1 c2 c3 q0 q1 q2 q3 hb4 hX1 hX2
  have hgo : (kG 74 xx 0 0 yy).ok := kG_ok Hok.out
  have hcr : cRight (kG 74 xx 0 0 yy) = false := (kG_right _ _ _ _ _ (by decide)).trans HRt.out
  go_upto_region 8 with fail
  clear cK
  have hb6 := hb5.alloc hb5.size (.cells #[.int .i64 0, .int .i64 2, .int .i64 4, .int .i64 8, .int .i64 0, .int .i64 0] 3)
  have hX6 := (Below.refl W5.heap.size W5).alloc (Nat.le_refl _) (.cells #[.int .i64 0, .int .i64 2, .int .i64 4, .int .i64 8, .int .i64 0, .int .i64 0] 3)
  have hk6 := kept_block hk5 hX6
  have hg6 := kept_block hg5 hX6
  have hps6 := hps5.below hX6
  clear hb5 hk5 hg5 hps5 hX6
  generalize W5.alloc _ = W6 at *
  have hrows : CgV.rows W6 ⟨(kG 74 xx 0 0 yy), some ⟨gp, 0, none⟩, 1, 1, none, 0, 0⟩ := ⟨hps6, Row.empty _ _⟩
  have HBy : Hid (Calls Try.prog 17 #[.agg #[.int .i16 0, .int .i16 0, .int .i16 0, .int .i16 0, .slice (some ⟨gp, 0, none⟩) 1 1, .slice none 0 0]] W6 (RetB W6 (cBytes (kG 74 xx 0 0 yy)))) := cbytes_any ⟨(kG 74 xx 0 0 yy), some ⟨gp, 0, none⟩, 1, 1, none, 0, 0⟩ W6 hrows (by show (1 : Nat) ≤ 1000000; omega) (by show (0 : Nat) ≤ 1000000; omega) hgo
  have HRi : Hid (∀ W, Below W6.heap.size W6 W → Calls Try.prog 18 #[.agg #[.int .i16 0, .int .i16 0, .int .i16 0, .int .i16 0, .slice (some ⟨gp, 0, none⟩) 1 1, .slice none 0 0]] W (Ret W (.bool false))) := fun W hW => by
    have h := cright_any ⟨(kG 74 xx 0 0 yy), some ⟨gp, 0, none⟩, 1, 1, none, 0, 0⟩ W (hrows.below hW) (by show (1 : Nat) ≤ 1000000; omega) (by show (0 : Nat) ≤ 1000000; omega) hgo
    rw [show CgV.g ⟨(kG 74 xx 0 0 yy), some ⟨gp, 0, none⟩, 1, 1, none, 0, 0⟩ = (kG 74 xx 0 0 yy) from rfl, hcr] at h
    exact h
  have HGo := Lib.hid hgo
  have HCr := Lib.hid hcr
  clear hrows hps6 hcr hgo
  obtain ⟨c0, c1, c2, c3, c4, c5⟩ := cells6 hg6
  go_wp2_with fail
  with_reducible refine HBy.out.mono ?_
  rintro e7 w7 ⟨A, an, ac, rfl, hown, hb7⟩
  have hk7 := kept_block hk6 hb7
  have hg7 := kept_block hg6 hb7
  have hbw7 := hb6.trans (hb7.mono hb6.size)
  clear HBy hk6 hg6 hb6 c0 c1 c2 c3 c4 c5
  obtain ⟨c0, c1, c2, c3, c4, c5⟩ := cells6 hg7
  unfold cBytes at hown
  rw [HCr.out, if_neg (by decide)] at hown
  obtain rfl : an = 0 := hown.len.symm
  have HR1 := Lib.hid (HRi.out _ hb7)
  clear HRi
  go_wp2_with fail
  with_reducible refine HR1.out.mono ?_
  rintro e8 w8 ⟨rfl, hb8⟩
  go_wp2
  go_ret
  exact ⟨rfl, hbw7.trans (hb8.mono hbw7.size)⟩

set_option maxRecDepth 1000000 in
set_option maxHeartbeats 8000000 in
theorem kinds_4_x (xx xy yx yy n : Int) (u e : Bool) (w : World) (n0 : 0 ≤ n) (n1 : n ≤ 255) (hK : n % 6 = 4) (h0 : -32768 ≤ xx ∧ xx ≤ 32767) (h1 : -32768 ≤ xy ∧ xy ≤ 32767) (h2 : -32768 ≤ yx ∧ yx ≤ 32767) (h3 : -32768 ≤ yy ∧ yy ≤ 32767) (hxy : (xy == 0) = false)
    (hU : decide ([xx, xy, yx, yy] = [16384, 0, 0, 16384]) = u) (hE : decide (xx = yy) = e) (hE2 : (xx == yy) = e) (hR : ptRight (kPt 74 xx xy yx yy) = false) :
    Calls Try.prog 3 #[mxV xx xy yx yy, .int .u8 n] w (True_ w) := by
  have HAw := Lib.hid (fun W => awake13_any W)
  have Hok := Lib.hid (kPt_ok (f := 74) (by decide) h0 h1 h2 h3)
  have HRt := Lib.hid hR
  have heq := fun W => eq_mx xx xy yx yy 16384 0 0 16384 W
  rw [hU] at heq
  have hA := (Below.refl w.heap.size w).alloc (Nat.le_refl _) (.cells #[.int .i16 xx, .int .i16 xy, .int .i16 yx, .int .i16 yy] 24)
  have hk := heap_alloc_new w (.cells #[.int .i16 xx, .int .i16 xy, .int .i16 yx, .int .i16 yy] 24)
  have hq : Int.tmod n 6 = 4 := by rw [Int.tmod_eq_emod_of_nonneg n0]; exact hK
  unfold mxV
  clear h0 h1 h2 h3 hU hR hK
  go_enter Try.func3, Try.ntmps3
  go_wp2_with fail
  with_reducible refine (HAw.out _).mono ?_
  rintro e0 w0 ⟨rfl, hb0⟩
  have hk0 := kept_block hk hb0
  have hbw := hA.trans (hb0.mono hA.size)
  have hlt : w.heap.size < w0.heap.size := lt_of_block hk0
  clear HAw hA hk hb0
  go_upto_region 4 with fail
  have hk1 := kept_alloc hk0 (.cells #[.int .u16 0, .int .u16 8, .int .u16 64, .int .u16 128, .int .u16 72, .int .u16 192] 26)
  have hb1 := hbw.alloc hbw.size (.cells #[.int .u16 0, .int .u16 8, .int .u16 64, .int .u16 128, .int .u16 72, .int .u16 192] 26)
  have hlt1 := lt_of_block hk1
  clear hk0 hbw hlt
  generalize w0.alloc _ = V0 at *
  have hor : bits .or .u16 2 72 = 74 := by decide
  obtain ⟨c0, c1, c2, c3⟩ := cells4 hk1
  have hA2 := (Below.refl V0.heap.size V0).alloc (Nat.le_refl _) (.cells #[.int .u16 74, .int .u16 0, .int .i16 0, .int .i16 0, .int .i16 xx, .int .i16 xy, .int .i16 yx, .int .i16 yy] 29)
  have hA3 := hA2.alloc hA2.size (.cells #[.int .i16 0, .int .i16 0, .int .i16 0, .int .i16 0, .slice (some ⟨V0.heap.size, 0, none⟩) 1 1, .slice none 0 0] 34)
  have hk2 := kept_block hk1 hA3
  have hb2 := hb1.trans (hA3.mono hb1.size)
  have hg2 := heap_alloc_new (V0.alloc (.cells #[.int .u16 74, .int .u16 0, .int .i16 0, .int .i16 0, .int .i16 xx, .int .i16 xy, .int .i16 yx, .int .i16 yy] 29)) (.cells #[.int .i16 0, .int .i16 0, .int .i16 0, .int .i16 0, .slice (some ⟨V0.heap.size, 0, none⟩) 1 1, .slice none 0 0] 34)
  have hps2 : RowS encPt 8 (V0.alloc (.cells #[.int .u16 74, .int .u16 0, .int .i16 0, .int .i16 0, .int .i16 xx, .int .i16 xy, .int .i16 yx, .int .i16 yy] 29)) (some ⟨V0.heap.size, 0, none⟩) 1 [kPt 74 xx xy yx yy] := rowS_vals encPt_len V0 29 [kPt 74 xx xy yx yy] _ rfl 1 rfl
  have hps3 := hps2.below ((Below.refl _ (V0.alloc (.cells #[.int .u16 74, .int .u16 0, .int .i16 0, .int .i16 0, .int .i16 xx, .int .i16 xy, .int .i16 yx, .int .i16 yy] 29))).alloc (Nat.le_refl _) (.cells #[.int .i16 0, .int .i16 0, .int .i16 0, .int .i16 0, .slice (some ⟨V0.heap.size, 0, none⟩) 1 1, .slice none 0 0] 34))
  have hnew := heap_alloc_new (V0.alloc (.cells #[.int .u16 74, .int .u16 0, .int .i16 0, .int .i16 0, .int .i16 xx, .int .i16 xy, .int .i16 yx, .int .i16 yy] 29)) (.cells #[.int .i16 0, .int .i16 0, .int .i16 0, .int .i16 0, .slice none 0 0, .slice none 0 0] 34)
  have hgs : (V0.alloc (.cells #[.int .u16 74, .int .u16 0, .int .i16 0, .int .i16 0, .int .i16 xx, .int .i16 xy, .int .i16 yx, .int .i16 yy] 29)).heap.size = V0.heap.size + 1 := by simp
  clear hA2 hA3 hps2 hk1 hb1
  go_upto_region 5 with fail
  clear hnew c0 c1 c2 c3 hor
  rw [hgs] at hg2
  have hgs2 := lt_of_block hg2
  clear hgs
  generalize (V0.alloc (.cells #[.int .u16 74, .int .u16 0, .int .i16 0, .int .i16 0, .int .i16 xx, .int .i16 xy, .int .i16 yx, .int .i16 yy] 29)).alloc _ = V at *
  generalize V0.heap.size = gp at *
  obtain ⟨c0, c1, c2, c3⟩ := cells4 hk2
  go_upto_region 6 with fail
  have q0 : V.drew.cell? ⟨w.heap.size, 0, none⟩ = _ := c0
  have q1 : V.drew.cell? ⟨w.heap.size, 1, none⟩ = _ := c1
  have q2 : V.drew.cell? ⟨w.heap.size, 2, none⟩ = _ := c2
  have q3 : V.drew.cell? ⟨w.heap.size, 3, none⟩ = _ := c3
  refine regF_start (by kernel_rfl) ?_
  refine regF_take (i := 0) (d := some 35) (v := ?_) (Ext.refl _) rfl rfl (by kernel_rfl) (by kernel_rfl) (by kernel_rfl) (fun _ _ _ h => h) (Or.inl ⟨by rfl, ?_⟩) ?_
  rotate_left
  · intro w' hx; have r0 := hx.cell q0; have r1 := hx.cell q1; have r2 := hx.cell q2; have r3 := hx.cell q3; (go_simp <;> with_reducible rfl)
  simp only [Act.put, List.setIfInBounds_toArray, List.set_cons_zero, List.set_cons_succ]
  refine regF_take (i := 3) (d := some 38) (v := ?_) (Ext.refl _) rfl rfl (by kernel_rfl) (by kernel_rfl) (by kernel_rfl) (fun _ _ _ h => h) (Or.inl ⟨by rfl, ?_⟩) ?_
  rotate_left
  · intro w' hx; (go_simp <;> with_reducible rfl)
  simp only [Act.put, List.setIfInBounds_toArray, List.set_cons_zero, List.set_cons_succ]
  refine regF_take (i := 11) (d := some 46) (v := ?_) (Ext.refl _) rfl rfl (by kernel_rfl) (by kernel_rfl) (by kernel_rfl) (fun _ _ _ h => h) (Or.inl ⟨by rfl, ?_⟩) ?_
  rotate_left
  · intro w' hx; (go_simp <;> with_reducible rfl)
  simp only [Act.put, List.setIfInBounds_toArray, List.set_cons_zero, List.set_cons_succ]
  refine regF_take (i := 13) (d := some 48) (v := ?_) (Ext.refl _) rfl rfl (by kernel_rfl) (by kernel_rfl) (by kernel_rfl) (fun _ _ _ h => h) (Or.inl ⟨by rfl, ?_⟩) ?_
  rotate_left
  · intro w' hx; (go_simp <;> with_reducible rfl)
  simp only [Act.put, List.setIfInBounds_toArray, List.set_cons_zero, List.set_cons_succ]
  refine regF_take (i := 14) (d := some 49) (v := ?_) (Ext.refl _) rfl rfl (by kernel_rfl) (by kernel_rfl) (by kernel_rfl) (fun _ _ _ h => h) (Or.inl ⟨by rfl, ?_⟩) ?_
  rotate_left
  · intro w' hx; (go_simp <;> with_reducible rfl)
  simp only [Act.put, List.setIfInBounds_toArray, List.set_cons_zero, List.set_cons_succ]
  refine regF_one 1 _ (by kernel_rfl) rfl ?_
  intro K hK
  go_simp
  refine (unit_any _).mono ?_
  rintro e4 W4 ⟨rfl, hb4⟩
  unfold mxV
  have hX1 := (Ext.refl V.drew).call hb4
  refine hK.out _ _ hX1 ?_
  clear hK K
  refine regF_take (i := 2) (d := some 37) (v := ?_) hX1 rfl rfl (by kernel_rfl) (by kernel_rfl) (by kernel_rfl) (fun _ _ _ h => h) (Or.inl ⟨by rfl, ?_⟩) ?_
  rotate_left
  · intro w' hx; (go_simp <;> with_reducible rfl)
  simp only [Act.put, List.setIfInBounds_toArray, List.set_cons_zero, List.set_cons_succ]
  refine regF_take (i := 4) (d := some 39) (v := ?_) hX1 rfl rfl (by kernel_rfl) (by kernel_rfl) (by kernel_rfl) (fun _ _ _ h => h) (Or.inl ⟨by rfl, ?_⟩) ?_
  rotate_left
  · intro w' hx; (go_simp <;> with_reducible rfl)
  simp only [Act.put, List.setIfInBounds_toArray, List.set_cons_zero, List.set_cons_succ]
  refine regF_take (i := 5) (d := some 40) (v := undef) hX1 rfl rfl (by kernel_rfl) (by kernel_rfl) (by kernel_rfl) (fun _ _ _ h => h) (Or.inr ⟨by rfl, rfl⟩) ?_
  simp only [Act.put, List.setIfInBounds_toArray, List.set_cons_zero, List.set_cons_succ]
  refine regF_take (i := 6) (d := some 41) (v := undef) hX1 rfl rfl (by kernel_rfl) (by kernel_rfl) (by kernel_rfl) (fun _ _ _ h => h) (Or.inr ⟨by rfl, rfl⟩) ?_
  simp only [Act.put, List.setIfInBounds_toArray, List.set_cons_zero, List.set_cons_succ]
  refine regF_take (i := 7) (d := some 42) (v := undef) hX1 rfl rfl (by kernel_rfl) (by kernel_rfl) (by kernel_rfl) (fun _ _ _ h => h) (Or.inr ⟨by rfl, rfl⟩) ?_
  simp only [Act.put, List.setIfInBounds_toArray, List.set_cons_zero, List.set_cons_succ]
  refine regF_take (i := 8) (d := some 43) (v := undef) hX1 rfl rfl (by kernel_rfl) (by kernel_rfl) (by kernel_rfl) (fun _ _ _ h => h) (Or.inr ⟨by rfl, rfl⟩) ?_
  simp only [Act.put, List.setIfInBounds_toArray, List.set_cons_zero, List.set_cons_succ]
  refine regF_take (i := 9) (d := some 44) (v := undef) hX1 rfl rfl (by kernel_rfl) (by kernel_rfl) (by kernel_rfl) (fun _ _ _ h => h) (Or.inr ⟨by rfl, rfl⟩) ?_
  simp only [Act.put, List.setIfInBounds_toArray, List.set_cons_zero, List.set_cons_succ]
  refine regF_take (i := 10) (d := some 45) (v := ?_) hX1 rfl rfl (by kernel_rfl) (by kernel_rfl) (by kernel_rfl) (fun _ _ _ h => h) (Or.inl ⟨by rfl, ?_⟩) ?_
  rotate_left
  · intro w' hx; (go_simp <;> with_reducible rfl)
  simp only [Act.put, List.setIfInBounds_toArray, List.set_cons_zero, List.set_cons_succ]
  refine regF_one 12 _ (by kernel_rfl) rfl ?_
  intro K hK
  go_simp
  have hX2 := hX1.new (.cells #[.bool u, .bool false, .bool false, .bool true, .bool false, .bool false] 4)
  have hkn := heap_alloc_new W4 (.cells #[.bool u, .bool false, .bool false, .bool true, .bool false, .bool false] 4)
  have cK : (W4.alloc (.cells #[.bool u, .bool false, .bool false, .bool true, .bool false, .bool false] 4)).cell? ⟨W4.heap.size, 4, none⟩ = some (.bool false) := cell_of_row _ _ 4 _ _ _ hkn
  refine hK.out _ _ hX2 ?_
  generalize W4.alloc _ = W5 at *
  clear hK K hkn
  refine regF_one 15 _ (by kernel_rfl) rfl ?_
  intro K hK
  go_simp
  refine hK.out _ _ hX2 ?_
  clear hK K
  refine regF_one 16 _ (by kernel_rfl) rfl ?_
  intro K hK
  go_simp
  refine hK.out _ _ hX2 ?_
  clear hK K
  refine regF_one 17 _ (by kernel_rfl) rfl ?_
  intro K hK
  go_simp
  refine hK.out _ _ hX2 ?_
  clear hK K
  refine wpAnyH_done (by kernel_rfl) ?_ _
  have hb5 := hb2.drew.trans (hX2.mono hb2.size)
  have hk5 : W5.heap[w.heap.size]? = _ := kept_block (w := V.drew) hk2 hX2
  have hg5 : W5.heap[gp + 1]? = _ := kept_block (w := V.drew) hg2 hX2
  have hps5 := (hps3.below (Below.refl _ V).drew).below hX2
  clear hb2 hk2 hg2 hps3 c0 c1 c2 c3 q0 q1 q2 q3 hb4 hX1 hX2
  have hgo : (kG 74 xx xy yx yy).ok := kG_ok Hok.out
  have hcr : cRight (kG 74 xx xy yx yy) = false := (kG_right _ _ _ _ _ (by decide)).trans HRt.out
  go_upto_region 8 with fail
  clear cK
  have hb6 := hb5.alloc hb5.size (.cells #[.int .i64 0, .int .i64 2, .int .i64 4, .int .i64 8, .int .i64 0, .int .i64 0] 3)
  have hX6 := (Below.refl W5.heap.size W5).alloc (Nat.le_refl _) (.cells #[.int .i64 0, .int .i64 2, .int .i64 4, .int .i64 8, .int .i64 0, .int .i64 0] 3)
  have hk6 := kept_block hk5 hX6
  have hg6 := kept_block hg5 hX6
  have hps6 := hps5.below hX6
  clear hb5 hk5 hg5 hps5 hX6
  generalize W5.alloc _ = W6 at *
  have hrows : CgV.rows W6 ⟨(kG 74 xx xy yx yy), some ⟨gp, 0, none⟩, 1, 1, none, 0, 0⟩ := ⟨hps6, Row.empty _ _⟩
  have HBy : Hid (Calls Try.prog 17 #[.agg #[.int .i16 0, .int .i16 0, .int .i16 0, .int .i16 0, .slice (some ⟨gp, 0, none⟩) 1 1, .slice none 0 0]] W6 (RetB W6 (cBytes (kG 74 xx xy yx yy)))) := cbytes_any ⟨(kG 74 xx xy yx yy), some ⟨gp, 0, none⟩, 1, 1, none, 0, 0⟩ W6 hrows (by show (1 : Nat) ≤ 1000000; omega) (by show (0 : Nat) ≤ 1000000; omega) hgo
  have HRi : Hid (∀ W, Below W6.heap.size W6 W → Calls Try.prog 18 #[.agg #[.int .i16 0, .int .i16 0, .int .i16 0, .int .i16 0, .slice (some ⟨gp, 0, none⟩) 1 1, .slice none 0 0]] W (Ret W (.bool false))) := fun W hW => by
    have h := cright_any ⟨(kG 74 xx xy yx yy), some ⟨gp, 0, none⟩, 1, 1, none, 0, 0⟩ W (hrows.below hW) (by show (1 : Nat) ≤ 1000000; omega) (by show (0 : Nat) ≤ 1000000; omega) hgo
    rw [show CgV.g ⟨(kG 74 xx xy yx yy), some ⟨gp, 0, none⟩, 1, 1, none, 0, 0⟩ = (kG 74 xx xy yx yy) from rfl, hcr] at h
    exact h
  have HGo := Lib.hid hgo
  have HCr := Lib.hid hcr
  clear hrows hps6 hcr hgo
  obtain ⟨c0, c1, c2, c3, c4, c5⟩ := cells6 hg6
  go_wp2_with fail
  with_reducible refine HBy.out.mono ?_
  rintro e7 w7 ⟨A, an, ac, rfl, hown, hb7⟩
  have hk7 := kept_block hk6 hb7
  have hg7 := kept_block hg6 hb7
  have hbw7 := hb6.trans (hb7.mono hb6.size)
  clear HBy hk6 hg6 hb6 c0 c1 c2 c3 c4 c5
  obtain ⟨c0, c1, c2, c3, c4, c5⟩ := cells6 hg7
  unfold cBytes at hown
  rw [HCr.out, if_neg (by decide)] at hown
  obtain rfl : an = 0 := hown.len.symm
  have HR1 := Lib.hid (HRi.out _ hb7)
  clear HRi
  go_wp2_with fail
  with_reducible refine HR1.out.mono ?_
  rintro e8 w8 ⟨rfl, hb8⟩
  go_wp2
  go_ret
  exact ⟨rfl, hbw7.trans (hb8.mono hbw7.size)⟩

set_option maxRecDepth 1000000 in
set_option maxHeartbeats 8000000 in
theorem kinds_4_y (xx xy yx yy n : Int) (u e : Bool) (w : World) (n0 : 0 ≤ n) (n1 : n ≤ 255) (hK : n % 6 = 4) (h0 : -32768 ≤ xx ∧ xx ≤ 32767) (h1 : -32768 ≤ xy ∧ xy ≤ 32767) (h2 : -32768 ≤ yx ∧ yx ≤ 32767) (h3 : -32768 ≤ yy ∧ yy ≤ 32767) (hxy : xy = 0) (hyx : (yx == 0) = false)
    (hU : decide ([xx, xy, yx, yy] = [16384, 0, 0, 16384]) = u) (hE : decide (xx = yy) = e) (hE2 : (xx == yy) = e) (hR : ptRight (kPt 74 xx xy yx yy) = false) :
    Calls Try.prog 3 #[mxV xx xy yx yy, .int .u8 n] w (True_ w) := by
  subst hxy
  have HAw := Lib.hid (fun W => awake13_any W)
  have Hok := Lib.hid (kPt_ok (f := 74) (by decide) h0 h1 h2 h3)
  have HRt := Lib.hid hR
  have heq := fun W => eq_mx xx 0 yx yy 16384 0 0 16384 W
  rw [hU] at heq
  have hA := (Below.refl w.heap.size w).alloc (Nat.le_refl _) (.cells #[.int .i16 xx, .int .i16 0, .int .i16 yx, .int .i16 yy] 24)
  have hk := heap_alloc_new w (.cells #[.int .i16 xx, .int .i16 0, .int .i16 yx, .int .i16 yy] 24)
  have hq : Int.tmod n 6 = 4 := by rw [Int.tmod_eq_emod_of_nonneg n0]; exact hK
  unfold mxV
  clear h0 h1 h2 h3 hU hR hK
  go_enter Try.func3, Try.ntmps3
  go_wp2_with fail
  with_reducible refine (HAw.out _).mono ?_
  rintro e0 w0 ⟨rfl, hb0⟩
  have hk0 := kept_block hk hb0
  have hbw := hA.trans (hb0.mono hA.size)
  have hlt : w.heap.size < w0.heap.size := lt_of_block hk0
  clear HAw hA hk hb0
  go_upto_region 4 with fail
  have hk1 := kept_alloc hk0 (.cells #[.int .u16 0, .int .u16 8, .int .u16 64, .int .u16 128, .int .u16 72, .int .u16 192] 26)
  have hb1 := hbw.alloc hbw.size (.cells #[.int .u16 0, .int .u16 8, .int .u16 64, .int .u16 128, .int .u16 72, .int .u16 192] 26)
  have hlt1 := lt_of_block hk1
  clear hk0 hbw hlt
  generalize w0.alloc _ = V0 at *
  have hor : bits .or .u16 2 72 = 74 := by decide
  obtain ⟨c0, c1, c2, c3⟩ := cells4 hk1
  have hA2 := (Below.refl V0.heap.size V0).alloc (Nat.le_refl _) (.cells #[.int .u16 74, .int .u16 0, .int .i16 0, .int .i16 0, .int .i16 xx, .int .i16 0, .int .i16 yx, .int .i16 yy] 29)
  have hA3 := hA2.alloc hA2.size (.cells #[.int .i16 0, .int .i16 0, .int .i16 0, .int .i16 0, .slice (some ⟨V0.heap.size, 0, none⟩) 1 1, .slice none 0 0] 34)
  have hk2 := kept_block hk1 hA3
  have hb2 := hb1.trans (hA3.mono hb1.size)
  have hg2 := heap_alloc_new (V0.alloc (.cells #[.int .u16 74, .int .u16 0, .int .i16 0, .int .i16 0, .int .i16 xx, .int .i16 0, .int .i16 yx, .int .i16 yy] 29)) (.cells #[.int .i16 0, .int .i16 0, .int .i16 0, .int .i16 0, .slice (some ⟨V0.heap.size, 0, none⟩) 1 1, .slice none 0 0] 34)
  have hps2 : RowS encPt 8 (V0.alloc (.cells #[.int .u16 74, .int .u16 0, .int .i16 0, .int .i16 0, .int .i16 xx, .int .i16 0, .int .i16 yx, .int .i16 yy] 29)) (some ⟨V0.heap.size, 0, none⟩) 1 [kPt 74 xx 0 yx yy] := rowS_vals encPt_len V0 29 [kPt 74 xx 0 yx yy] _ rfl 1 rfl
  have hps3 := hps2.below ((Below.refl _ (V0.alloc (.cells #[.int .u16 74, .int .u16 0, .int .i16 0, .int .i16 0, .int .i16 xx, .int .i16 0, .int .i16 yx, .int .i16 yy] 29))).alloc (Nat.le_refl _) (.cells #[.int .i16 0, .int .i16 0, .int .i16 0, .int .i16 0, .slice (some ⟨V0.heap.size, 0, none⟩) 1 1, .slice none 0 0] 34))
  have hnew := heap_alloc_new (V0.alloc (.cells #[.int .u16 74, .int .u16 0, .int .i16 0, .int .i16 0, .int .i16 xx, .int .i16 0, .int .i16 yx, .int .i16 yy] 29)) (.cells #[.int .i16 0, .int .i16 0, .int .i16 0, .int .i16 0, .slice none 0 0, .slice none 0 0] 34)
  have hgs : (V0.alloc (.cells #[.int .u16 74, .int .u16 0, .int .i16 0, .int .i16 0, .int .i16 xx, .int .i16 0, .int .i16 yx, .int .i16 yy] 29)).heap.size = V0.heap.size + 1 := by simp
  clear hA2 hA3 hps2 hk1 hb1
  go_upto_region 5 with fail
  clear hnew c0 c1 c2 c3 hor
  rw [hgs] at hg2
  have hgs2 := lt_of_block hg2
  clear hgs
  generalize (V0.alloc (.cells #[.int .u16 74, .int .u16 0, .int .i16 0, .int .i16 0, .int .i16 xx, .int .i16 0, .int .i16 yx, .int .i16 yy] 29)).alloc _ = V at *
  generalize V0.heap.size = gp at *
  obtain ⟨c0, c1, c2, c3⟩ := cells4 hk2
  go_upto_region 6 with fail
  have q0 : V.drew.cell? ⟨w.heap.size, 0, none⟩ = _ := c0
  have q1 : V.drew.cell? ⟨w.heap.size, 1, none⟩ = _ := c1
  have q2 : V.drew.cell? ⟨w.heap.size, 2, none⟩ = _ := c2
  have q3 : V.drew.cell? ⟨w.heap.size, 3, none⟩ = _ := c3
  refine regF_start (by kernel_rfl) ?_
  refine regF_take (i := 0) (d := some 35) (v := ?_) (Ext.refl _) rfl rfl (by kernel_rfl) (by kernel_rfl) (by kernel_rfl) (fun _ _ _ h => h) (Or.inl ⟨by rfl, ?_⟩) ?_
  rotate_left
  · intro w' hx; have r0 := hx.cell q0; have r1 := hx.cell q1; have r2 := hx.cell q2; have r3 := hx.cell q3; (go_simp <;> with_reducible rfl)
  simp only [Act.put, List.setIfInBounds_toArray, List.set_cons_zero, List.set_cons_succ]
  refine regF_take (i := 3) (d := some 38) (v := ?_) (Ext.refl _) rfl rfl (by kernel_rfl) (by kernel_rfl) (by kernel_rfl) (fun _ _ _ h => h) (Or.inl ⟨by rfl, ?_⟩) ?_
  rotate_left
  · intro w' hx; (go_simp <;> with_reducible rfl)
  simp only [Act.put, List.setIfInBounds_toArray, List.set_cons_zero, List.set_cons_succ]
  refine regF_take (i := 11) (d := some 46) (v := ?_) (Ext.refl _) rfl rfl (by kernel_rfl) (by kernel_rfl) (by kernel_rfl) (fun _ _ _ h => h) (Or.inl ⟨by rfl, ?_⟩) ?_
  rotate_left
  · intro w' hx; (go_simp <;> with_reducible rfl)
  simp only [Act.put, List.setIfInBounds_toArray, List.set_cons_zero, List.set_cons_succ]
  refine regF_take (i := 13) (d := some 48) (v := ?_) (Ext.refl _) rfl rfl (by kernel_rfl) (by kernel_rfl) (by kernel_rfl) (fun _ _ _ h => h) (Or.inl ⟨by rfl, ?_⟩) ?_
  rotate_left
  · intro w' hx; (go_simp <;> with_reducible rfl)
  simp only [Act.put, List.setIfInBounds_toArray, List.set_cons_zero, List.set_cons_succ]
  refine regF_take (i := 14) (d := some 49) (v := ?_) (Ext.refl _) rfl rfl (by kernel_rfl) (by kernel_rfl) (by kernel_rfl) (fun _ _ _ h => h) (Or.inl ⟨by rfl, ?_⟩) ?_
  rotate_left
  · intro w' hx; (go_simp <;> with_reducible rfl)
  simp only [Act.put, List.setIfInBounds_toArray, List.set_cons_zero, List.set_cons_succ]
  refine regF_one 1 _ (by kernel_rfl) rfl ?_
  intro K hK
  go_simp
  refine (unit_any _).mono ?_
  rintro e4 W4 ⟨rfl, hb4⟩
  unfold mxV
  have hX1 := (Ext.refl V.drew).call hb4
  refine hK.out _ _ hX1 ?_
  clear hK K
  refine regF_take (i := 2) (d := some 37) (v := ?_) hX1 rfl rfl (by kernel_rfl) (by kernel_rfl) (by kernel_rfl) (fun _ _ _ h => h) (Or.inl ⟨by rfl, ?_⟩) ?_
  rotate_left
  · intro w' hx; (go_simp <;> with_reducible rfl)
  simp only [Act.put, List.setIfInBounds_toArray, List.set_cons_zero, List.set_cons_succ]
  refine regF_take (i := 4) (d := some 39) (v := ?_) hX1 rfl rfl (by kernel_rfl) (by kernel_rfl) (by kernel_rfl) (fun _ _ _ h => h) (Or.inl ⟨by rfl, ?_⟩) ?_
  rotate_left
  · intro w' hx; (go_simp <;> with_reducible rfl)
  simp only [Act.put, List.setIfInBounds_toArray, List.set_cons_zero, List.set_cons_succ]
  refine regF_take (i := 5) (d := some 40) (v := undef) hX1 rfl rfl (by kernel_rfl) (by kernel_rfl) (by kernel_rfl) (fun _ _ _ h => h) (Or.inr ⟨by rfl, rfl⟩) ?_
  simp only [Act.put, List.setIfInBounds_toArray, List.set_cons_zero, List.set_cons_succ]
  refine regF_take (i := 6) (d := some 41) (v := undef) hX1 rfl rfl (by kernel_rfl) (by kernel_rfl) (by kernel_rfl) (fun _ _ _ h => h) (Or.inr ⟨by rfl, rfl⟩) ?_
  simp only [Act.put, List.setIfInBounds_toArray, List.set_cons_zero, List.set_cons_succ]
  refine regF_take (i := 7) (d := some 42) (v := undef) hX1 rfl rfl (by kernel_rfl) (by kernel_rfl) (by kernel_rfl) (fun _ _ _ h => h) (Or.inr ⟨by rfl, rfl⟩) ?_
  simp only [Act.put, List.setIfInBounds_toArray, List.set_cons_zero, List.set_cons_succ]
  refine regF_take (i := 8) (d := some 43) (v := undef) hX1 rfl rfl (by kernel_rfl) (by kernel_rfl) (by kernel_rfl) (fun _ _ _ h => h) (Or.inr ⟨by rfl, rfl⟩) ?_
  simp only [Act.put, List.setIfInBounds_toArray, List.set_cons_zero, List.set_cons_succ]
  refine regF_take (i := 9) (d := some 44) (v := undef) hX1 rfl rfl (by kernel_rfl) (by kernel_rfl) (by kernel_rfl) (fun _ _ _ h => h) (Or.inr ⟨by rfl, rfl⟩) ?_
  simp only [Act.put, List.setIfInBounds_toArray, List.set_cons_zero, List.set_cons_succ]
  refine regF_take (i := 10) (d := some 45) (v := ?_) hX1 rfl rfl (by kernel_rfl) (by kernel_rfl) (by kernel_rfl) (fun _ _ _ h => h) (Or.inl ⟨by rfl, ?_⟩) ?_
  rotate_left
  · intro w' hx; (go_simp <;> with_reducible rfl)
  simp only [Act.put, List.setIfInBounds_toArray, List.set_cons_zero, List.set_cons_succ]
  refine regF_one 12 _ (by kernel_rfl) rfl ?_
  intro K hK
  go_simp
  have hX2 := hX1.new (.cells #[.bool u, .bool false, .bool false, .bool true, .bool false, .bool false] 4)
  have hkn := heap_alloc_new W4 (.cells #[.bool u, .bool false, .bool false, .bool true, .bool false, .bool false] 4)
  have cK : (W4.alloc (.cells #[.bool u, .bool false, .bool false, .bool true, .bool false, .bool false] 4)).cell? ⟨W4.heap.size, 4, none⟩ = some (.bool false) := cell_of_row _ _ 4 _ _ _ hkn
  refine hK.out _ _ hX2 ?_
  generalize W4.alloc _ = W5 at *
  clear hK K hkn
  refine regF_one 15 _ (by kernel_rfl) rfl ?_
  intro K hK
  go_simp
  refine hK.out _ _ hX2 ?_
  clear hK K
  refine regF_one 16 _ (by kernel_rfl) rfl ?_
  intro K hK
  go_simp
  refine hK.out _ _ hX2 ?_
  clear hK K
  refine regF_one 17 _ (by kernel_rfl) rfl ?_
  intro K hK
  go_simp
  refine hK.out _ _ hX2 ?_
  clear hK K
  refine wpAnyH_done (by kernel_rfl) ?_ _
  have hb5 := hb2.drew.trans (hX2.mono hb2.size)
  have hk5 : W5.heap[w.heap.size]? = _ := kept_block (w := V.drew) hk2 hX2
  have hg5 : W5.heap[gp + 1]? = _ := kept_block (w := V.drew) hg2 hX2
  have hps5 := (hps3.below (Below.refl _ V).drew).below hX2
  clear hb2 hk2 hg2 hps3 c0 c1 c2 c3 q0 q1 q2 q3 hb4 hX1 hX2
  have hgo : (kG 74 xx 0 yx yy).ok := kG_ok Hok.out
  have hcr : cRight (kG 74 xx 0 yx yy) = false := (kG_right _ _ _ _ _ (by decide)).trans HRt.out
  go_upto_region 8 with fail
  clear cK
  have hb6 := hb5.alloc hb5.size (.cells #[.int .i64 0, .int .i64 2, .int .i64 4, .int .i64 8, .int .i64 0, .int .i64 0] 3)
  have hX6 := (Below.refl W5.heap.size W5).alloc (Nat.le_refl _) (.cells #[.int .i64 0, .int .i64 2, .int .i64 4, .int .i64 8, .int .i64 0, .int .i64 0] 3)
  have hk6 := kept_block hk5 hX6
  have hg6 := kept_block hg5 hX6
  have hps6 := hps5.below hX6
  clear hb5 hk5 hg5 hps5 hX6
  generalize W5.alloc _ = W6 at *
  have hrows : CgV.rows W6 ⟨(kG 74 xx 0 yx yy), some ⟨gp, 0, none⟩, 1, 1, none, 0, 0⟩ := ⟨hps6, Row.empty _ _⟩
  have HBy : Hid (Calls Try.prog 17 #[.agg #[.int .i16 0, .int .i16 0, .int .i16 0, .int .i16 0, .slice (some ⟨gp, 0, none⟩) 1 1, .slice none 0 0]] W6 (RetB W6 (cBytes (kG 74 xx 0 yx yy)))) := cbytes_any ⟨(kG 74 xx 0 yx yy), some ⟨gp, 0, none⟩, 1, 1, none, 0, 0⟩ W6 hrows (by show (1 : Nat) ≤ 1000000; omega) (by show (0 : Nat) ≤ 1000000; omega) hgo
  have HRi : Hid (∀ W, Below W6.heap.size W6 W → Calls Try.prog 18 #[.agg #[.int .i16 0, .int .i16 0, .int .i16 0, .int .i16 0, .slice (some ⟨gp, 0, none⟩) 1 1, .slice none 0 0]] W (Ret W (.bool false))) := fun W hW => by
    have h := cright_any ⟨(kG 74 xx 0 yx yy), some ⟨gp, 0, none⟩, 1, 1, none, 0, 0⟩ W (hrows.below hW) (by show (1 : Nat) ≤ 1000000; omega) (by show (0 : Nat) ≤ 1000000; omega) hgo
    rw [show CgV.g ⟨(kG 74 xx 0 yx yy), some ⟨gp, 0, none⟩, 1, 1, none, 0, 0⟩ = (kG 74 xx 0 yx yy) from rfl, hcr] at h
    exact h
  have HGo := Lib.hid hgo
  have HCr := Lib.hid hcr
  clear hrows hps6 hcr hgo
  obtain ⟨c0, c1, c2, c3, c4, c5⟩ := cells6 hg6
  go_wp2_with fail
  with_reducible refine HBy.out.mono ?_
  rintro e7 w7 ⟨A, an, ac, rfl, hown, hb7⟩
  have hk7 := kept_block hk6 hb7
  have hg7 := kept_block hg6 hb7
  have hbw7 := hb6.trans (hb7.mono hb6.size)
  clear HBy hk6 hg6 hb6 c0 c1 c2 c3 c4 c5
  obtain ⟨c0, c1, c2, c3, c4, c5⟩ := cells6 hg7
  unfold cBytes at hown
  rw [HCr.out, if_neg (by decide)] at hown
  obtain rfl : an = 0 := hown.len.symm
  have HR1 := Lib.hid (HRi.out _ hb7)
  clear HRi
  go_wp2_with fail
  with_reducible refine HR1.out.mono ?_
  rintro e8 w8 ⟨rfl, hb8⟩
  go_wp2
  go_ret
  exact ⟨rfl, hbw7.trans (hb8.mono hbw7.size)⟩

end Go.Proofs.Ytgafjieghckimaa

/- A part's matrix, of kind 5. -/
namespace Go.Proofs.Ytgafjieghckimaa
open Go.RowKit
set_option linter.unusedVariables false
set_option linter.unusedSimpArgs false

set_option maxRecDepth 1000000 in
set_option maxHeartbeats 8000000 in
theorem kinds_5_t (xx xy yx yy n : Int) (u e : Bool) (w : World) (n0 : 0 ≤ n) (n1 : n ≤ 255) (hK : n % 6 = 5) (h0 : -32768 ≤ xx ∧ xx ≤ 32767) (h1 : -32768 ≤ xy ∧ xy ≤ 32767) (h2 : -32768 ≤ yx ∧ yx ≤ 32767) (h3 : -32768 ≤ yy ∧ yy ≤ 32767) (hxy : xy = 0) (hyx : yx = 0)
    (hU : decide ([xx, xy, yx, yy] = [16384, 0, 0, 16384]) = u) (hE : decide (xx = yy) = e) (hE2 : (xx == yy) = e) (hR : ptRight (kPt 194 xx xy yx yy) = false) :
    Calls Try.prog 3 #[mxV xx xy yx yy, .int .u8 n] w (True_ w) := by
  subst hxy hyx
  have HAw := Lib.hid (fun W => awake13_any W)
  have Hok := Lib.hid (kPt_ok (f := 194) (by decide) h0 h1 h2 h3)
  have HRt := Lib.hid hR
  have heq := fun W => eq_mx xx 0 0 yy 16384 0 0 16384 W
  rw [hU] at heq
  have hA := (Below.refl w.heap.size w).alloc (Nat.le_refl _) (.cells #[.int .i16 xx, .int .i16 0, .int .i16 0, .int .i16 yy] 24)
  have hk := heap_alloc_new w (.cells #[.int .i16 xx, .int .i16 0, .int .i16 0, .int .i16 yy] 24)
  have hq : Int.tmod n 6 = 5 := by rw [Int.tmod_eq_emod_of_nonneg n0]; exact hK
  unfold mxV
  clear h0 h1 h2 h3 hU hR hK
  go_enter Try.func3, Try.ntmps3
  go_wp2_with fail
  with_reducible refine (HAw.out _).mono ?_
  rintro e0 w0 ⟨rfl, hb0⟩
  have hk0 := kept_block hk hb0
  have hbw := hA.trans (hb0.mono hA.size)
  have hlt : w.heap.size < w0.heap.size := lt_of_block hk0
  clear HAw hA hk hb0
  go_upto_region 4 with fail
  have hk1 := kept_alloc hk0 (.cells #[.int .u16 0, .int .u16 8, .int .u16 64, .int .u16 128, .int .u16 72, .int .u16 192] 26)
  have hb1 := hbw.alloc hbw.size (.cells #[.int .u16 0, .int .u16 8, .int .u16 64, .int .u16 128, .int .u16 72, .int .u16 192] 26)
  have hlt1 := lt_of_block hk1
  clear hk0 hbw hlt
  generalize w0.alloc _ = V0 at *
  have hor : bits .or .u16 2 192 = 194 := by decide
  obtain ⟨c0, c1, c2, c3⟩ := cells4 hk1
  have hA2 := (Below.refl V0.heap.size V0).alloc (Nat.le_refl _) (.cells #[.int .u16 194, .int .u16 0, .int .i16 0, .int .i16 0, .int .i16 xx, .int .i16 0, .int .i16 0, .int .i16 yy] 29)
  have hA3 := hA2.alloc hA2.size (.cells #[.int .i16 0, .int .i16 0, .int .i16 0, .int .i16 0, .slice (some ⟨V0.heap.size, 0, none⟩) 1 1, .slice none 0 0] 34)
  have hk2 := kept_block hk1 hA3
  have hb2 := hb1.trans (hA3.mono hb1.size)
  have hg2 := heap_alloc_new (V0.alloc (.cells #[.int .u16 194, .int .u16 0, .int .i16 0, .int .i16 0, .int .i16 xx, .int .i16 0, .int .i16 0, .int .i16 yy] 29)) (.cells #[.int .i16 0, .int .i16 0, .int .i16 0, .int .i16 0, .slice (some ⟨V0.heap.size, 0, none⟩) 1 1, .slice none 0 0] 34)
  have hps2 : RowS encPt 8 (V0.alloc (.cells #[.int .u16 194, .int .u16 0, .int .i16 0, .int .i16 0, .int .i16 xx, .int .i16 0, .int .i16 0, .int .i16 yy] 29)) (some ⟨V0.heap.size, 0, none⟩) 1 [kPt 194 xx 0 0 yy] := rowS_vals encPt_len V0 29 [kPt 194 xx 0 0 yy] _ rfl 1 rfl
  have hps3 := hps2.below ((Below.refl _ (V0.alloc (.cells #[.int .u16 194, .int .u16 0, .int .i16 0, .int .i16 0, .int .i16 xx, .int .i16 0, .int .i16 0, .int .i16 yy] 29))).alloc (Nat.le_refl _) (.cells #[.int .i16 0, .int .i16 0, .int .i16 0, .int .i16 0, .slice (some ⟨V0.heap.size, 0, none⟩) 1 1, .slice none 0 0] 34))
  have hnew := heap_alloc_new (V0.alloc (.cells #[.int .u16 194, .int .u16 0, .int .i16 0, .int .i16 0, .int .i16 xx, .int .i16 0, .int .i16 0, .int .i16 yy] 29)) (.cells #[.int .i16 0, .int .i16 0, .int .i16 0, .int .i16 0, .slice none 0 0, .slice none 0 0] 34)
  have hgs : (V0.alloc (.cells #[.int .u16 194, .int .u16 0, .int .i16 0, .int .i16 0, .int .i16 xx, .int .i16 0, .int .i16 0, .int .i16 yy] 29)).heap.size = V0.heap.size + 1 := by simp
  clear hA2 hA3 hps2 hk1 hb1
  go_upto_region 5 with fail
  clear hnew c0 c1 c2 c3 hor
  rw [hgs] at hg2
  have hgs2 := lt_of_block hg2
  clear hgs
  generalize (V0.alloc (.cells #[.int .u16 194, .int .u16 0, .int .i16 0, .int .i16 0, .int .i16 xx, .int .i16 0, .int .i16 0, .int .i16 yy] 29)).alloc _ = V at *
  generalize V0.heap.size = gp at *
  obtain ⟨c0, c1, c2, c3⟩ := cells4 hk2
  go_upto_region 6 with fail
  have q0 : V.drew.cell? ⟨w.heap.size, 0, none⟩ = _ := c0
  have q1 : V.drew.cell? ⟨w.heap.size, 1, none⟩ = _ := c1
  have q2 : V.drew.cell? ⟨w.heap.size, 2, none⟩ = _ := c2
  have q3 : V.drew.cell? ⟨w.heap.size, 3, none⟩ = _ := c3
  refine regF_start (by kernel_rfl) ?_
  refine regF_take (i := 0) (d := some 35) (v := ?_) (Ext.refl _) rfl rfl (by kernel_rfl) (by kernel_rfl) (by kernel_rfl) (fun _ _ _ h => h) (Or.inl ⟨by rfl, ?_⟩) ?_
  rotate_left
  · intro w' hx; have r0 := hx.cell q0; have r1 := hx.cell q1; have r2 := hx.cell q2; have r3 := hx.cell q3; (go_simp <;> with_reducible rfl)
  simp only [Act.put, List.setIfInBounds_toArray, List.set_cons_zero, List.set_cons_succ]
  refine regF_take (i := 3) (d := some 38) (v := ?_) (Ext.refl _) rfl rfl (by kernel_rfl) (by kernel_rfl) (by kernel_rfl) (fun _ _ _ h => h) (Or.inl ⟨by rfl, ?_⟩) ?_
  rotate_left
  · intro w' hx; (go_simp <;> with_reducible rfl)
  simp only [Act.put, List.setIfInBounds_toArray, List.set_cons_zero, List.set_cons_succ]
  refine regF_take (i := 11) (d := some 46) (v := ?_) (Ext.refl _) rfl rfl (by kernel_rfl) (by kernel_rfl) (by kernel_rfl) (fun _ _ _ h => h) (Or.inl ⟨by rfl, ?_⟩) ?_
  rotate_left
  · intro w' hx; (go_simp <;> with_reducible rfl)
  simp only [Act.put, List.setIfInBounds_toArray, List.set_cons_zero, List.set_cons_succ]
  refine regF_take (i := 13) (d := some 48) (v := ?_) (Ext.refl _) rfl rfl (by kernel_rfl) (by kernel_rfl) (by kernel_rfl) (fun _ _ _ h => h) (Or.inl ⟨by rfl, ?_⟩) ?_
  rotate_left
  · intro w' hx; (go_simp <;> with_reducible rfl)
  simp only [Act.put, List.setIfInBounds_toArray, List.set_cons_zero, List.set_cons_succ]
  refine regF_take (i := 14) (d := some 49) (v := ?_) (Ext.refl _) rfl rfl (by kernel_rfl) (by kernel_rfl) (by kernel_rfl) (fun _ _ _ h => h) (Or.inl ⟨by rfl, ?_⟩) ?_
  rotate_left
  · intro w' hx; (go_simp <;> with_reducible rfl)
  simp only [Act.put, List.setIfInBounds_toArray, List.set_cons_zero, List.set_cons_succ]
  refine regF_one 1 _ (by kernel_rfl) rfl ?_
  intro K hK
  go_simp
  refine (unit_any _).mono ?_
  rintro e4 W4 ⟨rfl, hb4⟩
  unfold mxV
  have hX1 := (Ext.refl V.drew).call hb4
  refine hK.out _ _ hX1 ?_
  clear hK K
  refine regF_take (i := 2) (d := some 37) (v := ?_) hX1 rfl rfl (by kernel_rfl) (by kernel_rfl) (by kernel_rfl) (fun _ _ _ h => h) (Or.inl ⟨by rfl, ?_⟩) ?_
  rotate_left
  · intro w' hx; (go_simp <;> with_reducible rfl)
  simp only [Act.put, List.setIfInBounds_toArray, List.set_cons_zero, List.set_cons_succ]
  refine regF_take (i := 4) (d := some 39) (v := ?_) hX1 rfl rfl (by kernel_rfl) (by kernel_rfl) (by kernel_rfl) (fun _ _ _ h => h) (Or.inl ⟨by rfl, ?_⟩) ?_
  rotate_left
  · intro w' hx; (go_simp <;> with_reducible rfl)
  simp only [Act.put, List.setIfInBounds_toArray, List.set_cons_zero, List.set_cons_succ]
  refine regF_take (i := 5) (d := some 40) (v := ?_) hX1 rfl rfl (by kernel_rfl) (by kernel_rfl) (by kernel_rfl) (fun _ _ _ h => h) (Or.inl ⟨by rfl, ?_⟩) ?_
  rotate_left
  · intro w' hx; (go_simp <;> with_reducible rfl)
  simp only [Act.put, List.setIfInBounds_toArray, List.set_cons_zero, List.set_cons_succ]
  refine regF_take (i := 6) (d := some 41) (v := ?_) hX1 rfl rfl (by kernel_rfl) (by kernel_rfl) (by kernel_rfl) (fun _ _ _ h => h) (Or.inl ⟨by rfl, ?_⟩) ?_
  rotate_left
  · intro w' hx; have r0 := hx.cell q0; have r1 := hx.cell q1; have r2 := hx.cell q2; have r3 := hx.cell q3; (go_simp <;> with_reducible rfl)
  simp only [Act.put, List.setIfInBounds_toArray, List.set_cons_zero, List.set_cons_succ]
  refine regF_take (i := 7) (d := some 42) (v := ?_) hX1 rfl rfl (by kernel_rfl) (by kernel_rfl) (by kernel_rfl) (fun _ _ _ h => h) (Or.inl ⟨by rfl, ?_⟩) ?_
  rotate_left
  · intro w' hx; (go_simp <;> with_reducible rfl)
  simp only [Act.put, List.setIfInBounds_toArray, List.set_cons_zero, List.set_cons_succ]
  refine regF_take (i := 8) (d := some 43) (v := ?_) hX1 rfl rfl (by kernel_rfl) (by kernel_rfl) (by kernel_rfl) (fun _ _ _ h => h) (Or.inl ⟨by rfl, ?_⟩) ?_
  rotate_left
  · intro w' hx; have r0 := hx.cell q0; have r1 := hx.cell q1; have r2 := hx.cell q2; have r3 := hx.cell q3; (go_simp <;> with_reducible rfl)
  simp only [Act.put, List.setIfInBounds_toArray, List.set_cons_zero, List.set_cons_succ]
  refine regF_take (i := 9) (d := some 44) (v := ?_) hX1 rfl rfl (by kernel_rfl) (by kernel_rfl) (by kernel_rfl) (fun _ _ _ h => h) (Or.inl ⟨by rfl, ?_⟩) ?_
  rotate_left
  · intro w' hx; (go_simp <;> with_reducible rfl)
  simp only [Act.put, List.setIfInBounds_toArray, List.set_cons_zero, List.set_cons_succ]
  refine regF_take (i := 10) (d := some 45) (v := ?_) hX1 rfl rfl (by kernel_rfl) (by kernel_rfl) (by kernel_rfl) (fun _ _ _ h => h) (Or.inl ⟨by rfl, ?_⟩) ?_
  rotate_left
  · intro w' hx; (go_simp <;> with_reducible rfl)
  simp only [Act.put, List.setIfInBounds_toArray, List.set_cons_zero, List.set_cons_succ]
  refine regF_one 12 _ (by kernel_rfl) rfl ?_
  intro K hK
  go_simp
  have hX2 := hX1.new (.cells #[.bool u, .bool e, .bool true, .bool true, .bool false, .bool false] 4)
  have hkn := heap_alloc_new W4 (.cells #[.bool u, .bool e, .bool true, .bool true, .bool false, .bool false] 4)
  have cK : (W4.alloc (.cells #[.bool u, .bool e, .bool true, .bool true, .bool false, .bool false] 4)).cell? ⟨W4.heap.size, 5, none⟩ = some (.bool false) := cell_of_row _ _ 5 _ _ _ hkn
  refine hK.out _ _ hX2 ?_
  generalize W4.alloc _ = W5 at *
  clear hK K hkn
  refine regF_one 15 _ (by kernel_rfl) rfl ?_
  intro K hK
  go_simp
  refine hK.out _ _ hX2 ?_
  clear hK K
  refine regF_one 16 _ (by kernel_rfl) rfl ?_
  intro K hK
  go_simp
  refine hK.out _ _ hX2 ?_
  clear hK K
  refine regF_one 17 _ (by kernel_rfl) rfl ?_
  intro K hK
  go_simp
  refine hK.out _ _ hX2 ?_
  clear hK K
  refine wpAnyH_done (by kernel_rfl) ?_ _
  have hb5 := hb2.drew.trans (hX2.mono hb2.size)
  have hk5 : W5.heap[w.heap.size]? = _ := kept_block (w := V.drew) hk2 hX2
  have hg5 : W5.heap[gp + 1]? = _ := kept_block (w := V.drew) hg2 hX2
  have hps5 := (hps3.below (Below.refl _ V).drew).below hX2
  clear hb2 hk2 hg2 hps3 c0 c1 c2 c3 q0 q1 q2 q3 hb4 hX1 hX2
  have hgo : (kG 194 xx 0 0 yy).ok := kG_ok Hok.out
  have hcr : cRight (kG 194 xx 0 0 yy) = false := (kG_right _ _ _ _ _ (by decide)).trans HRt.out
  go_upto_region 8 with fail
  clear cK
  have hb6 := hb5.alloc hb5.size (.cells #[.int .i64 0, .int .i64 2, .int .i64 4, .int .i64 8, .int .i64 0, .int .i64 0] 3)
  have hX6 := (Below.refl W5.heap.size W5).alloc (Nat.le_refl _) (.cells #[.int .i64 0, .int .i64 2, .int .i64 4, .int .i64 8, .int .i64 0, .int .i64 0] 3)
  have hk6 := kept_block hk5 hX6
  have hg6 := kept_block hg5 hX6
  have hps6 := hps5.below hX6
  clear hb5 hk5 hg5 hps5 hX6
  generalize W5.alloc _ = W6 at *
  have hrows : CgV.rows W6 ⟨(kG 194 xx 0 0 yy), some ⟨gp, 0, none⟩, 1, 1, none, 0, 0⟩ := ⟨hps6, Row.empty _ _⟩
  have HBy : Hid (Calls Try.prog 17 #[.agg #[.int .i16 0, .int .i16 0, .int .i16 0, .int .i16 0, .slice (some ⟨gp, 0, none⟩) 1 1, .slice none 0 0]] W6 (RetB W6 (cBytes (kG 194 xx 0 0 yy)))) := cbytes_any ⟨(kG 194 xx 0 0 yy), some ⟨gp, 0, none⟩, 1, 1, none, 0, 0⟩ W6 hrows (by show (1 : Nat) ≤ 1000000; omega) (by show (0 : Nat) ≤ 1000000; omega) hgo
  have HRi : Hid (∀ W, Below W6.heap.size W6 W → Calls Try.prog 18 #[.agg #[.int .i16 0, .int .i16 0, .int .i16 0, .int .i16 0, .slice (some ⟨gp, 0, none⟩) 1 1, .slice none 0 0]] W (Ret W (.bool false))) := fun W hW => by
    have h := cright_any ⟨(kG 194 xx 0 0 yy), some ⟨gp, 0, none⟩, 1, 1, none, 0, 0⟩ W (hrows.below hW) (by show (1 : Nat) ≤ 1000000; omega) (by show (0 : Nat) ≤ 1000000; omega) hgo
    rw [show CgV.g ⟨(kG 194 xx 0 0 yy), some ⟨gp, 0, none⟩, 1, 1, none, 0, 0⟩ = (kG 194 xx 0 0 yy) from rfl, hcr] at h
    exact h
  have HGo := Lib.hid hgo
  have HCr := Lib.hid hcr
  clear hrows hps6 hcr hgo
  obtain ⟨c0, c1, c2, c3, c4, c5⟩ := cells6 hg6
  go_wp2_with fail
  with_reducible refine HBy.out.mono ?_
  rintro e7 w7 ⟨A, an, ac, rfl, hown, hb7⟩
  have hk7 := kept_block hk6 hb7
  have hg7 := kept_block hg6 hb7
  have hbw7 := hb6.trans (hb7.mono hb6.size)
  clear HBy hk6 hg6 hb6 c0 c1 c2 c3 c4 c5
  obtain ⟨c0, c1, c2, c3, c4, c5⟩ := cells6 hg7
  unfold cBytes at hown
  rw [HCr.out, if_neg (by decide)] at hown
  obtain rfl : an = 0 := hown.len.symm
  have HR1 := Lib.hid (HRi.out _ hb7)
  clear HRi
  go_wp2_with fail
  with_reducible refine HR1.out.mono ?_
  rintro e8 w8 ⟨rfl, hb8⟩
  go_wp2
  go_ret
  exact ⟨rfl, hbw7.trans (hb8.mono hbw7.size)⟩

set_option maxRecDepth 1000000 in
set_option maxHeartbeats 8000000 in
theorem kinds_5_x (xx xy yx yy n : Int) (u e : Bool) (w : World) (n0 : 0 ≤ n) (n1 : n ≤ 255) (hK : n % 6 = 5) (h0 : -32768 ≤ xx ∧ xx ≤ 32767) (h1 : -32768 ≤ xy ∧ xy ≤ 32767) (h2 : -32768 ≤ yx ∧ yx ≤ 32767) (h3 : -32768 ≤ yy ∧ yy ≤ 32767) (hxy : (xy == 0) = false)
    (hU : decide ([xx, xy, yx, yy] = [16384, 0, 0, 16384]) = u) (hE : decide (xx = yy) = e) (hE2 : (xx == yy) = e) (hR : ptRight (kPt 194 xx xy yx yy) = false) :
    Calls Try.prog 3 #[mxV xx xy yx yy, .int .u8 n] w (True_ w) := by
  have HAw := Lib.hid (fun W => awake13_any W)
  have Hok := Lib.hid (kPt_ok (f := 194) (by decide) h0 h1 h2 h3)
  have HRt := Lib.hid hR
  have heq := fun W => eq_mx xx xy yx yy 16384 0 0 16384 W
  rw [hU] at heq
  have hA := (Below.refl w.heap.size w).alloc (Nat.le_refl _) (.cells #[.int .i16 xx, .int .i16 xy, .int .i16 yx, .int .i16 yy] 24)
  have hk := heap_alloc_new w (.cells #[.int .i16 xx, .int .i16 xy, .int .i16 yx, .int .i16 yy] 24)
  have hq : Int.tmod n 6 = 5 := by rw [Int.tmod_eq_emod_of_nonneg n0]; exact hK
  unfold mxV
  clear h0 h1 h2 h3 hU hR hK
  go_enter Try.func3, Try.ntmps3
  go_wp2_with fail
  with_reducible refine (HAw.out _).mono ?_
  rintro e0 w0 ⟨rfl, hb0⟩
  have hk0 := kept_block hk hb0
  have hbw := hA.trans (hb0.mono hA.size)
  have hlt : w.heap.size < w0.heap.size := lt_of_block hk0
  clear HAw hA hk hb0
  go_upto_region 4 with fail
  have hk1 := kept_alloc hk0 (.cells #[.int .u16 0, .int .u16 8, .int .u16 64, .int .u16 128, .int .u16 72, .int .u16 192] 26)
  have hb1 := hbw.alloc hbw.size (.cells #[.int .u16 0, .int .u16 8, .int .u16 64, .int .u16 128, .int .u16 72, .int .u16 192] 26)
  have hlt1 := lt_of_block hk1
  clear hk0 hbw hlt
  generalize w0.alloc _ = V0 at *
  have hor : bits .or .u16 2 192 = 194 := by decide
  obtain ⟨c0, c1, c2, c3⟩ := cells4 hk1
  have hA2 := (Below.refl V0.heap.size V0).alloc (Nat.le_refl _) (.cells #[.int .u16 194, .int .u16 0, .int .i16 0, .int .i16 0, .int .i16 xx, .int .i16 xy, .int .i16 yx, .int .i16 yy] 29)
  have hA3 := hA2.alloc hA2.size (.cells #[.int .i16 0, .int .i16 0, .int .i16 0, .int .i16 0, .slice (some ⟨V0.heap.size, 0, none⟩) 1 1, .slice none 0 0] 34)
  have hk2 := kept_block hk1 hA3
  have hb2 := hb1.trans (hA3.mono hb1.size)
  have hg2 := heap_alloc_new (V0.alloc (.cells #[.int .u16 194, .int .u16 0, .int .i16 0, .int .i16 0, .int .i16 xx, .int .i16 xy, .int .i16 yx, .int .i16 yy] 29)) (.cells #[.int .i16 0, .int .i16 0, .int .i16 0, .int .i16 0, .slice (some ⟨V0.heap.size, 0, none⟩) 1 1, .slice none 0 0] 34)
  have hps2 : RowS encPt 8 (V0.alloc (.cells #[.int .u16 194, .int .u16 0, .int .i16 0, .int .i16 0, .int .i16 xx, .int .i16 xy, .int .i16 yx, .int .i16 yy] 29)) (some ⟨V0.heap.size, 0, none⟩) 1 [kPt 194 xx xy yx yy] := rowS_vals encPt_len V0 29 [kPt 194 xx xy yx yy] _ rfl 1 rfl
  have hps3 := hps2.below ((Below.refl _ (V0.alloc (.cells #[.int .u16 194, .int .u16 0, .int .i16 0, .int .i16 0, .int .i16 xx, .int .i16 xy, .int .i16 yx, .int .i16 yy] 29))).alloc (Nat.le_refl _) (.cells #[.int .i16 0, .int .i16 0, .int .i16 0, .int .i16 0, .slice (some ⟨V0.heap.size, 0, none⟩) 1 1, .slice none 0 0] 34))
  have hnew := heap_alloc_new (V0.alloc (.cells #[.int .u16 194, .int .u16 0, .int .i16 0, .int .i16 0, .int .i16 xx, .int .i16 xy, .int .i16 yx, .int .i16 yy] 29)) (.cells #[.int .i16 0, .int .i16 0, .int .i16 0, .int .i16 0, .slice none 0 0, .slice none 0 0] 34)
  have hgs : (V0.alloc (.cells #[.int .u16 194, .int .u16 0, .int .i16 0, .int .i16 0, .int .i16 xx, .int .i16 xy, .int .i16 yx, .int .i16 yy] 29)).heap.size = V0.heap.size + 1 := by simp
  clear hA2 hA3 hps2 hk1 hb1
  go_upto_region 5 with fail
  clear hnew c0 c1 c2 c3 hor
  rw [hgs] at hg2
  have hgs2 := lt_of_block hg2
  clear hgs
  generalize (V0.alloc (.cells #[.int .u16 194, .int .u16 0, .int .i16 0, .int .i16 0, .int .i16 xx, .int .i16 xy, .int .i16 yx, .int .i16 yy] 29)).alloc _ = V at *
  generalize V0.heap.size = gp at *
  obtain ⟨c0, c1, c2, c3⟩ := cells4 hk2
  go_upto_region 6 with fail
  have q0 : V.drew.cell? ⟨w.heap.size, 0, none⟩ = _ := c0
  have q1 : V.drew.cell? ⟨w.heap.size, 1, none⟩ = _ := c1
  have q2 : V.drew.cell? ⟨w.heap.size, 2, none⟩ = _ := c2
  have q3 : V.drew.cell? ⟨w.heap.size, 3, none⟩ = _ := c3
  refine regF_start (by kernel_rfl) ?_
  refine regF_take (i := 0) (d := some 35) (v := ?_) (Ext.refl _) rfl rfl (by kernel_rfl) (by kernel_rfl) (by kernel_rfl) (fun _ _ _ h => h) (Or.inl ⟨by rfl, ?_⟩) ?_
  rotate_left
  · intro w' hx; have r0 := hx.cell q0; have r1 := hx.cell q1; have r2 := hx.cell q2; have r3 := hx.cell q3; (go_simp <;> with_reducible rfl)
  simp only [Act.put, List.setIfInBounds_toArray, List.set_cons_zero, List.set_cons_succ]
  refine regF_take (i := 3) (d := some 38) (v := ?_) (Ext.refl _) rfl rfl (by kernel_rfl) (by kernel_rfl) (by kernel_rfl) (fun _ _ _ h => h) (Or.inl ⟨by rfl, ?_⟩) ?_
  rotate_left
  · intro w' hx; (go_simp <;> with_reducible rfl)
  simp only [Act.put, List.setIfInBounds_toArray, List.set_cons_zero, List.set_cons_succ]
  refine regF_take (i := 11) (d := some 46) (v := ?_) (Ext.refl _) rfl rfl (by kernel_rfl) (by kernel_rfl) (by kernel_rfl) (fun _ _ _ h => h) (Or.inl ⟨by rfl, ?_⟩) ?_
  rotate_left
  · intro w' hx; (go_simp <;> with_reducible rfl)
  simp only [Act.put, List.setIfInBounds_toArray, List.set_cons_zero, List.set_cons_succ]
  refine regF_take (i := 13) (d := some 48) (v := ?_) (Ext.refl _) rfl rfl (by kernel_rfl) (by kernel_rfl) (by kernel_rfl) (fun _ _ _ h => h) (Or.inl ⟨by rfl, ?_⟩) ?_
  rotate_left
  · intro w' hx; (go_simp <;> with_reducible rfl)
  simp only [Act.put, List.setIfInBounds_toArray, List.set_cons_zero, List.set_cons_succ]
  refine regF_take (i := 14) (d := some 49) (v := ?_) (Ext.refl _) rfl rfl (by kernel_rfl) (by kernel_rfl) (by kernel_rfl) (fun _ _ _ h => h) (Or.inl ⟨by rfl, ?_⟩) ?_
  rotate_left
  · intro w' hx; (go_simp <;> with_reducible rfl)
  simp only [Act.put, List.setIfInBounds_toArray, List.set_cons_zero, List.set_cons_succ]
  refine regF_one 1 _ (by kernel_rfl) rfl ?_
  intro K hK
  go_simp
  refine (unit_any _).mono ?_
  rintro e4 W4 ⟨rfl, hb4⟩
  unfold mxV
  have hX1 := (Ext.refl V.drew).call hb4
  refine hK.out _ _ hX1 ?_
  clear hK K
  refine regF_take (i := 2) (d := some 37) (v := ?_) hX1 rfl rfl (by kernel_rfl) (by kernel_rfl) (by kernel_rfl) (fun _ _ _ h => h) (Or.inl ⟨by rfl, ?_⟩) ?_
  rotate_left
  · intro w' hx; (go_simp <;> with_reducible rfl)
  simp only [Act.put, List.setIfInBounds_toArray, List.set_cons_zero, List.set_cons_succ]
  refine regF_take (i := 4) (d := some 39) (v := ?_) hX1 rfl rfl (by kernel_rfl) (by kernel_rfl) (by kernel_rfl) (fun _ _ _ h => h) (Or.inl ⟨by rfl, ?_⟩) ?_
  rotate_left
  · intro w' hx; (go_simp <;> with_reducible rfl)
  simp only [Act.put, List.setIfInBounds_toArray, List.set_cons_zero, List.set_cons_succ]
  refine regF_take (i := 5) (d := some 40) (v := undef) hX1 rfl rfl (by kernel_rfl) (by kernel_rfl) (by kernel_rfl) (fun _ _ _ h => h) (Or.inr ⟨by rfl, rfl⟩) ?_
  simp only [Act.put, List.setIfInBounds_toArray, List.set_cons_zero, List.set_cons_succ]
  refine regF_take (i := 6) (d := some 41) (v := undef) hX1 rfl rfl (by kernel_rfl) (by kernel_rfl) (by kernel_rfl) (fun _ _ _ h => h) (Or.inr ⟨by rfl, rfl⟩) ?_
  simp only [Act.put, List.setIfInBounds_toArray, List.set_cons_zero, List.set_cons_succ]
  refine regF_take (i := 7) (d := some 42) (v := undef) hX1 rfl rfl (by kernel_rfl) (by kernel_rfl) (by kernel_rfl) (fun _ _ _ h => h) (Or.inr ⟨by rfl, rfl⟩) ?_
  simp only [Act.put, List.setIfInBounds_toArray, List.set_cons_zero, List.set_cons_succ]
  refine regF_take (i := 8) (d := some 43) (v := undef) hX1 rfl rfl (by kernel_rfl) (by kernel_rfl) (by kernel_rfl) (fun _ _ _ h => h) (Or.inr ⟨by rfl, rfl⟩) ?_
  simp only [Act.put, List.setIfInBounds_toArray, List.set_cons_zero, List.set_cons_succ]
  refine regF_take (i := 9) (d := some 44) (v := undef) hX1 rfl rfl (by kernel_rfl) (by kernel_rfl) (by kernel_rfl) (fun _ _ _ h => h) (Or.inr ⟨by rfl, rfl⟩) ?_
  simp only [Act.put, List.setIfInBounds_toArray, List.set_cons_zero, List.set_cons_succ]
  refine regF_take (i := 10) (d := some 45) (v := ?_) hX1 rfl rfl (by kernel_rfl) (by kernel_rfl) (by kernel_rfl) (fun _ _ _ h => h) (Or.inl ⟨by rfl, ?_⟩) ?_
  rotate_left
  · intro w' hx; (go_simp <;> with_reducible rfl)
  simp only [Act.put, List.setIfInBounds_toArray, List.set_cons_zero, List.set_cons_succ]
  refine regF_one 12 _ (by kernel_rfl) rfl ?_
  intro K hK
  go_simp
  have hX2 := hX1.new (.cells #[.bool u, .bool false, .bool false, .bool true, .bool false, .bool false] 4)
  have hkn := heap_alloc_new W4 (.cells #[.bool u, .bool false, .bool false, .bool true, .bool false, .bool false] 4)
  have cK : (W4.alloc (.cells #[.bool u, .bool false, .bool false, .bool true, .bool false, .bool false] 4)).cell? ⟨W4.heap.size, 5, none⟩ = some (.bool false) := cell_of_row _ _ 5 _ _ _ hkn
  refine hK.out _ _ hX2 ?_
  generalize W4.alloc _ = W5 at *
  clear hK K hkn
  refine regF_one 15 _ (by kernel_rfl) rfl ?_
  intro K hK
  go_simp
  refine hK.out _ _ hX2 ?_
  clear hK K
  refine regF_one 16 _ (by kernel_rfl) rfl ?_
  intro K hK
  go_simp
  refine hK.out _ _ hX2 ?_
  clear hK K
  refine regF_one 17 _ (by kernel_rfl) rfl ?_
  intro K hK
  go_simp
  refine hK.out _ _ hX2 ?_
  clear hK K
  refine wpAnyH_done (by kernel_rfl) ?_ _
  have hb5 := hb2.drew.trans (hX2.mono hb2.size)
  have hk5 : W5.heap[w.heap.size]? = _ := kept_block (w := V.drew) hk2 hX2
  have hg5 : W5.heap[gp + 1]? = _ := kept_block (w := V.drew) hg2 hX2
  have hps5 := (hps3.below (Below.refl _ V).drew).below hX2
  clear hb2 hk2 hg2 hps3 c0 c1 c2 c3 q0 q1 q2 q3 hb4 hX1 hX2
  have hgo : (kG 194 xx xy yx yy).ok := kG_ok Hok.out
  have hcr : cRight (kG 194 xx xy yx yy) = false := (kG_right _ _ _ _ _ (by decide)).trans HRt.out
  go_upto_region 8 with fail
  clear cK
  have hb6 := hb5.alloc hb5.size (.cells #[.int .i64 0, .int .i64 2, .int .i64 4, .int .i64 8, .int .i64 0, .int .i64 0] 3)
  have hX6 := (Below.refl W5.heap.size W5).alloc (Nat.le_refl _) (.cells #[.int .i64 0, .int .i64 2, .int .i64 4, .int .i64 8, .int .i64 0, .int .i64 0] 3)
  have hk6 := kept_block hk5 hX6
  have hg6 := kept_block hg5 hX6
  have hps6 := hps5.below hX6
  clear hb5 hk5 hg5 hps5 hX6
  generalize W5.alloc _ = W6 at *
  have hrows : CgV.rows W6 ⟨(kG 194 xx xy yx yy), some ⟨gp, 0, none⟩, 1, 1, none, 0, 0⟩ := ⟨hps6, Row.empty _ _⟩
  have HBy : Hid (Calls Try.prog 17 #[.agg #[.int .i16 0, .int .i16 0, .int .i16 0, .int .i16 0, .slice (some ⟨gp, 0, none⟩) 1 1, .slice none 0 0]] W6 (RetB W6 (cBytes (kG 194 xx xy yx yy)))) := cbytes_any ⟨(kG 194 xx xy yx yy), some ⟨gp, 0, none⟩, 1, 1, none, 0, 0⟩ W6 hrows (by show (1 : Nat) ≤ 1000000; omega) (by show (0 : Nat) ≤ 1000000; omega) hgo
  have HRi : Hid (∀ W, Below W6.heap.size W6 W → Calls Try.prog 18 #[.agg #[.int .i16 0, .int .i16 0, .int .i16 0, .int .i16 0, .slice (some ⟨gp, 0, none⟩) 1 1, .slice none 0 0]] W (Ret W (.bool false))) := fun W hW => by
    have h := cright_any ⟨(kG 194 xx xy yx yy), some ⟨gp, 0, none⟩, 1, 1, none, 0, 0⟩ W (hrows.below hW) (by show (1 : Nat) ≤ 1000000; omega) (by show (0 : Nat) ≤ 1000000; omega) hgo
    rw [show CgV.g ⟨(kG 194 xx xy yx yy), some ⟨gp, 0, none⟩, 1, 1, none, 0, 0⟩ = (kG 194 xx xy yx yy) from rfl, hcr] at h
    exact h
  have HGo := Lib.hid hgo
  have HCr := Lib.hid hcr
  clear hrows hps6 hcr hgo
  obtain ⟨c0, c1, c2, c3, c4, c5⟩ := cells6 hg6
  go_wp2_with fail
  with_reducible refine HBy.out.mono ?_
  rintro e7 w7 ⟨A, an, ac, rfl, hown, hb7⟩
  have hk7 := kept_block hk6 hb7
  have hg7 := kept_block hg6 hb7
  have hbw7 := hb6.trans (hb7.mono hb6.size)
  clear HBy hk6 hg6 hb6 c0 c1 c2 c3 c4 c5
  obtain ⟨c0, c1, c2, c3, c4, c5⟩ := cells6 hg7
  unfold cBytes at hown
  rw [HCr.out, if_neg (by decide)] at hown
  obtain rfl : an = 0 := hown.len.symm
  have HR1 := Lib.hid (HRi.out _ hb7)
  clear HRi
  go_wp2_with fail
  with_reducible refine HR1.out.mono ?_
  rintro e8 w8 ⟨rfl, hb8⟩
  go_wp2
  go_ret
  exact ⟨rfl, hbw7.trans (hb8.mono hbw7.size)⟩

set_option maxRecDepth 1000000 in
set_option maxHeartbeats 8000000 in
theorem kinds_5_y (xx xy yx yy n : Int) (u e : Bool) (w : World) (n0 : 0 ≤ n) (n1 : n ≤ 255) (hK : n % 6 = 5) (h0 : -32768 ≤ xx ∧ xx ≤ 32767) (h1 : -32768 ≤ xy ∧ xy ≤ 32767) (h2 : -32768 ≤ yx ∧ yx ≤ 32767) (h3 : -32768 ≤ yy ∧ yy ≤ 32767) (hxy : xy = 0) (hyx : (yx == 0) = false)
    (hU : decide ([xx, xy, yx, yy] = [16384, 0, 0, 16384]) = u) (hE : decide (xx = yy) = e) (hE2 : (xx == yy) = e) (hR : ptRight (kPt 194 xx xy yx yy) = false) :
    Calls Try.prog 3 #[mxV xx xy yx yy, .int .u8 n] w (True_ w) := by
  subst hxy
  have HAw := Lib.hid (fun W => awake13_any W)
  have Hok := Lib.hid (kPt_ok (f := 194) (by decide) h0 h1 h2 h3)
  have HRt := Lib.hid hR
  have heq := fun W => eq_mx xx 0 yx yy 16384 0 0 16384 W
  rw [hU] at heq
  have hA := (Below.refl w.heap.size w).alloc (Nat.le_refl _) (.cells #[.int .i16 xx, .int .i16 0, .int .i16 yx, .int .i16 yy] 24)
  have hk := heap_alloc_new w (.cells #[.int .i16 xx, .int .i16 0, .int .i16 yx, .int .i16 yy] 24)
  have hq : Int.tmod n 6 = 5 := by rw [Int.tmod_eq_emod_of_nonneg n0]; exact hK
  unfold mxV
  clear h0 h1 h2 h3 hU hR hK
  go_enter Try.func3, Try.ntmps3
  go_wp2_with fail
  with_reducible refine (HAw.out _).mono ?_
  rintro e0 w0 ⟨rfl, hb0⟩
  have hk0 := kept_block hk hb0
  have hbw := hA.trans (hb0.mono hA.size)
  have hlt : w.heap.size < w0.heap.size := lt_of_block hk0
  clear HAw hA hk hb0
  go_upto_region 4 with fail
  have hk1 := kept_alloc hk0 (.cells #[.int .u16 0, .int .u16 8, .int .u16 64, .int .u16 128, .int .u16 72, .int .u16 192] 26)
  have hb1 := hbw.alloc hbw.size (.cells #[.int .u16 0, .int .u16 8, .int .u16 64, .int .u16 128, .int .u16 72, .int .u16 192] 26)
  have hlt1 := lt_of_block hk1
  clear hk0 hbw hlt
  generalize w0.alloc _ = V0 at *
  have hor : bits .or .u16 2 192 = 194 := by decide
  obtain ⟨c0, c1, c2, c3⟩ := cells4 hk1
  have hA2 := (Below.refl V0.heap.size V0).alloc (Nat.le_refl _) (.cells #[.int .u16 194, .int .u16 0, .int .i16 0, .int .i16 0, .int .i16 xx, .int .i16 0, .int .i16 yx, .int .i16 yy] 29)
  have hA3 := hA2.alloc hA2.size (.cells #[.int .i16 0, .int .i16 0, .int .i16 0, .int .i16 0, .slice (some ⟨V0.heap.size, 0, none⟩) 1 1, .slice none 0 0] 34)
  have hk2 := kept_block hk1 hA3
  have hb2 := hb1.trans (hA3.mono hb1.size)
  have hg2 := heap_alloc_new (V0.alloc (.cells #[.int .u16 194, .int .u16 0, .int .i16 0, .int .i16 0, .int .i16 xx, .int .i16 0, .int .i16 yx, .int .i16 yy] 29)) (.cells #[.int .i16 0, .int .i16 0, .int .i16 0, .int .i16 0, .slice (some ⟨V0.heap.size, 0, none⟩) 1 1, .slice none 0 0] 34)
  have hps2 : RowS encPt 8 (V0.alloc (.cells #[.int .u16 194, .int .u16 0, .int .i16 0, .int .i16 0, .int .i16 xx, .int .i16 0, .int .i16 yx, .int .i16 yy] 29)) (some ⟨V0.heap.size, 0, none⟩) 1 [kPt 194 xx 0 yx yy] := rowS_vals encPt_len V0 29 [kPt 194 xx 0 yx yy] _ rfl 1 rfl
  have hps3 := hps2.below ((Below.refl _ (V0.alloc (.cells #[.int .u16 194, .int .u16 0, .int .i16 0, .int .i16 0, .int .i16 xx, .int .i16 0, .int .i16 yx, .int .i16 yy] 29))).alloc (Nat.le_refl _) (.cells #[.int .i16 0, .int .i16 0, .int .i16 0, .int .i16 0, .slice (some ⟨V0.heap.size, 0, none⟩) 1 1, .slice none 0 0] 34))
  have hnew := heap_alloc_new (V0.alloc (.cells #[.int .u16 194, .int .u16 0, .int .i16 0, .int .i16 0, .int .i16 xx, .int .i16 0, .int .i16 yx, .int .i16 yy] 29)) (.cells #[.int .i16 0, .int .i16 0, .int .i16 0, .int .i16 0, .slice none 0 0, .slice none 0 0] 34)
  have hgs : (V0.alloc (.cells #[.int .u16 194, .int .u16 0, .int .i16 0, .int .i16 0, .int .i16 xx, .int .i16 0, .int .i16 yx, .int .i16 yy] 29)).heap.size = V0.heap.size + 1 := by simp
  clear hA2 hA3 hps2 hk1 hb1
  go_upto_region 5 with fail
  clear hnew c0 c1 c2 c3 hor
  rw [hgs] at hg2
  have hgs2 := lt_of_block hg2
  clear hgs
  generalize (V0.alloc (.cells #[.int .u16 194, .int .u16 0, .int .i16 0, .int .i16 0, .int .i16 xx, .int .i16 0, .int .i16 yx, .int .i16 yy] 29)).alloc _ = V at *
  generalize V0.heap.size = gp at *
  obtain ⟨c0, c1, c2, c3⟩ := cells4 hk2
  go_upto_region 6 with fail
  have q0 : V.drew.cell? ⟨w.heap.size, 0, none⟩ = _ := c0
  have q1 : V.drew.cell? ⟨w.heap.size, 1, none⟩ = _ := c1
  have q2 : V.drew.cell? ⟨w.heap.size, 2, none⟩ = _ := c2
  have q3 : V.drew.cell? ⟨w.heap.size, 3, none⟩ = _ := c3
  refine regF_start (by kernel_rfl) ?_
  refine regF_take (i := 0) (d := some 35) (v := ?_) (Ext.refl _) rfl rfl (by kernel_rfl) (by kernel_rfl) (by kernel_rfl) (fun _ _ _ h => h) (Or.inl ⟨by rfl, ?_⟩) ?_
  rotate_left
  · intro w' hx; have r0 := hx.cell q0; have r1 := hx.cell q1; have r2 := hx.cell q2; have r3 := hx.cell q3; (go_simp <;> with_reducible rfl)
  simp only [Act.put, List.setIfInBounds_toArray, List.set_cons_zero, List.set_cons_succ]
  refine regF_take (i := 3) (d := some 38) (v := ?_) (Ext.refl _) rfl rfl (by kernel_rfl) (by kernel_rfl) (by kernel_rfl) (fun _ _ _ h => h) (Or.inl ⟨by rfl, ?_⟩) ?_
  rotate_left
  · intro w' hx; (go_simp <;> with_reducible rfl)
  simp only [Act.put, List.setIfInBounds_toArray, List.set_cons_zero, List.set_cons_succ]
  refine regF_take (i := 11) (d := some 46) (v := ?_) (Ext.refl _) rfl rfl (by kernel_rfl) (by kernel_rfl) (by kernel_rfl) (fun _ _ _ h => h) (Or.inl ⟨by rfl, ?_⟩) ?_
  rotate_left
  · intro w' hx; (go_simp <;> with_reducible rfl)
  simp only [Act.put, List.setIfInBounds_toArray, List.set_cons_zero, List.set_cons_succ]
  refine regF_take (i := 13) (d := some 48) (v := ?_) (Ext.refl _) rfl rfl (by kernel_rfl) (by kernel_rfl) (by kernel_rfl) (fun _ _ _ h => h) (Or.inl ⟨by rfl, ?_⟩) ?_
  rotate_left
  · intro w' hx; (go_simp <;> with_reducible rfl)
  simp only [Act.put, List.setIfInBounds_toArray, List.set_cons_zero, List.set_cons_succ]
  refine regF_take (i := 14) (d := some 49) (v := ?_) (Ext.refl _) rfl rfl (by kernel_rfl) (by kernel_rfl) (by kernel_rfl) (fun _ _ _ h => h) (Or.inl ⟨by rfl, ?_⟩) ?_
  rotate_left
  · intro w' hx; (go_simp <;> with_reducible rfl)
  simp only [Act.put, List.setIfInBounds_toArray, List.set_cons_zero, List.set_cons_succ]
  refine regF_one 1 _ (by kernel_rfl) rfl ?_
  intro K hK
  go_simp
  refine (unit_any _).mono ?_
  rintro e4 W4 ⟨rfl, hb4⟩
  unfold mxV
  have hX1 := (Ext.refl V.drew).call hb4
  refine hK.out _ _ hX1 ?_
  clear hK K
  refine regF_take (i := 2) (d := some 37) (v := ?_) hX1 rfl rfl (by kernel_rfl) (by kernel_rfl) (by kernel_rfl) (fun _ _ _ h => h) (Or.inl ⟨by rfl, ?_⟩) ?_
  rotate_left
  · intro w' hx; (go_simp <;> with_reducible rfl)
  simp only [Act.put, List.setIfInBounds_toArray, List.set_cons_zero, List.set_cons_succ]
  refine regF_take (i := 4) (d := some 39) (v := ?_) hX1 rfl rfl (by kernel_rfl) (by kernel_rfl) (by kernel_rfl) (fun _ _ _ h => h) (Or.inl ⟨by rfl, ?_⟩) ?_
  rotate_left
  · intro w' hx; (go_simp <;> with_reducible rfl)
  simp only [Act.put, List.setIfInBounds_toArray, List.set_cons_zero, List.set_cons_succ]
  refine regF_take (i := 5) (d := some 40) (v := undef) hX1 rfl rfl (by kernel_rfl) (by kernel_rfl) (by kernel_rfl) (fun _ _ _ h => h) (Or.inr ⟨by rfl, rfl⟩) ?_
  simp only [Act.put, List.setIfInBounds_toArray, List.set_cons_zero, List.set_cons_succ]
  refine regF_take (i := 6) (d := some 41) (v := undef) hX1 rfl rfl (by kernel_rfl) (by kernel_rfl) (by kernel_rfl) (fun _ _ _ h => h) (Or.inr ⟨by rfl, rfl⟩) ?_
  simp only [Act.put, List.setIfInBounds_toArray, List.set_cons_zero, List.set_cons_succ]
  refine regF_take (i := 7) (d := some 42) (v := undef) hX1 rfl rfl (by kernel_rfl) (by kernel_rfl) (by kernel_rfl) (fun _ _ _ h => h) (Or.inr ⟨by rfl, rfl⟩) ?_
  simp only [Act.put, List.setIfInBounds_toArray, List.set_cons_zero, List.set_cons_succ]
  refine regF_take (i := 8) (d := some 43) (v := undef) hX1 rfl rfl (by kernel_rfl) (by kernel_rfl) (by kernel_rfl) (fun _ _ _ h => h) (Or.inr ⟨by rfl, rfl⟩) ?_
  simp only [Act.put, List.setIfInBounds_toArray, List.set_cons_zero, List.set_cons_succ]
  refine regF_take (i := 9) (d := some 44) (v := undef) hX1 rfl rfl (by kernel_rfl) (by kernel_rfl) (by kernel_rfl) (fun _ _ _ h => h) (Or.inr ⟨by rfl, rfl⟩) ?_
  simp only [Act.put, List.setIfInBounds_toArray, List.set_cons_zero, List.set_cons_succ]
  refine regF_take (i := 10) (d := some 45) (v := ?_) hX1 rfl rfl (by kernel_rfl) (by kernel_rfl) (by kernel_rfl) (fun _ _ _ h => h) (Or.inl ⟨by rfl, ?_⟩) ?_
  rotate_left
  · intro w' hx; (go_simp <;> with_reducible rfl)
  simp only [Act.put, List.setIfInBounds_toArray, List.set_cons_zero, List.set_cons_succ]
  refine regF_one 12 _ (by kernel_rfl) rfl ?_
  intro K hK
  go_simp
  have hX2 := hX1.new (.cells #[.bool u, .bool false, .bool false, .bool true, .bool false, .bool false] 4)
  have hkn := heap_alloc_new W4 (.cells #[.bool u, .bool false, .bool false, .bool true, .bool false, .bool false] 4)
  have cK : (W4.alloc (.cells #[.bool u, .bool false, .bool false, .bool true, .bool false, .bool false] 4)).cell? ⟨W4.heap.size, 5, none⟩ = some (.bool false) := cell_of_row _ _ 5 _ _ _ hkn
  refine hK.out _ _ hX2 ?_
  generalize W4.alloc _ = W5 at *
  clear hK K hkn
  refine regF_one 15 _ (by kernel_rfl) rfl ?_
  intro K hK
  go_simp
  refine hK.out _ _ hX2 ?_
  clear hK K
  refine regF_one 16 _ (by kernel_rfl) rfl ?_
  intro K hK
  go_simp
  refine hK.out _ _ hX2 ?_
  clear hK K
  refine regF_one 17 _ (by kernel_rfl) rfl ?_
  intro K hK
  go_simp
  refine hK.out _ _ hX2 ?_
  clear hK K
  refine wpAnyH_done (by kernel_rfl) ?_ _
  have hb5 := hb2.drew.trans (hX2.mono hb2.size)
  have hk5 : W5.heap[w.heap.size]? = _ := kept_block (w := V.drew) hk2 hX2
  have hg5 : W5.heap[gp + 1]? = _ := kept_block (w := V.drew) hg2 hX2
  have hps5 := (hps3.below (Below.refl _ V).drew).below hX2
  clear hb2 hk2 hg2 hps3 c0 c1 c2 c3 q0 q1 q2 q3 hb4 hX1 hX2
  have hgo : (kG 194 xx 0 yx yy).ok := kG_ok Hok.out
  have hcr : cRight (kG 194 xx 0 yx yy) = false := (kG_right _ _ _ _ _ (by decide)).trans HRt.out
  go_upto_region 8 with fail
  clear cK
  have hb6 := hb5.alloc hb5.size (.cells #[.int .i64 0, .int .i64 2, .int .i64 4, .int .i64 8, .int .i64 0, .int .i64 0] 3)
  have hX6 := (Below.refl W5.heap.size W5).alloc (Nat.le_refl _) (.cells #[.int .i64 0, .int .i64 2, .int .i64 4, .int .i64 8, .int .i64 0, .int .i64 0] 3)
  have hk6 := kept_block hk5 hX6
  have hg6 := kept_block hg5 hX6
  have hps6 := hps5.below hX6
  clear hb5 hk5 hg5 hps5 hX6
  generalize W5.alloc _ = W6 at *
  have hrows : CgV.rows W6 ⟨(kG 194 xx 0 yx yy), some ⟨gp, 0, none⟩, 1, 1, none, 0, 0⟩ := ⟨hps6, Row.empty _ _⟩
  have HBy : Hid (Calls Try.prog 17 #[.agg #[.int .i16 0, .int .i16 0, .int .i16 0, .int .i16 0, .slice (some ⟨gp, 0, none⟩) 1 1, .slice none 0 0]] W6 (RetB W6 (cBytes (kG 194 xx 0 yx yy)))) := cbytes_any ⟨(kG 194 xx 0 yx yy), some ⟨gp, 0, none⟩, 1, 1, none, 0, 0⟩ W6 hrows (by show (1 : Nat) ≤ 1000000; omega) (by show (0 : Nat) ≤ 1000000; omega) hgo
  have HRi : Hid (∀ W, Below W6.heap.size W6 W → Calls Try.prog 18 #[.agg #[.int .i16 0, .int .i16 0, .int .i16 0, .int .i16 0, .slice (some ⟨gp, 0, none⟩) 1 1, .slice none 0 0]] W (Ret W (.bool false))) := fun W hW => by
    have h := cright_any ⟨(kG 194 xx 0 yx yy), some ⟨gp, 0, none⟩, 1, 1, none, 0, 0⟩ W (hrows.below hW) (by show (1 : Nat) ≤ 1000000; omega) (by show (0 : Nat) ≤ 1000000; omega) hgo
    rw [show CgV.g ⟨(kG 194 xx 0 yx yy), some ⟨gp, 0, none⟩, 1, 1, none, 0, 0⟩ = (kG 194 xx 0 yx yy) from rfl, hcr] at h
    exact h
  have HGo := Lib.hid hgo
  have HCr := Lib.hid hcr
  clear hrows hps6 hcr hgo
  obtain ⟨c0, c1, c2, c3, c4, c5⟩ := cells6 hg6
  go_wp2_with fail
  with_reducible refine HBy.out.mono ?_
  rintro e7 w7 ⟨A, an, ac, rfl, hown, hb7⟩
  have hk7 := kept_block hk6 hb7
  have hg7 := kept_block hg6 hb7
  have hbw7 := hb6.trans (hb7.mono hb6.size)
  clear HBy hk6 hg6 hb6 c0 c1 c2 c3 c4 c5
  obtain ⟨c0, c1, c2, c3, c4, c5⟩ := cells6 hg7
  unfold cBytes at hown
  rw [HCr.out, if_neg (by decide)] at hown
  obtain rfl : an = 0 := hown.len.symm
  have HR1 := Lib.hid (HRi.out _ hb7)
  clear HRi
  go_wp2_with fail
  with_reducible refine HR1.out.mono ?_
  rintro e8 w8 ⟨rfl, hb8⟩
  go_wp2
  go_ret
  exact ⟨rfl, hbw7.trans (hb8.mono hbw7.size)⟩

end Go.Proofs.Ytgafjieghckimaa

/- CompoKinds: of all six kinds. -/
namespace Go.Proofs.Ytgafjieghckimaa
open Go.RowKit
set_option linter.unusedVariables false
set_option linter.unusedSimpArgs false

theorem kR0 (xx xy yx yy : Int) : ptRight (kPt 2 xx xy yx yy) = decide ([xx, xy, yx, yy] = [16384, 0, 0, 16384]) := by
  unfold ptRight kPt
  simp only [show strange 2 = false by decide, show fb 2 2 = true by decide, show twoK 2 = false by decide, show knd 2 = 0 by decide, show fb 2 1 = false by decide, show byteB 0 = true by decide, matB, unitB]
  simp
theorem kR1 (xx xy yx yy : Int) : ptRight (kPt 10 xx xy yx yy) = (decide (xy = 0) && decide (yx = 0) && decide (xx = yy)) := by
  unfold ptRight kPt
  simp only [show strange 10 = false by decide, show fb 10 2 = true by decide, show twoK 10 = false by decide, show knd 10 = 8 by decide, show fb 10 1 = false by decide, show byteB 0 = true by decide, matB, straight]
  simp
theorem kR2 (xx xy yx yy : Int) : ptRight (kPt 66 xx xy yx yy) = (decide (xy = 0) && decide (yx = 0)) := by
  unfold ptRight kPt
  simp only [show strange 66 = false by decide, show fb 66 2 = true by decide, show twoK 66 = false by decide, show knd 66 = 64 by decide, show fb 66 1 = false by decide, show byteB 0 = true by decide, matB, straight]
  simp
theorem kR3 (xx xy yx yy : Int) : ptRight (kPt 130 xx xy yx yy) = true := by
  unfold ptRight kPt
  simp only [show strange 130 = false by decide, show fb 130 2 = true by decide, show twoK 130 = false by decide, show knd 130 = 128 by decide, show fb 130 1 = false by decide, show byteB 0 = true by decide, matB]
  simp
theorem kR4 (xx xy yx yy : Int) : ptRight (kPt 74 xx xy yx yy) = false ∧ ptRight (kPt 194 xx xy yx yy) = false := by
  unfold ptRight kPt
  simp only [show twoK 74 = true by decide, show twoK 194 = true by decide]
  simp
theorem law_CompoKinds (xx xy yx yy n : Int) (w : World) (n0 : 0 ≤ n) (n1 : n ≤ 255) (h0 : -32768 ≤ xx ∧ xx ≤ 32767) (h1 : -32768 ≤ xy ∧ xy ≤ 32767) (h2 : -32768 ≤ yx ∧ yx ≤ 32767) (h3 : -32768 ≤ yy ∧ yy ≤ 32767) :
    Calls Try.prog 3 #[mxV xx xy yx yy, .int .u8 n] w (True_ w) := by
  have hE2 : (xx == yy) = decide (xx = yy) := by rw [Bool.eq_iff_iff]; simp
  have hn : n % 6 = 0 ∨ n % 6 = 1 ∨ n % 6 = 2 ∨ n % 6 = 3 ∨ n % 6 = 4 ∨ n % 6 = 5 := by omega
  have k0 := kR0 xx xy yx yy
  have k1 := kR1 xx xy yx yy
  have k2 := kR2 xx xy yx yy
  have k3 := kR3 xx xy yx yy
  have k4 := kR4 xx xy yx yy
  by_cases hx : xy = 0
  · by_cases hy : yx = 0
    · rw [decide_eq_true hx, decide_eq_true hy] at k1 k2
      rcases hn with hn | hn | hn | hn | hn | hn
      · exact kinds_0_t xx xy yx yy n _ _ w n0 n1 hn h0 h1 h2 h3 hx hy rfl rfl hE2 k0
      · exact kinds_1_t xx xy yx yy n _ _ w n0 n1 hn h0 h1 h2 h3 hx hy rfl rfl hE2 (by simpa using k1)
      · exact kinds_2_t xx xy yx yy n _ _ w n0 n1 hn h0 h1 h2 h3 hx hy rfl rfl hE2 (by simpa using k2)
      · exact kinds_3_t xx xy yx yy n _ _ w n0 n1 hn h0 h1 h2 h3 hx hy rfl rfl hE2 k3
      · exact kinds_4_t xx xy yx yy n _ _ w n0 n1 hn h0 h1 h2 h3 hx hy rfl rfl hE2 k4.1
      · exact kinds_5_t xx xy yx yy n _ _ w n0 n1 hn h0 h1 h2 h3 hx hy rfl rfl hE2 k4.2
    · rw [decide_eq_false hy] at k1 k2
      have hy' : (yx == 0) = false := by simp [hy]
      rcases hn with hn | hn | hn | hn | hn | hn
      · exact kinds_0_y xx xy yx yy n _ _ w n0 n1 hn h0 h1 h2 h3 hx hy' rfl rfl hE2 k0
      · exact kinds_1_y xx xy yx yy n _ _ w n0 n1 hn h0 h1 h2 h3 hx hy' rfl rfl hE2 (by simpa using k1)
      · exact kinds_2_y xx xy yx yy n _ _ w n0 n1 hn h0 h1 h2 h3 hx hy' rfl rfl hE2 (by simpa using k2)
      · exact kinds_3_y xx xy yx yy n _ _ w n0 n1 hn h0 h1 h2 h3 hx hy' rfl rfl hE2 k3
      · exact kinds_4_y xx xy yx yy n _ _ w n0 n1 hn h0 h1 h2 h3 hx hy' rfl rfl hE2 k4.1
      · exact kinds_5_y xx xy yx yy n _ _ w n0 n1 hn h0 h1 h2 h3 hx hy' rfl rfl hE2 k4.2
  · rw [decide_eq_false hx] at k1 k2
    have hx' : (xy == 0) = false := by simp [hx]
    rcases hn with hn | hn | hn | hn | hn | hn
    · exact kinds_0_x xx xy yx yy n _ _ w n0 n1 hn h0 h1 h2 h3 hx' rfl rfl hE2 k0
    · exact kinds_1_x xx xy yx yy n _ _ w n0 n1 hn h0 h1 h2 h3 hx' rfl rfl hE2 (by simpa using k1)
    · exact kinds_2_x xx xy yx yy n _ _ w n0 n1 hn h0 h1 h2 h3 hx' rfl rfl hE2 (by simpa using k2)
    · exact kinds_3_x xx xy yx yy n _ _ w n0 n1 hn h0 h1 h2 h3 hx' rfl rfl hE2 k3
    · exact kinds_4_x xx xy yx yy n _ _ w n0 n1 hn h0 h1 h2 h3 hx' rfl rfl hE2 k4.1
    · exact kinds_5_x xx xy yx yy n _ _ w n0 n1 hn h0 h1 h2 h3 hx' rfl rfl hE2 k4.2

end Go.Proofs.Ytgafjieghckimaa
