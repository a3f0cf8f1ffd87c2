/- The law DotApplies. -/
import Derived.Test.YtpkejjbjhibbkaaDRounds
import Derived.Test.YtpkejjbjhibbkaaDotOpen
import Derived.Test.YtpkejjbjhibbkaaGrow
import Derived.Deep.RegionWith
import Derived.Deep.DeepCutAuto
namespace Go.Proofs.Ytpkejjbjhibbkaa
open Go.RowKit
set_option linter.unusedVariables false

set_option maxRecDepth 100000 in
set_option maxHeartbeats 1000000 in
theorem rapply_any (a b c d x y : Int) (on : Bool) (dx dy : Int) (w : World) (a0 : -32768 ≤ a) (a1 : a ≤ 32767) (b0 : -32768 ≤ b) (b1 : b ≤ 32767) (c0 : -32768 ≤ c) (c1 : c ≤ 32767) (d0 : -32768 ≤ d) (d1 : d ≤ 32767)
    (x0 : -2199023255552 ≤ x) (x1 : x ≤ 2199023255552) (y0 : -2199023255552 ≤ y) (y1 : y ≤ 2199023255552) (u0 : -2199023255552 ≤ dx) (u1 : dx ≤ 2199023255552) (v0 : -2199023255552 ≤ dy) (v1 : dy ≤ 2199023255552) :
    Calls Try.prog 37 #[.agg #[.int .i64 a, .int .i64 b, .int .i64 c, .int .i64 d], ptV x y on, .int .i64 dx, .int .i64 dy] w fun e w' => e = .returned (ptV (rnd (a * x + c * y) + dx) (rnd (b * x + d * y) + dy) on) ∧ Below w.heap.size w w' := by
  obtain ⟨p0, p1⟩ := mul_bd a x a0 a1 x0 x1
  obtain ⟨q0, q1⟩ := mul_bd c y c0 c1 y0 y1
  obtain ⟨r0, r1⟩ := mul_bd b x b0 b1 x0 x1
  obtain ⟨s0, s1⟩ := mul_bd d y d0 d1 y0 y1
  have e1 : IntKind.i64.wrap (a * x) = a * x := IntWalk.i64_in _ (by omega)
  have e2 : IntKind.i64.wrap (c * y) = c * y := IntWalk.i64_in _ (by omega)
  have e3 : IntKind.i64.wrap (b * x) = b * x := IntWalk.i64_in _ (by omega)
  have e4 : IntKind.i64.wrap (d * y) = d * y := IntWalk.i64_in _ (by omega)
  have e5 : IntKind.i64.wrap (a * x + c * y) = a * x + c * y := IntWalk.i64_in _ (by omega)
  have e6 : IntKind.i64.wrap (b * x + d * y) = b * x + d * y := IntWalk.i64_in _ (by omega)
  have g1 : -17592186044416 ≤ rnd (a * x + c * y) ∧ rnd (a * x + c * y) ≤ 17592186044416 := by unfold rnd; omega
  have g2 : -17592186044416 ≤ rnd (b * x + d * y) ∧ rnd (b * x + d * y) ≤ 17592186044416 := by unfold rnd; omega
  have e7 : IntKind.i64.wrap (rnd (a * x + c * y) + dx) = rnd (a * x + c * y) + dx := IntWalk.i64_in _ (by omega)
  have e8 : IntKind.i64.wrap (rnd (b * x + d * y) + dy) = rnd (b * x + d * y) + dy := IntWalk.i64_in _ (by omega)
  have k1 := fun W => rround_any (a * x + c * y) W (by omega) (by omega)
  have k2 := fun W => rround_any (b * x + d * y) W (by omega) (by omega)
  have K1 := Lib.hid k1
  have K2 := Lib.hid k2
  clear k1 k2
  go_enter Try.func37, Try.ntmps37
  go_wp2_with fail
  refine region_tail 31 (by kernel_rfl) (by kernel_rfl) ?_
  simp only [List.take_succ_cons, List.take_zero, List.drop_succ_cons, List.drop_zero]
  repeat still_step
  still_call (K1.out _)
  repeat still_step
  still_call (K2.out _)
  repeat still_step
  refine wpStill_nil ?_
  go_wp2
  refine bodyPost_ret (v := ptV (rnd (a * x + c * y) + dx) (rnd (b * x + d * y) + dy) on) (by simp [results, Try.results37, go_sem]) rfl ⟨rfl, ?_⟩
  exact ((((Below.refl _ _).alloc (Nat.le_refl _) _).alloc (by simp) _).alloc (by simp; omega) _).drew

theorem heap_alloc_at (w : World) (o : Obj) (k : Nat) (h : k = w.heap.size) : (w.alloc o).heap[k]? = some o := by subst h; exact heap_alloc_new w o

/-- A matrix, and behind it a point, each in a block of its own. -/
def Laid (w : World) (a b c d x y : Int) (on : Bool) (wx : World) : Prop :=
  wx.heap[w.heap.size]? = some (.cells #[.int .i16 a, .int .i16 b, .int .i16 c, .int .i16 d] 63 (0, 0)) ∧ wx.heap[w.heap.size + 1]? = some (.cells #[.int .i64 x, .int .i64 y, .bool on] 65 (0, 0)) ∧ Below w.heap.size w wx

set_option maxRecDepth 100000 in
set_option maxHeartbeats 2000000 in
theorem law_DotApplies (a b c d x y : Int) (on : Bool) (dx dy : Int) (w : World) (a0 : -32768 ≤ a) (a1 : a ≤ 32767) (b0 : -32768 ≤ b) (b1 : b ≤ 32767) (c0 : -32768 ≤ c) (c1 : c ≤ 32767) (d0 : -32768 ≤ d) (d1 : d ≤ 32767) :
    Calls Try.prog 9 #[mxV a b c d, ptV x y on, .int .i64 dx, .int .i64 dy] w fun e w' => e = .returned (.bool true) ∧ Below w.heap.size w w' := by
  obtain ⟨x0, x1⟩ := tm_bd x 1099511627776 (by omega)
  obtain ⟨y0, y1⟩ := tm_bd y 1099511627776 (by omega)
  obtain ⟨u0, u1⟩ := tm_bd dx 1099511627776 (by omega)
  obtain ⟨v0, v1⟩ := tm_bd dy 1099511627776 (by omega)
  have ks := fun n W => small_any n W
  generalize hx : x.tmod 1099511627776 = x' at x0 x1
  generalize hy : y.tmod 1099511627776 = y' at y0 y1
  generalize hu : dx.tmod 1099511627776 = dx' at u0 u1
  generalize hv : dy.tmod 1099511627776 = dy' at v0 v1
  have kx := fun W => small_any x W
  have ky := fun W => small_any y W
  have ku := fun W => small_any dx W
  have kv := fun W => small_any dy W
  rw [hx] at kx
  rw [hy] at ky
  rw [hu] at ku
  rw [hv] at kv
  have KX := Lib.hid kx
  have KY := Lib.hid ky
  have KU := Lib.hid ku
  have KV := Lib.hid kv
  clear kx ky ku kv hx hy hu hv ks
  obtain ⟨p0, p1⟩ := mul_bd a x' a0 a1 (by omega) (by omega)
  obtain ⟨q0, q1⟩ := mul_bd c y' c0 c1 (by omega) (by omega)
  obtain ⟨r0, r1⟩ := mul_bd b x' b0 b1 (by omega) (by omega)
  obtain ⟨s0, s1⟩ := mul_bd d y' d0 d1 (by omega) (by omega)
  have g1 : -17592186044416 ≤ rnd (a * x' + c * y') ∧ rnd (a * x' + c * y') ≤ 17592186044416 := by unfold rnd; omega
  have g2 : -17592186044416 ≤ rnd (b * x' + d * y') ∧ rnd (b * x' + d * y') ≤ 17592186044416 := by unfold rnd; omega
  go_enter Try.func9, Try.ntmps9
  go_wp2_with fail
  refine (awake4_any _).mono ?_
  rintro e w' ⟨rfl, rfl⟩
  go_upto_region 3 with fail
  go_cut [2, 3] (fun s2 s3 wx => Laid w a b c d x' y' on wx ∧ s2 = .int .i64 dx' ∧ s3 = .int .i64 dy')
  case first =>
    go_region_with (go_at_call 34; first
      | (with_reducible refine (KX.out _).mono ?_); rintro e w' ⟨rfl, rfl⟩
      | (with_reducible refine (KY.out _).mono ?_); rintro e w' ⟨rfl, rfl⟩
      | (with_reducible refine (KU.out _).mono ?_); rintro e w' ⟨rfl, rfl⟩
      | (with_reducible refine (KV.out _).mono ?_); rintro e w' ⟨rfl, rfl⟩)
    all_goals go_wp2_with fail
    all_goals go_meet
    all_goals exact ⟨⟨by rw [show ∀ (W : World) (k : Nat), W.drew.heap[k]? = W.heap[k]? from fun _ _ => rfl, Below.heap_alloc _ _ _ (by simp)]; exact heap_alloc_new w _, heap_alloc_at _ _ _ (by simp), (((Below.refl _ _).alloc (Nat.le_refl _) _).alloc (by simp) _).drew⟩, rfl, rfl⟩
  case rest =>
    clear KX KY KU KV
    obtain ⟨⟨hm, hp, hbx⟩, rfl, rfl⟩ := hcut
    have hsx : w.heap.size + 1 < wc.heap.size := lt_of_block hp
    have m0 : wc.cell? ⟨w.heap.size, 0, none⟩ = some (.int .i16 a) := cell_of_row wc _ 0 _ _ _ hm
    have m1 : wc.cell? ⟨w.heap.size, 1, none⟩ = some (.int .i16 b) := cell_of_row wc _ 1 _ _ _ hm
    have m2 : wc.cell? ⟨w.heap.size, 2, none⟩ = some (.int .i16 c) := cell_of_row wc _ 2 _ _ _ hm
    have m3 : wc.cell? ⟨w.heap.size, 3, none⟩ = some (.int .i16 d) := cell_of_row wc _ 3 _ _ _ hm
    have n0 : wc.cell? ⟨w.heap.size + 1, 0, none⟩ = some (.int .i64 x') := cell_of_row wc _ 0 _ _ _ hp
    have n1 : wc.cell? ⟨w.heap.size + 1, 1, none⟩ = some (.int .i64 y') := cell_of_row wc _ 1 _ _ _ hp
    have n2 : wc.cell? ⟨w.heap.size + 1, 2, none⟩ = some (.bool on) := cell_of_row wc _ 2 _ _ _ hp
    have Hm := Lib.hid hm
    have Hp := Lib.hid hp
    clear hm hp
    go_wp2_with fail
    refine (apply_any a b c d x' y' on _ a0 a1 b0 b1 c0 c1 d0 d1 (by omega) (by omega) (by omega) (by omega)).mono ?_
    rintro e w1 ⟨rfl, hb1⟩
    go_wp2_with fail
    refine (move_any _ _ on dx' dy' _ (by omega) (by omega) (by omega) (by omega) (by omega) (by omega) (by omega) (by omega)).mono ?_
    rintro e w2 ⟨rfl, hb2⟩
    have hs1 := hb1.size
    have hs2 := hb2.size
    have hb : Below wc.heap.size wc w2 := hb1.trans (hb2.mono hs1)
    clear hb1 hb2
    have hA : Below w2.heap.size w2 (w2.alloc (.cells #[.int .i64 (rnd (a * x' + c * y') + dx'), .int .i64 (rnd (b * x' + d * y') + dy'), .bool on] 65)) := (Below.refl _ _).alloc (Nat.le_refl _) _
    have hC : Below wc.heap.size wc (w2.alloc (.cells #[.int .i64 (rnd (a * x' + c * y') + dx'), .int .i64 (rnd (b * x' + d * y') + dy'), .bool on] 65)) := hb.trans (hA.mono (by omega))
    have hq := heap_alloc_new w2 (.cells #[.int .i64 (rnd (a * x' + c * y') + dx'), .int .i64 (rnd (b * x' + d * y') + dy'), .bool on] 65)
    go_wp2_with fail
    generalize w2.alloc (.cells #[.int .i64 (rnd (a * x' + c * y') + dx'), .int .i64 (rnd (b * x' + d * y') + dy'), .bool on] 65) = w3 at hA hC hq ⊢
    have M := fun k u (h : wc.cell? ⟨w.heap.size, k, none⟩ = some u) => gw_cell ((hC.cell (p := ⟨w.heap.size, k, none⟩) (by simp; omega)).trans h)
    have N := fun k u (h : wc.cell? ⟨w.heap.size + 1, k, none⟩ = some u) => gw_cell ((hC.cell (p := ⟨w.heap.size + 1, k, none⟩) (by simp; omega)).trans h)
    have M0 := M _ _ m0
    have M1 := M _ _ m1
    have M2 := M _ _ m2
    have M3 := M _ _ m3
    have N0 := N _ _ n0
    have N1 := N _ _ n1
    have N2 := N _ _ n2
    have L0 := gw_cell (show w3.cell? ⟨w2.heap.size, 0, none⟩ = some (.int .i64 (rnd (a * x' + c * y') + dx')) from cell_of_row w3 _ 0 _ _ _ hq)
    have L1 := gw_cell (show w3.cell? ⟨w2.heap.size, 1, none⟩ = some (.int .i64 (rnd (b * x' + d * y') + dy')) from cell_of_row w3 _ 1 _ _ _ hq)
    have L2 := gw_cell (show w3.cell? ⟨w2.heap.size, 2, none⟩ = some (.bool on) from cell_of_row w3 _ 2 _ _ _ hq)
    have F1 : IntKind.i64.wrap a = a := IntWalk.i64_in _ (by omega)
    have F2 : IntKind.i64.wrap b = b := IntWalk.i64_in _ (by omega)
    have F3 : IntKind.i64.wrap c = c := IntWalk.i64_in _ (by omega)
    have F4 : IntKind.i64.wrap d = d := IntWalk.i64_in _ (by omega)
    have k1 := fun W => rapply_any a b c d x' y' on dx' dy' W a0 a1 b0 b1 c0 c1 d0 d1 (by omega) (by omega) (by omega) (by omega) (by omega) (by omega) (by omega) (by omega)
    have K1 := Lib.hid k1
    clear k1 M N m0 m1 m2 m3 n0 n1 n2 hq hA hb
    refine region_below (by kernel_rfl) (by kernel_rfl) ?_
    repeat (quiet_step ((go_at_call 37; exact calls_gw (K1.out _))))
    refine wpQuiet_nil ?_
    rintro _ ⟨p, rfl⟩
    go_wp2
    go_ret
    exact ⟨rfl, hbx.trans ((hC.mono hbx.size).trans ((gw_below _ _ _).mono (by have := hC.size; have := hbx.size; omega)))⟩

end Go.Proofs.Ytpkejjbjhibbkaa
