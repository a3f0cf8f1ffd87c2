/- The law DotUnits. -/
import Derived.Test.YtpkejjbjhibbkaaDRounds
import Derived.Test.YtpkejjbjhibbkaaDotOpen
import Derived.Test.YtpkejjbjhibbkaaGrow
import Derived.Deep.RegionWith
import Derived.Deep.DeepCutAuto
namespace Go.Proofs.Ytpkejjbjhibbkaa
open Go.RowKit
set_option linter.unusedVariables false

/-- A point in a block of its own. -/
def LaidP (w : World) (x y : Int) (on : Bool) (wx : World) : Prop :=
  wx.heap[w.heap.size]? = some (.cells #[.int .i64 x, .int .i64 y, .bool on] 65 (0, 0)) ∧ Below w.heap.size w wx

theorem rnd_one (x y : Int) : rnd (16384 * x + 0 * y) = x := by unfold rnd; omega
theorem rnd_one' (x y : Int) : rnd (0 * x + 16384 * y) = y := by unfold rnd; omega
theorem rnd_half (x y : Int) : rnd (8192 * (2 * x) + 0 * y) = x := by unfold rnd; omega
theorem rnd_half' (x y : Int) : rnd (0 * x + 8192 * (2 * y)) = y := by unfold rnd; omega
theorem rnd_neg (x y : Int) : rnd (-16384 * x + 0 * y) = -x := by unfold rnd; omega
theorem rnd_neg' (x y : Int) : rnd (0 * x + -16384 * y) = -y := by unfold rnd; omega
theorem rnd_none (x y : Int) : rnd (0 * x + 0 * y) = 0 := by unfold rnd; omega

set_option maxRecDepth 100000 in
set_option maxHeartbeats 2000000 in
theorem law_DotUnits (x y : Int) (on : Bool) (w : World) :
    Calls Try.prog 10 #[ptV x y on] w fun e w' => e = .returned (.bool true) ∧ Below w.heap.size w w' := by
  obtain ⟨x0, x1⟩ := tm_bd x 1099511627776 (by omega)
  obtain ⟨y0, y1⟩ := tm_bd y 1099511627776 (by omega)
  have kx := fun W => small_any x W
  have ky := fun W => small_any y W
  generalize x.tmod 1099511627776 = x' at x0 x1 kx
  generalize y.tmod 1099511627776 = y' at y0 y1 ky
  have KX := Lib.hid kx
  have KY := Lib.hid ky
  clear kx ky
  go_enter Try.func10, Try.ntmps10
  go_wp2_with fail
  refine (awake4_any _).mono ?_
  rintro e w' ⟨rfl, rfl⟩
  go_upto_region 3 with fail
  go_cut [] (fun wx => LaidP w x' y' on wx)
  case first =>
    go_region_with (go_at_call 34; first
      | (with_reducible refine (KX.out _).mono ?_); rintro e w' ⟨rfl, rfl⟩
      | (with_reducible refine (KY.out _).mono ?_); rintro e w' ⟨rfl, rfl⟩)
    all_goals go_wp2_with fail
    all_goals go_meet
    all_goals exact ⟨heap_alloc_new w _, ((Below.refl _ _).alloc (Nat.le_refl _) _).drew⟩
  case rest =>
    clear KX KY
    obtain ⟨hp, hbx⟩ := hcut
    have hsx : w.heap.size < wc.heap.size := lt_of_block hp
    have N0 := gw_cell (show wc.cell? ⟨w.heap.size, 0, none⟩ = some (.int .i64 x') from cell_of_row wc _ 0 _ _ _ hp)
    have N1 := gw_cell (show wc.cell? ⟨w.heap.size, 1, none⟩ = some (.int .i64 y') from cell_of_row wc _ 1 _ _ _ hp)
    have N2 := gw_cell (show wc.cell? ⟨w.heap.size, 2, none⟩ = some (.bool on) from cell_of_row wc _ 2 _ _ _ hp)
    have k1 := fun W => apply_any 16384 0 0 16384 x' y' on W (by omega) (by omega) (by omega) (by omega) (by omega) (by omega) (by omega) (by omega) (by omega) (by omega) (by omega) (by omega)
    have k2 := fun W => apply_any 8192 0 0 8192 (2 * x') (2 * y') on W (by omega) (by omega) (by omega) (by omega) (by omega) (by omega) (by omega) (by omega) (by omega) (by omega) (by omega) (by omega)
    have k3 := fun W => apply_any (-16384) 0 0 (-16384) x' y' on W (by omega) (by omega) (by omega) (by omega) (by omega) (by omega) (by omega) (by omega) (by omega) (by omega) (by omega) (by omega)
    have k4 := fun W => apply_any 0 0 0 0 x' y' on W (by omega) (by omega) (by omega) (by omega) (by omega) (by omega) (by omega) (by omega) (by omega) (by omega) (by omega) (by omega)
    simp only [rnd_one, rnd_one'] at k1
    simp only [rnd_half, rnd_half'] at k2
    simp only [rnd_neg, rnd_neg'] at k3
    simp only [rnd_none] at k4
    have K1 := Lib.hid k1
    have K2 := Lib.hid k2
    have K3 := Lib.hid k3
    have K4 := Lib.hid k4
    have e1 : IntKind.i64.wrap (2 * x') = 2 * x' := IntWalk.i64_in _ (by omega)
    have e2 : IntKind.i64.wrap (2 * y') = 2 * y' := IntWalk.i64_in _ (by omega)
    have e3 : IntKind.i64.wrap (-x') = -x' := IntWalk.i64_in _ (by omega)
    have e4 : IntKind.i64.wrap (-y') = -y' := IntWalk.i64_in _ (by omega)
    clear k1 k2 k3 k4 hp
    go_wp2_with fail
    refine region_below (by kernel_rfl) (by kernel_rfl) ?_
    repeat (quiet_step (first
      | (go_at_call 38; exact calls_gw (unit_any _))
      | (go_at_call 39; exact calls_gw (scale_any _ _))
      | (go_at_call 35; first | (with_reducible exact calls_gw (K1.out _)) | (with_reducible exact calls_gw (K2.out _)) | (with_reducible exact calls_gw (K3.out _)) | (with_reducible exact calls_gw (K4.out _)))))
    refine wpQuiet_nil ?_
    rintro _ ⟨p, rfl⟩
    go_wp2
    go_ret
    exact ⟨rfl, hbx.trans ((gw_below _ _ _).mono (by omega))⟩

end Go.Proofs.Ytpkejjbjhibbkaa
