/- The law DotMoves. -/
import Derived.Test.YtpkejjbjhibbkaaDUnits
import Derived.Test.YtpkejjbjhibbkaaDotAll
import Derived.Test.YtpkejjbjhibbkaaReg
import Derived.Lib.SliceRun
namespace Go.Proofs.Ytpkejjbjhibbkaa
open Go.RowKit
set_option linter.unusedVariables false

theorem belowCell {W w' : World} (hb : Below W.heap.size W w') {a : Addr} {v : Value} (h : W.cell? a = some v) : w'.cell? a = some v := (hb.cell (World.block_lt_of_cell? W _ h)).trans h
theorem belowTr {B : Nat} {w W w' : World} (hB : Below B w W) (hs : B ≤ w.heap.size) (hb : Below W.heap.size W w') : Below B w w' := hB.trans (hb.mono (Nat.le_trans hs hB.size))

theorem all_one (V : World) (A : Option Addr) (cap : Nat) (x y : Int) (on : Bool) (dx dy : Int) (hr : RowS encPt 3 V A 1 [(x, y, on)]) (hx : Near x) (hy : Near y) (hdx : Near dx) (hdy : Near dy) :
    Calls Try.prog 40 #[.slice A 1 cap, mxV 16384 0 0 16384, .int .i64 dx, .int .i64 dy] V fun e w' => ∃ g c, e = .returned (.slice (some ⟨g, 0, none⟩) 1 c) ∧ w'.cell? ⟨g, 0, none⟩ = some (.int .i64 (x + dx)) ∧ w'.cell? ⟨g, 1, none⟩ = some (.int .i64 (y + dy)) ∧ w'.cell? ⟨g, 2, none⟩ = some (.bool on) ∧ Below V.heap.size V w' := by
  refine (all_any A 1 cap [(x, y, on)] 16384 0 0 16384 dx dy V hr (by omega) (fun p hp => by simp at hp; subst hp; exact ⟨hx, hy⟩) (by omega) (by omega) (by omega) (by omega) (by omega) (by omega) (by omega) (by omega) hdx hdy).mono ?_
  rintro e w' ⟨A', n, c, rfl, hown, hb⟩
  have hn : n = 1 := by have := hown.len; simpa using this.symm
  subst hn
  rcases hown.shape with ⟨_, h, _⟩ | ⟨g, cur, rfl, _⟩
  · simp at h
  · obtain ⟨g', o', e', _, hc⟩ := (hown.row encPt_len).at encPt_len (by omega) (j := 0) (x := moveP 16384 0 0 16384 dx dy (x, y, on)) rfl
    simp only [Option.some.injEq, Addr.mk.injEq, and_true] at e'
    obtain ⟨rfl, rfl⟩ := e'
    have h0 := hc 0 _ rfl
    have h1 := hc 1 _ rfl
    have h2 := hc 2 _ rfl
    simp only [moveP, rnd_one, rnd_one', Nat.zero_mul, Nat.zero_add] at h0 h1 h2
    exact ⟨g, c, rfl, h0, h1, h2, hb⟩

set_option maxRecDepth 100000 in
set_option maxHeartbeats 8000000 in
theorem law_DotMoves (x y : Int) (on : Bool) (dx dy dz dw : Int) (w : World) :
    Calls Try.prog 12 #[ptV x y on, .int .i64 dx, .int .i64 dy, .int .i64 dz, .int .i64 dw] w fun e w' => e = .returned (.bool true) ∧ Below w.heap.size w w' := by
  obtain ⟨x0, x1⟩ := tm_bd x 1099511627776 (by omega)
  obtain ⟨y0, y1⟩ := tm_bd y 1099511627776 (by omega)
  obtain ⟨a0, a1⟩ := tm_bd dx 1099511627776 (by omega)
  obtain ⟨b0, b1⟩ := tm_bd dy 1099511627776 (by omega)
  obtain ⟨c0, c1⟩ := tm_bd dz 1099511627776 (by omega)
  obtain ⟨d0, d1⟩ := tm_bd dw 1099511627776 (by omega)
  have k1 := fun W => small_any x W
  have k2 := fun W => small_any y W
  have k3 := fun W => small_any dx W
  have k4 := fun W => small_any dy W
  have k5 := fun W => small_any dz W
  have k6 := fun W => small_any dw W
  generalize x.tmod 1099511627776 = x' at x0 x1 k1
  generalize y.tmod 1099511627776 = y' at y0 y1 k2
  generalize dx.tmod 1099511627776 = a at a0 a1 k3
  generalize dy.tmod 1099511627776 = b at b0 b1 k4
  generalize dz.tmod 1099511627776 = c at c0 c1 k5
  generalize dw.tmod 1099511627776 = d at d0 d1 k6
  have K1 := Lib.hid k1
  have K2 := Lib.hid k2
  have K3 := Lib.hid k3
  have K4 := Lib.hid k4
  have K5 := Lib.hid k5
  have K6 := Lib.hid k6
  clear k1 k2 k3 k4 k5 k6
  go_enter Try.func12, Try.ntmps12
  go_wp2_with fail
  refine (awake4_any _).mono ?_
  rintro e w' ⟨rfl, rfl⟩
  go_upto_region 3 with fail
  go_cut [1, 2, 3, 4] (fun s1 s2 s3 s4 wx => LaidP w x' y' on wx ∧ s1 = .int .i64 a ∧ s2 = .int .i64 b ∧ s3 = .int .i64 c ∧ s4 = .int .i64 d)
  case first =>
    go_region_with (go_at_call 34; first
      | (with_reducible refine (K1.out _).mono ?_); rintro e w' ⟨rfl, rfl⟩
      | (with_reducible refine (K2.out _).mono ?_); rintro e w' ⟨rfl, rfl⟩
      | (with_reducible refine (K3.out _).mono ?_); rintro e w' ⟨rfl, rfl⟩
      | (with_reducible refine (K4.out _).mono ?_); rintro e w' ⟨rfl, rfl⟩
      | (with_reducible refine (K5.out _).mono ?_); rintro e w' ⟨rfl, rfl⟩
      | (with_reducible refine (K6.out _).mono ?_); rintro e w' ⟨rfl, rfl⟩)
    all_goals go_wp2_with fail
    all_goals go_meet
    all_goals exact ⟨⟨heap_alloc_new w _, ((Below.refl _ _).alloc (Nat.le_refl _) _).drew⟩, rfl, rfl, rfl, rfl⟩
  case rest =>
    clear K1 K2 K3 K4 K5 K6
    obtain ⟨⟨hp, hB⟩, rfl, rfl, rfl, rfl⟩ := hcut
    have n0 : wc.cell? ⟨w.heap.size, 0, none⟩ = some (.int .i64 x') := cell_of_row wc _ 0 _ _ _ hp
    have n1 : wc.cell? ⟨w.heap.size, 1, none⟩ = some (.int .i64 y') := cell_of_row wc _ 1 _ _ _ hp
    have n2 : wc.cell? ⟨w.heap.size, 2, none⟩ = some (.bool on) := cell_of_row wc _ 2 _ _ _ hp
    clear hp
    have m1 := fun W => move_any x' y' on a b W (by omega) (by omega) (by omega) (by omega) (by omega) (by omega) (by omega) (by omega)
    have m2 := fun W => move_any (x' + a) (y' + b) on c d W (by omega) (by omega) (by omega) (by omega) (by omega) (by omega) (by omega) (by omega)
    have m3 := fun W => move_any x' y' on (a + c) (b + d) W (by omega) (by omega) (by omega) (by omega) (by omega) (by omega) (by omega) (by omega)
    have m4 := fun W => move_any (x' + a) (y' + b) on (-a) (-b) W (by omega) (by omega) (by omega) (by omega) (by omega) (by omega) (by omega) (by omega)
    have m5 := fun W => move_any x' y' on 0 0 W (by omega) (by omega) (by omega) (by omega) (by omega) (by omega) (by omega) (by omega)
    simp only [Int.add_assoc] at m2
    simp only [show x' + a + -a = x' by omega, show y' + b + -b = y' by omega] at m4
    simp only [Int.add_zero] at m5
    have M1 := Lib.hid m1
    have M2 := Lib.hid m2
    have M3 := Lib.hid m3
    have M4 := Lib.hid m4
    have M5 := Lib.hid m5
    have MA := fun V A cap hr => all_one V A cap x' y' on a b hr ⟨by omega, by omega⟩ ⟨by omega, by omega⟩ ⟨by omega, by omega⟩ ⟨by omega, by omega⟩
    have e1 : IntKind.i64.wrap (a + c) = a + c := IntWalk.i64_in _ (by omega)
    have e2 : IntKind.i64.wrap (b + d) = b + d := IntWalk.i64_in _ (by omega)
    have e3 : IntKind.i64.wrap (-a) = -a := IntWalk.i64_in _ (by omega)
    have e4 : IntKind.i64.wrap (-b) = -b := IntWalk.i64_in _ (by omega)
    have HMA := Lib.hid MA
    clear m1 m2 m3 m4 m5 MA
    go_wp2_with fail
    have hB := hB.drew
    refine reg_start (by kernel_rfl) ?_
    refine reg_take (i := 0) (d := some 29) (v := ?_) rfl rfl (by kernel_rfl) (by kernel_rfl) (by kernel_rfl) (fun _ _ _ h => h) (Or.inl ⟨by rfl, ?_⟩) ?_
    rotate_left
    · intro w' hx; (try (first | have q0 := hx.cell n0 | have q0 := hx.cell (Lib.cell?_alloc_some _ n0))); (try (first | have q1 := hx.cell n1 | have q1 := hx.cell (Lib.cell?_alloc_some _ n1))); (try (first | have q2 := hx.cell n2 | have q2 := hx.cell (Lib.cell?_alloc_some _ n2))); (try (first | have q3 := hx.cell r0 | have q3 := hx.cell (Lib.cell?_alloc_some _ r0))); (try (first | have q4 := hx.cell r1 | have q4 := hx.cell (Lib.cell?_alloc_some _ r1))); (try (first | have q5 := hx.cell r2 | have q5 := hx.cell (Lib.cell?_alloc_some _ r2))); (go_simp <;> with_reducible rfl)
    simp only [Act.put, List.setIfInBounds_toArray, List.set_cons_zero, List.set_cons_succ]
    refine reg_take (i := 1) (d := some 30) (v := ?_) rfl rfl (by kernel_rfl) (by kernel_rfl) (by kernel_rfl) (fun _ _ _ h => h) (Or.inl ⟨by rfl, ?_⟩) ?_
    rotate_left
    · intro w' hx; (go_simp <;> with_reducible rfl)
    simp only [Act.put, List.setIfInBounds_toArray, List.set_cons_zero, List.set_cons_succ]
    refine reg_take (i := 2) (d := some 31) (v := ?_) rfl rfl (by kernel_rfl) (by kernel_rfl) (by kernel_rfl) (fun _ _ _ h => h) (Or.inl ⟨by rfl, ?_⟩) ?_
    rotate_left
    · intro w' hx; (go_simp <;> with_reducible rfl)
    simp only [Act.put, List.setIfInBounds_toArray, List.set_cons_zero, List.set_cons_succ]
    refine reg_take (i := 4) (d := some 33) (v := ?_) rfl rfl (by kernel_rfl) (by kernel_rfl) (by kernel_rfl) (fun _ _ _ h => h) (Or.inl ⟨by rfl, ?_⟩) ?_
    rotate_left
    · intro w' hx; (go_simp <;> with_reducible rfl)
    simp only [Act.put, List.setIfInBounds_toArray, List.set_cons_zero, List.set_cons_succ]
    refine reg_take (i := 5) (d := some 34) (v := ?_) rfl rfl (by kernel_rfl) (by kernel_rfl) (by kernel_rfl) (fun _ _ _ h => h) (Or.inl ⟨by rfl, ?_⟩) ?_
    rotate_left
    · intro w' hx; (go_simp <;> with_reducible rfl)
    simp only [Act.put, List.setIfInBounds_toArray, List.set_cons_zero, List.set_cons_succ]
    refine reg_take (i := 7) (d := some 36) (v := ?_) rfl rfl (by kernel_rfl) (by kernel_rfl) (by kernel_rfl) (fun _ _ _ h => h) (Or.inl ⟨by rfl, ?_⟩) ?_
    rotate_left
    · intro w' hx; (try (first | have q0 := hx.cell n0 | have q0 := hx.cell (Lib.cell?_alloc_some _ n0))); (try (first | have q1 := hx.cell n1 | have q1 := hx.cell (Lib.cell?_alloc_some _ n1))); (try (first | have q2 := hx.cell n2 | have q2 := hx.cell (Lib.cell?_alloc_some _ n2))); (try (first | have q3 := hx.cell r0 | have q3 := hx.cell (Lib.cell?_alloc_some _ r0))); (try (first | have q4 := hx.cell r1 | have q4 := hx.cell (Lib.cell?_alloc_some _ r1))); (try (first | have q5 := hx.cell r2 | have q5 := hx.cell (Lib.cell?_alloc_some _ r2))); (go_simp <;> with_reducible rfl)
    simp only [Act.put, List.setIfInBounds_toArray, List.set_cons_zero, List.set_cons_succ]
    refine reg_take (i := 8) (d := some 37) (v := ?_) rfl rfl (by kernel_rfl) (by kernel_rfl) (by kernel_rfl) (fun _ _ _ h => h) (Or.inl ⟨by rfl, ?_⟩) ?_
    rotate_left
    · intro w' hx; (go_simp <;> with_reducible rfl)
    simp only [Act.put, List.setIfInBounds_toArray, List.set_cons_zero, List.set_cons_succ]
    refine reg_take (i := 9) (d := some 38) (v := ?_) rfl rfl (by kernel_rfl) (by kernel_rfl) (by kernel_rfl) (fun _ _ _ h => h) (Or.inl ⟨by rfl, ?_⟩) ?_
    rotate_left
    · intro w' hx; (go_simp <;> with_reducible rfl)
    simp only [Act.put, List.setIfInBounds_toArray, List.set_cons_zero, List.set_cons_succ]
    refine reg_take (i := 10) (d := some 39) (v := ?_) rfl rfl (by kernel_rfl) (by kernel_rfl) (by kernel_rfl) (fun _ _ _ h => h) (Or.inl ⟨by rfl, ?_⟩) ?_
    rotate_left
    · intro w' hx; (go_simp <;> with_reducible rfl)
    simp only [Act.put, List.setIfInBounds_toArray, List.set_cons_zero, List.set_cons_succ]
    refine reg_take (i := 11) (d := some 40) (v := ?_) rfl rfl (by kernel_rfl) (by kernel_rfl) (by kernel_rfl) (fun _ _ _ h => h) (Or.inl ⟨by rfl, ?_⟩) ?_
    rotate_left
    · intro w' hx; (go_simp <;> with_reducible rfl)
    simp only [Act.put, List.setIfInBounds_toArray, List.set_cons_zero, List.set_cons_succ]
    refine reg_take (i := 12) (d := some 41) (v := ?_) rfl rfl (by kernel_rfl) (by kernel_rfl) (by kernel_rfl) (fun _ _ _ h => h) (Or.inl ⟨by rfl, ?_⟩) ?_
    rotate_left
    · intro w' hx; (go_simp <;> with_reducible rfl)
    simp only [Act.put, List.setIfInBounds_toArray, List.set_cons_zero, List.set_cons_succ]
    refine reg_take (i := 13) (d := some 42) (v := ?_) rfl rfl (by kernel_rfl) (by kernel_rfl) (by kernel_rfl) (fun _ _ _ h => h) (Or.inl ⟨by rfl, ?_⟩) ?_
    rotate_left
    · intro w' hx; (go_simp <;> with_reducible rfl)
    simp only [Act.put, List.setIfInBounds_toArray, List.set_cons_zero, List.set_cons_succ]
    refine reg_one 3 _ (by kernel_rfl) rfl ?_
    intro K hK
    go_simp
    go_wp2_with (go_at_call 36; refine (M1.out _).mono ?_; rintro e wn ⟨rfl, hb⟩; have hB := belowTr hB (Nat.le_refl _) hb; have n0 := belowCell hb n0; have n1 := belowCell hb n1; have n2 := belowCell hb n2)
    refine hK.out _ _ hb ?_
    clear hK K
    refine reg_one 6 _ (by kernel_rfl) rfl ?_
    intro K hK
    go_simp
    go_wp2_with (go_at_call 36; refine (M2.out _).mono ?_; rintro e wn ⟨rfl, hb⟩; have hB := belowTr hB (Nat.le_refl _) hb; have n0 := belowCell hb n0; have n1 := belowCell hb n1; have n2 := belowCell hb n2)
    refine hK.out _ _ hb ?_
    clear hK K
    refine reg_one 14 _ (by kernel_rfl) rfl ?_
    intro K hK
    go_simp
    go_wp2_with (go_at_call 36; refine (M3.out _).mono ?_; rintro e wn ⟨rfl, hb⟩; have hB := belowTr hB (Nat.le_refl _) hb; have n0 := belowCell hb n0; have n1 := belowCell hb n1; have n2 := belowCell hb n2)
    refine hK.out _ _ hb ?_
    clear hK K
    refine reg_take (i := 15) (d := some 44) (v := ?_) rfl rfl (by kernel_rfl) (by kernel_rfl) (by kernel_rfl) (fun _ _ _ h => h) (Or.inl ⟨by rfl, ?_⟩) ?_
    rotate_left
    · intro w' hx; (go_simp <;> with_reducible rfl)
    simp only [Act.put, List.setIfInBounds_toArray, List.set_cons_zero, List.set_cons_succ]
    refine reg_take (i := 16) (d := some 45) (v := ?_) rfl rfl (by kernel_rfl) (by kernel_rfl) (by kernel_rfl) (fun _ _ _ h => h) (Or.inl ⟨by rfl, ?_⟩) ?_
    rotate_left
    · intro w' hx; (go_simp <;> with_reducible rfl)
    simp only [Act.put, List.setIfInBounds_toArray, List.set_cons_zero, List.set_cons_succ]
    refine reg_take (i := 17) (d := some 46) (v := ?_) rfl rfl (by kernel_rfl) (by kernel_rfl) (by kernel_rfl) (fun _ _ _ h => h) (Or.inl ⟨by rfl, ?_⟩) ?_
    rotate_left
    · intro w' hx; (try (first | have q0 := hx.cell n0 | have q0 := hx.cell (Lib.cell?_alloc_some _ n0))); (try (first | have q1 := hx.cell n1 | have q1 := hx.cell (Lib.cell?_alloc_some _ n1))); (try (first | have q2 := hx.cell n2 | have q2 := hx.cell (Lib.cell?_alloc_some _ n2))); (try (first | have q3 := hx.cell r0 | have q3 := hx.cell (Lib.cell?_alloc_some _ r0))); (try (first | have q4 := hx.cell r1 | have q4 := hx.cell (Lib.cell?_alloc_some _ r1))); (try (first | have q5 := hx.cell r2 | have q5 := hx.cell (Lib.cell?_alloc_some _ r2))); (go_simp <;> with_reducible rfl)
    simp only [Act.put, List.setIfInBounds_toArray, List.set_cons_zero, List.set_cons_succ]
    refine reg_take (i := 18) (d := some 47) (v := ?_) rfl rfl (by kernel_rfl) (by kernel_rfl) (by kernel_rfl) (fun _ _ _ h => h) (Or.inl ⟨by rfl, ?_⟩) ?_
    rotate_left
    · intro w' hx; (go_simp <;> with_reducible rfl)
    simp only [Act.put, List.setIfInBounds_toArray, List.set_cons_zero, List.set_cons_succ]
    refine reg_take (i := 19) (d := some 48) (v := ?_) rfl rfl (by kernel_rfl) (by kernel_rfl) (by kernel_rfl) (fun _ _ _ h => h) (Or.inl ⟨by rfl, ?_⟩) ?_
    rotate_left
    · intro w' hx; (go_simp <;> with_reducible rfl)
    simp only [Act.put, List.setIfInBounds_toArray, List.set_cons_zero, List.set_cons_succ]
    refine reg_take (i := 21) (d := some 50) (v := ?_) rfl rfl (by kernel_rfl) (by kernel_rfl) (by kernel_rfl) (fun _ _ _ h => h) (Or.inl ⟨by rfl, ?_⟩) ?_
    rotate_left
    · intro w' hx; (go_simp <;> with_reducible rfl)
    simp only [Act.put, List.setIfInBounds_toArray, List.set_cons_zero, List.set_cons_succ]
    refine reg_take (i := 22) (d := some 51) (v := ?_) rfl rfl (by kernel_rfl) (by kernel_rfl) (by kernel_rfl) (fun _ _ _ h => h) (Or.inl ⟨by rfl, ?_⟩) ?_
    rotate_left
    · intro w' hx; (go_simp <;> with_reducible rfl)
    simp only [Act.put, List.setIfInBounds_toArray, List.set_cons_zero, List.set_cons_succ]
    refine reg_take (i := 23) (d := some 52) (v := ?_) rfl rfl (by kernel_rfl) (by kernel_rfl) (by kernel_rfl) (fun _ _ _ h => h) (Or.inl ⟨by rfl, ?_⟩) ?_
    rotate_left
    · intro w' hx; (go_simp <;> with_reducible rfl)
    simp only [Act.put, List.setIfInBounds_toArray, List.set_cons_zero, List.set_cons_succ]
    refine reg_take (i := 24) (d := some 53) (v := ?_) rfl rfl (by kernel_rfl) (by kernel_rfl) (by kernel_rfl) (fun _ _ _ h => h) (Or.inl ⟨by rfl, ?_⟩) ?_
    rotate_left
    · intro w' hx; (go_simp <;> with_reducible rfl)
    simp only [Act.put, List.setIfInBounds_toArray, List.set_cons_zero, List.set_cons_succ]
    refine reg_take (i := 26) (d := some 55) (v := ?_) rfl rfl (by kernel_rfl) (by kernel_rfl) (by kernel_rfl) (fun _ _ _ h => h) (Or.inl ⟨by rfl, ?_⟩) ?_
    rotate_left
    · intro w' hx; (try (first | have q0 := hx.cell n0 | have q0 := hx.cell (Lib.cell?_alloc_some _ n0))); (try (first | have q1 := hx.cell n1 | have q1 := hx.cell (Lib.cell?_alloc_some _ n1))); (try (first | have q2 := hx.cell n2 | have q2 := hx.cell (Lib.cell?_alloc_some _ n2))); (try (first | have q3 := hx.cell r0 | have q3 := hx.cell (Lib.cell?_alloc_some _ r0))); (try (first | have q4 := hx.cell r1 | have q4 := hx.cell (Lib.cell?_alloc_some _ r1))); (try (first | have q5 := hx.cell r2 | have q5 := hx.cell (Lib.cell?_alloc_some _ r2))); (go_simp <;> with_reducible rfl)
    simp only [Act.put, List.setIfInBounds_toArray, List.set_cons_zero, List.set_cons_succ]
    refine reg_one 20 _ (by kernel_rfl) rfl ?_
    intro K hK
    go_simp
    go_wp2_with (go_at_call 36; refine (M1.out _).mono ?_; rintro e wn ⟨rfl, hb⟩; have hB := belowTr hB (Nat.le_refl _) hb; have n0 := belowCell hb n0; have n1 := belowCell hb n1; have n2 := belowCell hb n2)
    refine hK.out _ _ hb ?_
    clear hK K
    refine reg_one 25 _ (by kernel_rfl) rfl ?_
    intro K hK
    go_simp
    go_wp2_with (go_at_call 36; refine (M4.out _).mono ?_; rintro e wn ⟨rfl, hb⟩; have hB := belowTr hB (Nat.le_refl _) hb; have n0 := belowCell hb n0; have n1 := belowCell hb n1; have n2 := belowCell hb n2)
    refine hK.out _ _ hb ?_
    clear hK K
    refine reg_take (i := 27) (d := some 56) (v := ?_) rfl rfl (by kernel_rfl) (by kernel_rfl) (by kernel_rfl) (fun _ _ _ h => h) (Or.inl ⟨by rfl, ?_⟩) ?_
    rotate_left
    · intro w' hx; (go_simp <;> with_reducible rfl)
    simp only [Act.put, List.setIfInBounds_toArray, List.set_cons_zero, List.set_cons_succ]
    refine reg_take (i := 28) (d := some 57) (v := ?_) rfl rfl (by kernel_rfl) (by kernel_rfl) (by kernel_rfl) (fun _ _ _ h => h) (Or.inl ⟨by rfl, ?_⟩) ?_
    rotate_left
    · intro w' hx; (go_simp <;> with_reducible rfl)
    simp only [Act.put, List.setIfInBounds_toArray, List.set_cons_zero, List.set_cons_succ]
    refine reg_take (i := 29) (d := some 58) (v := ?_) rfl rfl (by kernel_rfl) (by kernel_rfl) (by kernel_rfl) (fun _ _ _ h => h) (Or.inl ⟨by rfl, ?_⟩) ?_
    rotate_left
    · intro w' hx; (go_simp <;> with_reducible rfl)
    simp only [Act.put, List.setIfInBounds_toArray, List.set_cons_zero, List.set_cons_succ]
    refine reg_take (i := 30) (d := some 59) (v := ?_) rfl rfl (by kernel_rfl) (by kernel_rfl) (by kernel_rfl) (fun _ _ _ h => h) (Or.inl ⟨by rfl, ?_⟩) ?_
    rotate_left
    · intro w' hx; (try (first | have q0 := hx.cell n0 | have q0 := hx.cell (Lib.cell?_alloc_some _ n0))); (try (first | have q1 := hx.cell n1 | have q1 := hx.cell (Lib.cell?_alloc_some _ n1))); (try (first | have q2 := hx.cell n2 | have q2 := hx.cell (Lib.cell?_alloc_some _ n2))); (try (first | have q3 := hx.cell r0 | have q3 := hx.cell (Lib.cell?_alloc_some _ r0))); (try (first | have q4 := hx.cell r1 | have q4 := hx.cell (Lib.cell?_alloc_some _ r1))); (try (first | have q5 := hx.cell r2 | have q5 := hx.cell (Lib.cell?_alloc_some _ r2))); (go_simp <;> with_reducible rfl)
    simp only [Act.put, List.setIfInBounds_toArray, List.set_cons_zero, List.set_cons_succ]
    refine reg_take (i := 32) (d := some 61) (v := ?_) rfl rfl (by kernel_rfl) (by kernel_rfl) (by kernel_rfl) (fun _ _ _ h => h) (Or.inl ⟨by rfl, ?_⟩) ?_
    rotate_left
    · intro w' hx; (try (first | have q0 := hx.cell n0 | have q0 := hx.cell (Lib.cell?_alloc_some _ n0))); (try (first | have q1 := hx.cell n1 | have q1 := hx.cell (Lib.cell?_alloc_some _ n1))); (try (first | have q2 := hx.cell n2 | have q2 := hx.cell (Lib.cell?_alloc_some _ n2))); (try (first | have q3 := hx.cell r0 | have q3 := hx.cell (Lib.cell?_alloc_some _ r0))); (try (first | have q4 := hx.cell r1 | have q4 := hx.cell (Lib.cell?_alloc_some _ r1))); (try (first | have q5 := hx.cell r2 | have q5 := hx.cell (Lib.cell?_alloc_some _ r2))); (go_simp <;> with_reducible rfl)
    simp only [Act.put, List.setIfInBounds_toArray, List.set_cons_zero, List.set_cons_succ]
    refine reg_one 31 _ (by kernel_rfl) rfl ?_
    intro K hK
    go_simp
    go_wp2_with (go_at_call 36; refine (M5.out _).mono ?_; rintro e wn ⟨rfl, hb⟩; have hB := belowTr hB (Nat.le_refl _) hb; have n0 := belowCell hb n0; have n1 := belowCell hb n1; have n2 := belowCell hb n2)
    refine hK.out _ _ hb ?_
    clear hK K
    refine reg_take (i := 33) (d := some 62) (v := ?_) rfl rfl (by kernel_rfl) (by kernel_rfl) (by kernel_rfl) (fun _ _ _ h => h) (Or.inl ⟨by rfl, ?_⟩) ?_
    rotate_left
    · intro w' hx; (go_simp <;> with_reducible rfl)
    simp only [Act.put, List.setIfInBounds_toArray, List.set_cons_zero, List.set_cons_succ]
    refine reg_take (i := 34) (d := some 63) (v := ?_) rfl rfl (by kernel_rfl) (by kernel_rfl) (by kernel_rfl) (fun _ _ _ h => h) (Or.inl ⟨by rfl, ?_⟩) ?_
    rotate_left
    · intro w' hx; (go_simp <;> with_reducible rfl)
    simp only [Act.put, List.setIfInBounds_toArray, List.set_cons_zero, List.set_cons_succ]
    refine reg_take (i := 35) (d := some 64) (v := ?_) rfl rfl (by kernel_rfl) (by kernel_rfl) (by kernel_rfl) (fun _ _ _ h => h) (Or.inl ⟨by rfl, ?_⟩) ?_
    rotate_left
    · intro w' hx; (go_simp <;> with_reducible rfl)
    simp only [Act.put, List.setIfInBounds_toArray, List.set_cons_zero, List.set_cons_succ]
    refine reg_take (i := 36) (d := some 65) (v := ?_) rfl rfl (by kernel_rfl) (by kernel_rfl) (by kernel_rfl) (fun _ _ _ h => h) (Or.inl ⟨by rfl, ?_⟩) ?_
    rotate_left
    · intro w' hx; (try (first | have q0 := hx.cell n0 | have q0 := hx.cell (Lib.cell?_alloc_some _ n0))); (try (first | have q1 := hx.cell n1 | have q1 := hx.cell (Lib.cell?_alloc_some _ n1))); (try (first | have q2 := hx.cell n2 | have q2 := hx.cell (Lib.cell?_alloc_some _ n2))); (try (first | have q3 := hx.cell r0 | have q3 := hx.cell (Lib.cell?_alloc_some _ r0))); (try (first | have q4 := hx.cell r1 | have q4 := hx.cell (Lib.cell?_alloc_some _ r1))); (try (first | have q5 := hx.cell r2 | have q5 := hx.cell (Lib.cell?_alloc_some _ r2))); (go_simp <;> with_reducible rfl)
    simp only [Act.put, List.setIfInBounds_toArray, List.set_cons_zero, List.set_cons_succ]
    refine reg_take (i := 39) (d := some 68) (v := ?_) rfl rfl (by kernel_rfl) (by kernel_rfl) (by kernel_rfl) (fun _ _ _ h => h) (Or.inl ⟨by rfl, ?_⟩) ?_
    rotate_left
    · intro w' hx; (go_simp <;> with_reducible rfl)
    simp only [Act.put, List.setIfInBounds_toArray, List.set_cons_zero, List.set_cons_succ]
    refine reg_take (i := 40) (d := some 69) (v := ?_) rfl rfl (by kernel_rfl) (by kernel_rfl) (by kernel_rfl) (fun _ _ _ h => h) (Or.inl ⟨by rfl, ?_⟩) ?_
    rotate_left
    · intro w' hx; (go_simp <;> with_reducible rfl)
    simp only [Act.put, List.setIfInBounds_toArray, List.set_cons_zero, List.set_cons_succ]
    refine reg_take (i := 44) (d := some 73) (v := ?_) rfl rfl (by kernel_rfl) (by kernel_rfl) (by kernel_rfl) (fun _ _ _ h => h) (Or.inl ⟨by rfl, ?_⟩) ?_
    rotate_left
    · intro w' hx; (try (first | have q0 := hx.cell n0 | have q0 := hx.cell (Lib.cell?_alloc_some _ n0))); (try (first | have q1 := hx.cell n1 | have q1 := hx.cell (Lib.cell?_alloc_some _ n1))); (try (first | have q2 := hx.cell n2 | have q2 := hx.cell (Lib.cell?_alloc_some _ n2))); (try (first | have q3 := hx.cell r0 | have q3 := hx.cell (Lib.cell?_alloc_some _ r0))); (try (first | have q4 := hx.cell r1 | have q4 := hx.cell (Lib.cell?_alloc_some _ r1))); (try (first | have q5 := hx.cell r2 | have q5 := hx.cell (Lib.cell?_alloc_some _ r2))); (go_simp <;> with_reducible rfl)
    simp only [Act.put, List.setIfInBounds_toArray, List.set_cons_zero, List.set_cons_succ]
    refine reg_take (i := 45) (d := some 74) (v := ?_) rfl rfl (by kernel_rfl) (by kernel_rfl) (by kernel_rfl) (fun _ _ _ h => h) (Or.inl ⟨by rfl, ?_⟩) ?_
    rotate_left
    · intro w' hx; (go_simp <;> with_reducible rfl)
    simp only [Act.put, List.setIfInBounds_toArray, List.set_cons_zero, List.set_cons_succ]
    refine reg_take (i := 46) (d := some 75) (v := ?_) rfl rfl (by kernel_rfl) (by kernel_rfl) (by kernel_rfl) (fun _ _ _ h => h) (Or.inl ⟨by rfl, ?_⟩) ?_
    rotate_left
    · intro w' hx; (go_simp <;> with_reducible rfl)
    simp only [Act.put, List.setIfInBounds_toArray, List.set_cons_zero, List.set_cons_succ]
    refine reg_two 37 38 _ _ (by kernel_rfl) rfl rfl ?_ ?_
    · skip
      intro K hK
      go_simp
      refine hK.out _ _ (Ext.alloc _ _) ?_
      clear hK K
      refine reg_one 38 _ (by kernel_rfl) rfl ?_
      intro K hK
      go_simp
      go_wp2_with (go_at_call 38; refine (unit_any _).mono ?_; rintro e wn ⟨rfl, hb⟩; (have hbU := hb); first | (have hB := belowTr hB (Nat.le_refl _) hb; have n0 := belowCell hb n0; have n1 := belowCell hb n1; have n2 := belowCell hb n2) | (have hB := belowTr (hB.alloc hB.size _) (Nat.le_refl _) hb; have n0 := belowCell hb (Lib.cell?_alloc_some _ n0); have n1 := belowCell hb (Lib.cell?_alloc_some _ n1); have n2 := belowCell hb (Lib.cell?_alloc_some _ n2)))
      refine hK.out _ _ hb ?_
      clear hK K
      refine reg_one 41 _ (by kernel_rfl) rfl ?_
      intro K hK
      go_simp
      go_wp2_with (go_at_call 40; refine (HMA.out _ _ _ ?_).mono ?_; (first | exact rowS_vals encPt_len _ 65 [(x', y', on)] _ rfl 1 rfl | exact (rowS_vals encPt_len _ 65 [(x', y', on)] _ rfl 1 rfl).below hbU); rintro e wn ⟨ga, ca, rfl, r0, r1, r2, hb⟩; first | (have hB := belowTr hB (Nat.le_refl _) hb; have n0 := belowCell hb n0; have n1 := belowCell hb n1; have n2 := belowCell hb n2) | (have hB := belowTr (hB.alloc hB.size _) (Nat.le_refl _) hb; have n0 := belowCell hb (Lib.cell?_alloc_some _ n0); have n1 := belowCell hb (Lib.cell?_alloc_some _ n1); have n2 := belowCell hb (Lib.cell?_alloc_some _ n2)))
      refine hK.out _ _ hb ?_
      clear hK K
      refine reg_take (i := 42) (d := some 71) (v := ?_) rfl rfl (by kernel_rfl) (by kernel_rfl) (by kernel_rfl) (fun _ _ _ h => h) (Or.inl ⟨by rfl, ?_⟩) ?_
      rotate_left
      · intro w' hx; (go_simp <;> with_reducible rfl)
      simp only [Act.put, List.setIfInBounds_toArray, List.set_cons_zero, List.set_cons_succ]
      refine reg_take (i := 43) (d := some 72) (v := ?_) rfl rfl (by kernel_rfl) (by kernel_rfl) (by kernel_rfl) (fun _ _ _ h => h) (Or.inl ⟨by rfl, ?_⟩) ?_
      rotate_left
      · intro w' hx; (try (first | have q0 := hx.cell n0 | have q0 := hx.cell (Lib.cell?_alloc_some _ n0))); (try (first | have q1 := hx.cell n1 | have q1 := hx.cell (Lib.cell?_alloc_some _ n1))); (try (first | have q2 := hx.cell n2 | have q2 := hx.cell (Lib.cell?_alloc_some _ n2))); (try (first | have q3 := hx.cell r0 | have q3 := hx.cell (Lib.cell?_alloc_some _ r0))); (try (first | have q4 := hx.cell r1 | have q4 := hx.cell (Lib.cell?_alloc_some _ r1))); (try (first | have q5 := hx.cell r2 | have q5 := hx.cell (Lib.cell?_alloc_some _ r2))); (go_simp <;> with_reducible rfl)
      simp only [Act.put, List.setIfInBounds_toArray, List.set_cons_zero, List.set_cons_succ]
      refine reg_one 47 _ (by kernel_rfl) rfl ?_
      intro K hK
      go_simp
      go_wp2_with (go_at_call 36; refine (M1.out _).mono ?_; rintro e wn ⟨rfl, hb⟩; have hB := belowTr hB (Nat.le_refl _) hb; have n0 := belowCell hb n0; have n1 := belowCell hb n1; have n2 := belowCell hb n2)
      refine hK.out _ _ hb ?_
      clear hK K
      refine reg_take (i := 48) (d := some 77) (v := ?_) rfl rfl (by kernel_rfl) (by kernel_rfl) (by kernel_rfl) (fun _ _ _ h => h) (Or.inl ⟨by rfl, ?_⟩) ?_
      rotate_left
      · intro w' hx; (go_simp <;> with_reducible rfl)
      simp only [Act.put, List.setIfInBounds_toArray, List.set_cons_zero, List.set_cons_succ]
      refine reg_take (i := 49) (d := some 78) (v := ?_) rfl rfl (by kernel_rfl) (by kernel_rfl) (by kernel_rfl) (fun _ _ _ h => h) (Or.inl ⟨by rfl, ?_⟩) ?_
      rotate_left
      · intro w' hx; (go_simp <;> with_reducible rfl)
      simp only [Act.put, List.setIfInBounds_toArray, List.set_cons_zero, List.set_cons_succ]
      refine reg_take (i := 50) (d := some 10) (v := ?_) rfl rfl (by kernel_rfl) (by kernel_rfl) (by kernel_rfl) (fun _ _ _ h => h) (Or.inl ⟨by rfl, ?_⟩) ?_
      rotate_left
      · intro w' hx; (go_simp <;> with_reducible rfl)
      simp only [Act.put, List.setIfInBounds_toArray, List.set_cons_zero, List.set_cons_succ]
      refine wpAnyH_done (by kernel_rfl) ?_ _
      go_wp2
      go_ret
      exact ⟨rfl, hB⟩
    · skip
      intro K hK
      go_simp
      go_wp2_with (go_at_call 38; refine (unit_any _).mono ?_; rintro e wn ⟨rfl, hb⟩; (have hbU := hb); first | (have hB := belowTr hB (Nat.le_refl _) hb; have n0 := belowCell hb n0; have n1 := belowCell hb n1; have n2 := belowCell hb n2) | (have hB := belowTr (hB.alloc hB.size _) (Nat.le_refl _) hb; have n0 := belowCell hb (Lib.cell?_alloc_some _ n0); have n1 := belowCell hb (Lib.cell?_alloc_some _ n1); have n2 := belowCell hb (Lib.cell?_alloc_some _ n2)))
      refine hK.out _ _ hb ?_
      clear hK K
      refine reg_one 37 _ (by kernel_rfl) rfl ?_
      intro K hK
      go_simp
      refine hK.out _ _ (Ext.alloc _ _) ?_
      clear hK K
      refine reg_one 41 _ (by kernel_rfl) rfl ?_
      intro K hK
      go_simp
      go_wp2_with (go_at_call 40; refine (HMA.out _ _ _ ?_).mono ?_; (first | exact rowS_vals encPt_len _ 65 [(x', y', on)] _ rfl 1 rfl | exact (rowS_vals encPt_len _ 65 [(x', y', on)] _ rfl 1 rfl).below hbU); rintro e wn ⟨ga, ca, rfl, r0, r1, r2, hb⟩; first | (have hB := belowTr hB (Nat.le_refl _) hb; have n0 := belowCell hb n0; have n1 := belowCell hb n1; have n2 := belowCell hb n2) | (have hB := belowTr (hB.alloc hB.size _) (Nat.le_refl _) hb; have n0 := belowCell hb (Lib.cell?_alloc_some _ n0); have n1 := belowCell hb (Lib.cell?_alloc_some _ n1); have n2 := belowCell hb (Lib.cell?_alloc_some _ n2)))
      refine hK.out _ _ hb ?_
      clear hK K
      refine reg_take (i := 42) (d := some 71) (v := ?_) rfl rfl (by kernel_rfl) (by kernel_rfl) (by kernel_rfl) (fun _ _ _ h => h) (Or.inl ⟨by rfl, ?_⟩) ?_
      rotate_left
      · intro w' hx; (go_simp <;> with_reducible rfl)
      simp only [Act.put, List.setIfInBounds_toArray, List.set_cons_zero, List.set_cons_succ]
      refine reg_take (i := 43) (d := some 72) (v := ?_) rfl rfl (by kernel_rfl) (by kernel_rfl) (by kernel_rfl) (fun _ _ _ h => h) (Or.inl ⟨by rfl, ?_⟩) ?_
      rotate_left
      · intro w' hx; (try (first | have q0 := hx.cell n0 | have q0 := hx.cell (Lib.cell?_alloc_some _ n0))); (try (first | have q1 := hx.cell n1 | have q1 := hx.cell (Lib.cell?_alloc_some _ n1))); (try (first | have q2 := hx.cell n2 | have q2 := hx.cell (Lib.cell?_alloc_some _ n2))); (try (first | have q3 := hx.cell r0 | have q3 := hx.cell (Lib.cell?_alloc_some _ r0))); (try (first | have q4 := hx.cell r1 | have q4 := hx.cell (Lib.cell?_alloc_some _ r1))); (try (first | have q5 := hx.cell r2 | have q5 := hx.cell (Lib.cell?_alloc_some _ r2))); (go_simp <;> with_reducible rfl)
      simp only [Act.put, List.setIfInBounds_toArray, List.set_cons_zero, List.set_cons_succ]
      refine reg_one 47 _ (by kernel_rfl) rfl ?_
      intro K hK
      go_simp
      go_wp2_with (go_at_call 36; refine (M1.out _).mono ?_; rintro e wn ⟨rfl, hb⟩; have hB := belowTr hB (Nat.le_refl _) hb; have n0 := belowCell hb n0; have n1 := belowCell hb n1; have n2 := belowCell hb n2)
      refine hK.out _ _ hb ?_
      clear hK K
      refine reg_take (i := 48) (d := some 77) (v := ?_) rfl rfl (by kernel_rfl) (by kernel_rfl) (by kernel_rfl) (fun _ _ _ h => h) (Or.inl ⟨by rfl, ?_⟩) ?_
      rotate_left
      · intro w' hx; (go_simp <;> with_reducible rfl)
      simp only [Act.put, List.setIfInBounds_toArray, List.set_cons_zero, List.set_cons_succ]
      refine reg_take (i := 49) (d := some 78) (v := ?_) rfl rfl (by kernel_rfl) (by kernel_rfl) (by kernel_rfl) (fun _ _ _ h => h) (Or.inl ⟨by rfl, ?_⟩) ?_
      rotate_left
      · intro w' hx; (go_simp <;> with_reducible rfl)
      simp only [Act.put, List.setIfInBounds_toArray, List.set_cons_zero, List.set_cons_succ]
      refine reg_take (i := 50) (d := some 10) (v := ?_) rfl rfl (by kernel_rfl) (by kernel_rfl) (by kernel_rfl) (fun _ _ _ h => h) (Or.inl ⟨by rfl, ?_⟩) ?_
      rotate_left
      · intro w' hx; (go_simp <;> with_reducible rfl)
      simp only [Act.put, List.setIfInBounds_toArray, List.set_cons_zero, List.set_cons_succ]
      refine wpAnyH_done (by kernel_rfl) ?_ _
      go_wp2
      go_ret
      exact ⟨rfl, hB⟩

end Go.Proofs.Ytpkejjbjhibbkaa
