/- compo: which parts may be, as a contract over this seat's translation. -/
import Derived.Test.YtlcnonhebppeiaaComA2
namespace Go.Proofs.Ytlcnonhebppeiaa
open Go.RowKit
set_option linter.unusedVariables false
set_option linter.unusedSimpArgs false

set_option maxRecDepth 100000 in
set_option maxHeartbeats 2000000 in
theorem cpart_any (p : Pt) (hp : p.ok) (w : World) : Calls Try.prog 80 #[p.val] w (Ret w (.bool (ptRight p))) := by
  have hA := (Below.refl w.heap.size w).alloc (Nat.le_refl _) (.cells p.cells 89)
  have hk := heap_alloc_new w (.cells p.cells 89)
  have hKn := w_known hp.f.1 hp.f.2
  have hK := w_and200 hp.f.1 hp.f.2
  have H2 := Lib.hid (fun W => chas_any p 2 _ W (w_and2 hp.f.1 hp.f.2))
  have H1 := Lib.hid (fun W => chas_any p 1 _ W (w_and1 hp.f.1 hp.f.2))
  have HO := Lib.hid (fun W => ones_any (knd p.f) (knd_in p.f) W)
  have HT := Lib.hid (twoK_ones p.f)
  have HM := Lib.hid (fun W => cmat_any p hp W)
  have HX := Lib.hid (fun W => cbyte_any p.x W)
  have HY := Lib.hid (fun W => cbyte_any p.y W)
  have hst : (fb p.f 16 || fb p.f 32 || fb p.f 2048 || decide (8192 ≤ p.f)) = strange p.f := rfl
  rw [hst] at hKn
  unfold ptRight
  generalize twoK p.f = tk at *
  generalize strange p.f = sg at *
  generalize matB (knd p.f) p = mb at *
  generalize knd p.f = k at *
  generalize byteB p.x = bx at *
  generalize byteB p.y = bY at *
  generalize fb p.f 2 = f2 at *
  generalize fb p.f 1 = f1 at *
  clear hst hp
  unfold Pt.val Pt.cells at *
  obtain ⟨f, i, x, y, xx, xy, yx, yy⟩ := p
  simp only at *
  obtain ⟨c0, c1, c2, c3, c4, c5, c6, c7⟩ := cells8 hk
  cases sg with
  | true =>
    go_enter Try.func80, Try.ntmps80
    go_wp2_with fail
    go_ret
    exact ⟨rfl, hA⟩
  | false =>
    go_enter Try.func80, Try.ntmps80
    go_wp2_with fail
    generalize w.alloc _ = V at *
    with_reducible refine (H2.out _).mono ?_
    rintro e w1 ⟨rfl, hb1⟩
    have hB1 := hA.trans (hb1.mono hA.size)
    have hk1 := kept_block hk hb1
    clear hk hb1 c0 c1 c2 c3 c4 c5 c6 c7 H2 hA
    obtain ⟨c0, c1, c2, c3, c4, c5, c6, c7⟩ := cells8 hk1
    cases f2 with
    | false =>
      go_wp2_with fail
      go_ret
      exact ⟨rfl, hB1⟩
    | true =>
      go_wp2_with fail
      with_reducible refine (HO.out _).mono ?_
      rintro e w2 ⟨rfl, hb2⟩
      have hB2 := hB1.trans (hb2.mono hB1.size)
      have hk2 := kept_block hk1 hb2
      have ht : decide (1 < onesK k) = tk := HT.out
      generalize onesK k = o at *
      clear hk1 hb2 hB1 c0 c1 c2 c3 c4 c5 c6 c7 HO hKn hK HT
      obtain ⟨c0, c1, c2, c3, c4, c5, c6, c7⟩ := cells8 hk2
      cases tk with
      | true =>
        go_wp2_with fail
        go_ret
        exact ⟨rfl, hB2⟩
      | false =>
        go_wp2_with fail
        with_reducible refine (HM.out _).mono ?_
        rintro e w3 ⟨rfl, hb3⟩
        have hB3 := hB2.trans (hb3.mono hB2.size)
        have hk3 := kept_block hk2 hb3
        clear hk2 hb3 hB2 c0 c1 c2 c3 c4 c5 c6 c7 HM ht
        obtain ⟨c0, c1, c2, c3, c4, c5, c6, c7⟩ := cells8 hk3
        cases mb with
        | false =>
          go_wp2_with fail
          go_ret
          exact ⟨rfl, hB3⟩
        | true =>
          go_wp2_with fail
          with_reducible refine (H1.out _).mono ?_
          rintro e w4 ⟨rfl, hb4⟩
          have hB4 := hB3.trans (hb4.mono hB3.size)
          have hk4 := kept_block hk3 hb4
          clear hk3 hb4 hB3 c0 c1 c2 c3 c4 c5 c6 c7 H1
          obtain ⟨c0, c1, c2, c3, c4, c5, c6, c7⟩ := cells8 hk4
          cases f1 with
          | true =>
            go_wp2_with fail
            go_ret
            exact ⟨rfl, hB4⟩
          | false =>
            go_wp2_with fail
            with_reducible refine (HX.out _).mono ?_
            rintro e w5 ⟨rfl, rfl⟩
            cases bx with
            | false =>
              go_wp2_with fail
              go_ret
              exact ⟨rfl, hB4⟩
            | true =>
              go_wp2_with fail
              with_reducible refine (HY.out _).mono ?_
              rintro e w5 ⟨rfl, rfl⟩
              cases bY
              all_goals
                go_wp2_with fail
                go_ret
                exact ⟨rfl, hB4⟩
end Go.Proofs.Ytlcnonhebppeiaa
