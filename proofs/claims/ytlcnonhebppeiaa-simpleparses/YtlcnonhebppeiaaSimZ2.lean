/- The document's Same of outlines, as a contract over this seat's translation. -/
import Derived.Test.YtlcnonhebppeiaaSimO
namespace Go.Proofs.Ytlcnonhebppeiaa
open Go.RowKit
set_option linter.unusedVariables false

set_option maxRecDepth 100000 in
theorem run_neq_box4 (x0 x1 x2 x3 y0 y1 y2 y3 : Int) (w : World) : (binOp .neq 34 (.agg #[.int .i64 x0, .int .i64 x1, .int .i64 x2, .int .i64 x3]) (.agg #[.int .i64 y0, .int .i64 y1, .int .i64 y2, .int .i64 y3])).run Try.prog w = .ok (.bool (!decide ([x0, x1, x2, x3] = [y0, y1, y2, y3]))) w := by
  have h := run_equalIn_ints (P := Try.prog) w 9998 34 3 4 .i64 .i64 [x0, x1, x2, x3] [y0, y1, y2, y3] Try.underlying34 Try.underlying3 (by simp [go_sem]) (by simp [go_sem]) rfl rfl
  change (Op.equalIn 10000 34 (.agg #[.int .i64 x0, .int .i64 x1, .int .i64 x2, .int .i64 x3]) (.agg #[.int .i64 y0, .int .i64 y1, .int .i64 y2, .int .i64 y3])).run Try.prog w = _ at h
  rw [run_neq_struct, h]
  rfl

theorem glSame_box {a b : Gl} (h : sameBox a b = false) : glSame a b = false := by simp [glSame, h]
theorem glSame_not {a b : Gl} (h : a ≠ b) : glSame a b = false := by
  cases hg : glSame a b
  · rfl
  · exact absurd (glSame_eq hg) h

set_option maxRecDepth 100000 in
set_option maxHeartbeats 4000000 in
theorem rsame12_any (v u : RlV) (w : World) (hv : v.rows w) (hu : u.rows w) (a1 : v.n ≤ 1000000) (a2 : v.pn ≤ 1000000) (a3 : v.q ≤ 1000000) (b1 : u.n ≤ 1000000) (b2 : u.pn ≤ 1000000) (b3 : u.q ≤ 1000000) :
    Calls Try.prog 29 #[v.val, u.val] w (Ret w (.bool (glSame v.g u.g))) := by
  have hA1 := (Below.refl w.heap.size w).alloc (Nat.le_refl _) (.cells v.cells 38)
  have hA := hA1.alloc (hA1.size) (.cells u.cells 38)
  have hk1 : ((w.alloc (.cells v.cells 38)).alloc (.cells u.cells 38)).heap[w.heap.size]? = some (.cells v.cells 38 (0, 0)) := kept_alloc (heap_alloc_new w _) _
  have hk2 : ((w.alloc (.cells v.cells 38)).alloc (.cells u.cells 38)).heap[w.heap.size + 1]? = some (.cells u.cells 38 (0, 0)) := by
    have := heap_alloc_new (w.alloc (.cells v.cells 38)) (.cells u.cells 38)
    rwa [show (w.alloc (.cells v.cells 38)).heap.size = w.heap.size + 1 by simp] at this
  have hes := (hv.below hA).es
  have hfs := (hu.below hA).es
  have hps := (hv.below hA).ps
  have hqs := (hu.below hA).ps
  have HP : Hid (∀ W, Below w.heap.size w W → Calls Try.prog 25 #[.slice v.PA v.pn v.pc, .slice u.PA u.pn u.pc] W (Quiet W (.bool (sameB v.g.pr u.g.pr)))) := fun W hW => same_any _ _ _ _ _ _ _ _ W (hv.below hW).pr (hu.below hW).pr (by omega) (by omega)
  have HE : Hid (v.g.es.length = v.n) := hv.es.len
  have HF : Hid (u.g.es.length = u.n) := hu.es.len
  have HS : Hid (v.g.ps.length = v.q) := hv.ps.len
  have HT : Hid (u.g.ps.length = u.q) := hu.ps.len
  clear hv hu hA1
  unfold RlV.val at *
  unfold RlV.cells at *
  obtain ⟨⟨x0, x1, x2, x3, es, pr, ps⟩, IA, n, ic, PA, pn, pc, QA, q, qc⟩ := v
  obtain ⟨⟨y0, y1, y2, y3, fs, qr, qs⟩, IB, n', ic', PB, pn', pc', QB, q', qc'⟩ := u
  simp only at *
  obtain ⟨c0, c1, c2, c3, c4, c5, c6⟩ := cells7 hk1
  obtain ⟨d0, d1, d2, d3, d4, d5, d6⟩ := cells7 hk2
  have eb := fun W => run_neq_box4 x0 x1 x2 x3 y0 y1 y2 y3 W
  clear hk1 hk2
  go_enter Try.func29, Try.ntmps29
  cases hbx : decide ([x0, x1, x2, x3] = [y0, y1, y2, y3]) with
  | false =>
    rw [hbx] at eb
    go_wp2
    go_ret
    exact ⟨by rw [glSame_box (a := ⟨x0, x1, x2, x3, es, pr, ps⟩) (b := ⟨y0, y1, y2, y3, fs, qr, qs⟩) hbx]; rfl, hA⟩
  | true =>
    rw [hbx] at eb
    by_cases hn : n = n'
    · subst hn
      have HNe : Hid (∀ {j : Nat} {x y : Sp}, x ≠ y → ps[j]? = some x → qs[j]? = some y → glSame ⟨x0, x1, x2, x3, es, pr, ps⟩ ⟨y0, y1, y2, y3, fs, qr, qs⟩ = false) := fun {j x y} h1 h2 h3 => glSame_not (fun h => by
        rw [show ps = qs from congrArg Gl.ps h, h3] at h2
        exact h1 (Option.some.inj h2).symm)
      have HBx := Lib.hid hbx
      have hne : ((n : Int) != (n : Int)) = false := by simp
      have H2 := Lib.hid (HP.out _ hA)
      clear HP
      go_wp2_with fail
      generalize (w.alloc _).alloc _ = V at *
      have hA0 := Lib.hid hA
      with_reducible refine H2.out.mono ?_
      rintro e w1 ⟨rfl, q1, rfl⟩
      have hA2 := below_drewN hA q1
      clear H2 hA hne
      cases h2 : sameB pr qr with
      | false =>
        go_wp2
        go_ret
        refine ⟨?_, hA2⟩
        rw [glSame_not (fun h => by rw [show pr = qr from congrArg Gl.pr h] at h2; simp [sameB] at h2)]
        rfl
      | true =>
        have HEq : Hid (es = fs → ps = qs → glSame ⟨x0, x1, x2, x3, es, pr, ps⟩ ⟨y0, y1, y2, y3, fs, qr, qs⟩ = true) := fun h3 h4 => by
          subst h3 h4
          have := HBx.out
          simp only [glSame, sameBox, h2]
          rw [this]
          simp [sameB, samePs]
        by_cases hq : q = q'
        · subst hq
          have hne : ((q : Int) != (q : Int)) = false := by simp
          go_wp2_with fail
          clear hne eb
          go_loopw [41] (fun i wr => ∃ k t : Nat, k ≤ n ∧ i = .int .i64 k ∧ es.take k = fs.take k ∧ wr = V.drewN t) (fun i _ => n - (intOf i).toNat)
          case atStart => exact ⟨0, _, Nat.zero_le _, rfl, by simp, rfl⟩
          case round =>
            obtain ⟨k, t, hk, rfl, hp, rfl⟩ := hrel
            have Hp := Lib.hid hp
            clear hp hA2
            have hA2 := below_drewN hA0.out t
            by_cases hlt : k < n
            · obtain ⟨x, ex⟩ := get_some (zs := es) (k := k) (by rw [HE.out]; exact hlt)
              obtain ⟨y, ey⟩ := get_some (zs := fs) (k := k) (by rw [HF.out]; exact hlt)
              obtain ⟨g, off, rfl, hg, hc⟩ := hes.at (cellsOf_get (k := .i64) ex)
              obtain ⟨g', off', rfl, hg', hc'⟩ := hfs.at (cellsOf_get (k := .i64) ey)
              have Ex := Lib.hid ex
              have Ey := Lib.hid ey
              have i0 : (0 : Int) ≤ (k : Int) := by omega
              have i1 : (k : Int) < (n : Int) := by omega
              clear ex ey
              by_cases he : x = y
              · subst he
                have e0 : (x != x) = false := by simp
                go_wp2
                go_quiet (fail)
                go_wp2
                go_roundw
                case rel => exact ⟨k + 1, _, by omega, by go_num, by rw [List.take_add_one, List.take_add_one, Ex.out, Ey.out, Hp.out], by first | rfl | (rw [World.drewN_drewN])⟩
                case measure => simp [intOf]; omega
              · have e0 : (x != y) = true := by simp [he]
                have He := Lib.hid he
                clear he
                go_wp2
                go_quiet (fail)
                go_wp2
                go_ret
                have hA3 := hA2.drew
                refine ⟨?_, by first | exact hA3 | exact below_drewN (below_drewN hA0.out _) _⟩
                rw [glSame_not (fun h => by
                  have e1 := Ex.out
                  rw [show es = fs from congrArg Gl.es h, Ey.out] at e1
                  exact He.out (Option.some.inj e1).symm)]
                rfl
            · obtain rfl : k = n := by omega
              have hef : es = fs := by
                have hp := Hp.out
                rwa [List.take_of_length_le (by have := HE.out; omega), List.take_of_length_le (by have := HF.out; omega)] at hp
              have Hef := Lib.hid hef
              clear hef hlt hA2
              have hA2 := below_drewN hA0.out t
              go_wp2_with fail
              go_loopw [59] (fun i wr => ∃ j t : Nat, j ≤ q ∧ i = .int .i64 j ∧ ps.take j = qs.take j ∧ wr = V.drewN t) (fun i _ => q - (intOf i).toNat)
              case atStart => exact ⟨0, _, Nat.zero_le _, rfl, by simp, rfl⟩
              case round =>
                clear hA2
                obtain ⟨j, t, hj, rfl, hp, rfl⟩ := hrel
                have Hp := Lib.hid hp
                clear hp
                have hA2 := below_drewN hA0.out t
                by_cases hlt : j < q
                · obtain ⟨x, ex⟩ : ∃ p, ps[j]? = some p := ⟨ps[j]'(by have := HS.out; omega), List.getElem?_eq_getElem (by have := HS.out; omega)⟩
                  obtain ⟨y, ey⟩ : ∃ p, qs[j]? = some p := ⟨qs[j]'(by have := HT.out; omega), List.getElem?_eq_getElem (by have := HT.out; omega)⟩
                  obtain ⟨g, off, rfl, hg, q0, q1, q2⟩ := atRp hps ex
                  obtain ⟨g', off', rfl, hg', r0, r1, r2⟩ := atRp hqs ey
                  have Ex := Lib.hid ex
                  have Ey := Lib.hid ey
                  have i0 : (0 : Int) ≤ (j : Int) := by omega
                  have i1 : (j : Int) < (q : Int) := by omega
                  clear ex ey
                  by_cases he : x = y
                  · subst he
                    obtain ⟨a0, a1, a2⟩ := x
                    simp only at *
                    go_wp2
                    go_quiet (fail)
                    go_wp2
                    go_roundw
                    case rel => exact ⟨j + 1, _, by omega, by go_num, by rw [List.take_add_one, List.take_add_one, Ex.out, Ey.out, Hp.out], by first | rfl | (rw [World.drewN_drewN])⟩
                    case measure => simp [intOf]; omega
                  · have He := Lib.hid he
                    obtain ⟨a0, a1, a2⟩ := x
                    obtain ⟨b0, b1, b2⟩ := y
                    simp only at *
                    by_cases h0 : a0 = b0
                    · subst h0
                      by_cases h1 : a1 = b1
                      · subst h1
                        have h2 : a2 ≠ b2 := fun h => he (by rw [h])
                        clear he
                        cases a2 <;> cases b2
                        all_goals
                          first
                          | exact absurd rfl h2
                          | (clear h2
                             go_wp2
                             go_quiet (fail)
                             go_wp2
                             go_ret
                             exact ⟨by rw [HNe.out He.out Ex.out Ey.out]; rfl, by first | exact hA2 | exact hA2.drew | exact below_drewN (below_drewN hA0.out _) _⟩)
                      · have e0 : decide (a1 = b1) = false := decide_eq_false h1
                        have e1 : (a1 == b1) = false := by simp [h1]
                        clear he
                        go_wp2
                        go_quiet (fail)
                        go_wp2
                        go_ret
                        exact ⟨by rw [HNe.out He.out Ex.out Ey.out]; rfl, by first | exact hA2 | exact hA2.drew | exact below_drewN (below_drewN hA0.out _) _⟩
                    · have e0 : decide (a0 = b0) = false := decide_eq_false h0
                      have e1 : (a0 == b0) = false := by simp [h0]
                      clear he
                      go_wp2
                      go_quiet (fail)
                      go_wp2
                      go_ret
                      exact ⟨by rw [HNe.out He.out Ex.out Ey.out]; rfl, by first | exact hA2 | exact hA2.drew | exact below_drewN (below_drewN hA0.out _) _⟩
                · obtain rfl : j = q := by omega
                  go_wp2
                  go_ret
                  refine ⟨?_, hA2⟩
                  have hpq : ps = qs := by
                    have hp := Hp.out
                    rwa [List.take_of_length_le (by have := HS.out; omega), List.take_of_length_le (by have := HT.out; omega)] at hp
                  rw [HEq.out Hef.out hpq]
                  rfl
        · have hne : ((q : Int) != (q' : Int)) = true := by simp; omega
          go_wp2
          go_ret
          refine ⟨?_, hA2⟩
          rw [glSame_not (fun h => hq (by rw [← HS.out, ← HT.out, show ps = qs from congrArg Gl.ps h]))]
          rfl
    · have hne : ((n : Int) != (n' : Int)) = true := by simp; omega
      go_wp2
      go_ret
      refine ⟨?_, hA⟩
      rw [glSame_not (fun h => hn (by rw [← HE.out, ← HF.out, show es = fs from congrArg Gl.es h]))]
      rfl
end Go.Proofs.Ytlcnonhebppeiaa
