/- compo: Right, as a contract over this seat's translation. -/
import Derived.Test.YtlcnonhebppeiaaComB
namespace Go.Proofs.Ytlcnonhebppeiaa
open Go.RowKit
set_option linter.unusedVariables false
set_option linter.unusedSimpArgs false

set_option maxRecDepth 100000 in
set_option maxHeartbeats 4000000 in
theorem cright_any (v : CgV) (w : World) (hr : v.rows w) (hq1 : v.q ≤ 1000000) (hp1 : v.pn ≤ 1000000) (ho : v.g.ok) : Calls Try.prog 35 #[v.val] w (Ret w (.bool (cRight v.g))) := by
  have hA := (Below.refl w.heap.size w).alloc (Nat.le_refl _) (.cells v.cells 67)
  have hk := heap_alloc_new w (.cells v.cells 67)
  have HS : Hid (v.g.ps.length = v.q) := hr.ps.len
  have HP : Hid (v.g.pr.length = v.pn) := hr.pr.len
  have HPs := Lib.hid ho.ps
  have HRs := Lib.hid hr.ps
  have HRt : Hid (cRight v.g = (decide (1 ≤ v.q) && decide (v.q ≤ 200) && decide (v.pn ≤ 65535) && partsOk v.g.ps v.q && (codeB v.g.ps || decide (v.pn = 0)))) := by show _ = _; unfold cRight; rw [HS.out, HP.out]
  have HCc : Hid (1 ≤ v.q → ∀ W, Below w.heap.size w W → Calls Try.prog 77 #[v.val] W (Ret W (.bool (codeB v.g.ps)))) := fun h W hW => ccode_any v W (hr.below hW) h hq1 ho
  rw [HRt.out]
  clear hr ho HRt
  unfold CgV.val at *
  unfold CgV.cells at *
  obtain ⟨⟨x0, x1, x2, x3, ps, pr⟩, QA, q, qc, PA, pn, pc⟩ := v
  simp only at *
  obtain ⟨c0, c1, c2, c3, c4, c5⟩ := cells6 hk
  by_cases h1 : 1 ≤ q
  · by_cases h2 : q ≤ 200
    · by_cases h3 : pn ≤ 65535
      · rw [decide_eq_true h1, decide_eq_true h2, decide_eq_true h3]
        have e1 : ((q : Int) == 0) = false := by simp; omega
        have w4 : IntKind.i64.wrap ((q : Int) - 1) = (q : Int) - 1 := IntWalk.i64_in _ (by omega)
        go_enter Try.func35, Try.ntmps35
        go_wp2_with fail
        clear c0 c1 c2 c3 c4 c5 e1
        generalize w.alloc _ = V at *
        go_loopw [29] (fun i' wr => ∃ k : Nat, k ≤ q ∧ i' = .int .i64 k ∧ Hid (partsOk ps k = true) ∧ Below w.heap.size w wr ∧ wr.heap[w.heap.size]? = some (.cells #[.int .i16 x0, .int .i16 x1, .int .i16 x2, .int .i16 x3, .slice QA q qc, .slice PA pn pc] 67 (0, 0))) (fun i' _ => q - (intOf i').toNat)
        case atStart => exact ⟨0, Nat.zero_le _, rfl, Lib.hid rfl, hA, hk⟩
        case round =>
          clear hA hk
          obtain ⟨k, hkq, rfl, HO, hb, hk⟩ := hrel
          by_cases hlt : k < q
          · obtain ⟨p, hp⟩ : ∃ p, ps[k]? = some p := ⟨ps[k]'(by have := HS.out; omega), List.getElem?_eq_getElem (by have := HS.out; omega)⟩
            have hpo := HPs.out p (List.mem_of_getElem? hp)
            obtain ⟨g, off, rfl, hg, d0, d1, d2, d3, d4, d5, d6, d7⟩ := atPt (HRs.out.below hb) hp
            have HPt := Lib.hid (fun W => cpart_any p hpo W)
            have HH := Lib.hid (fun W => chas_any p 256 _ W (w_and256 hpo.f.1 hpo.f.2))
            have HNo : Hid ((ptRight p && !(decide (k + 1 < q) && fb p.f 256)) = false → partsOk ps q = false) := fun h => partsOk_not hp (by rw [HS.out]; exact h) hlt
            have HYs : Hid ((ptRight p && !(decide (k + 1 < q) && fb p.f 256)) = true → partsOk ps (k + 1) = true) := fun h => by
              rw [partsOk_succ, HO.out, hp]
              simp only [HS.out]
              rw [h]
              rfl
            have hA2 := (Below.refl wr.heap.size wr).alloc (Nat.le_refl _) (.cells p.cells 89)
            have hkp := heap_alloc_new wr (.cells p.cells 89)
            have hk2 := kept_block hk hA2
            have hb2 := hb.trans (hA2.mono hb.size)
            have hgn : g ≠ wr.heap.size := by omega
            clear hp hpo hA2 hk hb
            unfold Pt.val at *
            unfold Pt.cells at *
            generalize ptRight p = pt at *
            generalize fb p.f 256 = cd at *
            obtain ⟨f, i, x, y, xx, xy, yx, yy⟩ := p
            simp only at *
            obtain ⟨m0, m1, m2, m3, m4, m5, m6, m7⟩ := cells8 hkp
            go_wp2_with fail
            clear d0 d1 d2 d3 d4 d5 d6 d7 m0 m1 m2 m3 m4 m5 m6 m7
            generalize wr.alloc _ = U at *
            with_reducible refine (HPt.out _).mono ?_
            rintro e w1 ⟨rfl, hb3⟩
            have hb4 := hb2.trans (hb3.mono hb2.size)
            have hk4 := kept_block hk2 hb3
            have hkp4 := kept_block hkp hb3
            clear hb2 hk2 hkp hb3 HPt
            cases pt with
            | false =>
              have HF := Lib.hid (HNo.out (by simp))
              go_wp2
              go_ret
              exact ⟨by rw [HF.out]; rfl, hb4⟩
            | true =>
              obtain ⟨m0, m1, m2, m3, m4, m5, m6, m7⟩ := cells8 hkp4
              by_cases hl : k + 1 < q
              · have hl1 : (k : Int) < (q : Int) - 1 := by omega
                go_wp2_with fail
                with_reducible refine (HH.out _).mono ?_
                rintro e w2 ⟨rfl, hb5⟩
                have hb6 := hb4.trans (hb5.mono hb4.size)
                have hk6 := kept_block hk4 hb5
                clear hb4 hk4 hkp4 hb5 HH m0 m1 m2 m3 m4 m5 m6 m7
                cases cd with
                | true =>
                  have HF := Lib.hid (HNo.out (by simp [hl]))
                  go_wp2
                  go_ret
                  exact ⟨by rw [HF.out]; rfl, hb6⟩
                | false =>
                  have HY := Lib.hid (HYs.out (by simp))
                  clear HNo HYs HO
                  go_wp2
                  go_roundw
                  case rel => exact ⟨k + 1, by omega, by go_num, HY, hb6, hk6⟩
                  case measure => simp [intOf]; omega
              · have hl1 : ¬ (k : Int) < (q : Int) - 1 := by omega
                have HY := Lib.hid (HYs.out (by simp [hl]))
                clear HNo HYs HO hkp4 m0 m1 m2 m3 m4 m5 m6 m7
                go_wp2
                go_roundw
                case rel => exact ⟨k + 1, by omega, by go_num, HY, hb4, hk4⟩
                case measure => simp [intOf]; omega
          · obtain rfl : k = q := by omega
            have H := Lib.hid (HCc.out h1 wr hb)
            obtain ⟨c0, c1, c2, c3, c4, c5⟩ := cells6 hk
            generalize codeB ps = cb at *
            go_wp2_with fail
            with_reducible refine H.out.mono ?_
            rintro e w1 ⟨rfl, hb3⟩
            have hb4 := hb.trans (hb3.mono hb.size)
            have hk4 := kept_block hk hb3
            clear c0 c1 c2 c3 c4 c5 H hb3 hb hk
            obtain ⟨c0, c1, c2, c3, c4, c5⟩ := cells6 hk4
            cases cb with
            | true =>
              go_wp2
              go_ret
              exact ⟨by rw [HO.out]; first | rfl | simp, hb4⟩
            | false =>
              by_cases h0 : pn = 0
              · subst h0
                go_wp2
                go_ret
                exact ⟨by rw [HO.out]; first | rfl | simp, hb4⟩
              · have e0 : ((pn : Int) == 0) = false := by simp [h0]
                have d0 : decide (pn = 0) = false := decide_eq_false h0
                go_wp2
                go_ret
                exact ⟨by rw [HO.out, d0]; rfl, hb4⟩
      · rw [decide_eq_false h3]
        have e1 : ((q : Int) == 0) = false := by simp; omega
        have e3 : (65535 : Int) < (pn : Int) := by omega
        go_enter Try.func35, Try.ntmps35
        go_wp2_with fail
        go_ret
        exact ⟨by first | rfl | simp, hA⟩
    · rw [decide_eq_false h2]
      have e1 : ((q : Int) == 0) = false := by simp; omega
      have e2 : (200 : Int) < (q : Int) := by omega
      go_enter Try.func35, Try.ntmps35
      go_wp2_with fail
      go_ret
      exact ⟨by first | rfl | simp, hA⟩
  · rw [decide_eq_false h1]
    obtain rfl : q = 0 := by omega
    go_enter Try.func35, Try.ntmps35
    go_wp2_with fail
    go_ret
    exact ⟨by first | rfl | simp, hA⟩
end Go.Proofs.Ytlcnonhebppeiaa
