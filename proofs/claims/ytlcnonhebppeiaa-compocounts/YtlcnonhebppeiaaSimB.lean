/- simple: Right, as a contract over this seat's translation. -/
import Derived.Test.YtlcnonhebppeiaaSimA
namespace Go.Proofs.Ytlcnonhebppeiaa
open Go.RowKit
set_option linter.unusedVariables false

theorem cells7 {w : World} {b t : Nat} {v0 v1 v2 v3 v4 v5 v6 : Value} (h : w.heap[b]? = some (.cells #[v0, v1, v2, v3, v4, v5, v6] t (0, 0))) :
    w.cell? ⟨b, 0, none⟩ = some v0 ∧ w.cell? ⟨b, 1, none⟩ = some v1 ∧ w.cell? ⟨b, 2, none⟩ = some v2 ∧ w.cell? ⟨b, 3, none⟩ = some v3 ∧ w.cell? ⟨b, 4, none⟩ = some v4 ∧ w.cell? ⟨b, 5, none⟩ = some v5 ∧ w.cell? ⟨b, 6, none⟩ = some v6 :=
  ⟨cell_of_row w b 0 _ t (0, 0) h, cell_of_row w b 1 _ t (0, 0) h, cell_of_row w b 2 _ t (0, 0) h, cell_of_row w b 3 _ t (0, 0) h, cell_of_row w b 4 _ t (0, 0) h, cell_of_row w b 5 _ t (0, 0) h, cell_of_row w b 6 _ t (0, 0) h⟩

theorem ochX (v : GlV) (w : World) (hr : v.rows w) (hn : v.sn ≤ 1000000) (ho : v.g.ok) : Calls Try.prog 47 #[v.val, .func (.func 48) #[] #[]] w (RetN 3 .i64 w (chs (xsOf v.g.ps))) :=
  ochanges_any 48 (·.1) (enters_of Try.func48 (by kernel_rfl) rfl) (fun x W => oalongX_any x W) v w hr hn (fun p hp => (ho.ps p hp).1)
theorem ochY (v : GlV) (w : World) (hr : v.rows w) (hn : v.sn ≤ 1000000) (ho : v.g.ok) : Calls Try.prog 47 #[v.val, .func (.func 49) #[] #[]] w (RetN 3 .i64 w (chs (ysOf v.g.ps))) :=
  ochanges_any 49 (·.2.1) (enters_of Try.func49 (by kernel_rfl) rfl) (fun x W => oalongY_any x W) v w hr hn (fun p hp => (ho.ps p hp).2)

set_option maxRecDepth 100000 in
set_option maxHeartbeats 4000000 in
theorem oright_any (v : GlV) (w : World) (hr : v.rows w) (hf : v.few) (ho : v.g.ok) :
    Calls Try.prog 21 #[v.val] w (Ret w (.bool (oRight v.g))) := by
  have hA := (Below.refl w.heap.size w).alloc (Nat.le_refl _) (.cells v.cells 29)
  have hk := heap_alloc_new w (.cells v.cells 29)
  obtain ⟨f0, f1, f2⟩ := hf
  have HE : Hid (v.g.es.length = v.en) := hr.es.len
  have HP : Hid (v.g.pr.length = v.pn) := hr.pr.len
  have HS : Hid (v.g.ps.length = v.sn) := hr.ps.len
  have HRt : Hid (oRight v.g = (riseN v.g.es v.en && decide (v.sn = cntE v.g.es) && fitL (chs (xsOf v.g.ps)) && fitL (chs (ysOf v.g.ps)))) := by
    show _ = _
    unfold oRight
    rw [HE.out, HP.out, HS.out, decide_eq_true (by omega), decide_eq_true (by omega)]
    simp
  have HRi : Hid (∀ W, Below w.heap.size w W → Calls Try.prog 55 #[.slice v.EA v.en v.ec] W fun e w' => e = .returned (.bool (riseN v.g.es v.en)) ∧ W = w') := fun W hW => orise_any _ _ _ _ W (hr.es.below hW) (by omega)
  have HC : Hid (∀ W, Below w.heap.size w W → Calls Try.prog 56 #[v.val] W (Ret W (.int .i64 (cntE v.g.es : Nat)))) := fun W hW => ocount_any v W (hr.below hW) (by omega) ho.es
  have HX : Hid (∀ W, Below w.heap.size w W → Calls Try.prog 47 #[v.val, .func (.func 48) #[] #[]] W (RetN 3 .i64 W (chs (xsOf v.g.ps)))) := fun W hW => ochX v W (hr.below hW) (by omega) ho
  have HY : Hid (∀ W, Below w.heap.size w W → Calls Try.prog 47 #[v.val, .func (.func 49) #[] #[]] W (RetN 3 .i64 W (chs (ysOf v.g.ps)))) := fun W hW => ochY v W (hr.below hW) (by omega) ho
  have HXl : Hid ((chs (xsOf v.g.ps)).length = v.sn) := by show _ = _; rw [chs_len, xsOf_len, HS.out]
  have HYl : Hid ((chs (ysOf v.g.ps)).length = v.sn) := by show _ = _; rw [chs_len, ysOf_len, HS.out]
  clear ho hr
  unfold GlV.val at *
  unfold GlV.cells at *
  obtain ⟨⟨x0, x1, x2, x3, es, pr, ps⟩, EA, en, ec, PA, pn, pc, SA, sn, sc⟩ := v
  simp only at *
  generalize chs (xsOf ps) = cx at *
  generalize chs (ysOf ps) = cy at *
  generalize cntE es = N at *
  rw [HRt.out]
  clear HRt HE HP HS
  have hgw : ∀ p os, Below w.heap.size w (gw (w.alloc (.cells #[.int .i16 x0, .int .i16 x1, .int .i16 x2, .int .i16 x3, .slice EA en ec, .slice PA pn pc, .slice SA sn sc] 29)) p os) := fun p os => hA.trans ((gw_below _ p os).mono hA.size)
  have GR : Hid (∀ p os, Calls Try.prog 55 #[.slice EA en ec] (gw (w.alloc (.cells #[.int .i16 x0, .int .i16 x1, .int .i16 x2, .int .i16 x3, .slice EA en ec, .slice PA pn pc, .slice SA sn sc] 29)) p os) (fun e w' => e = .returned (.bool (riseN es en)) ∧ w' = gw (w.alloc (.cells #[.int .i16 x0, .int .i16 x1, .int .i16 x2, .int .i16 x3, .slice EA en ec, .slice PA pn pc, .slice SA sn sc] 29)) p os)) := fun p os => (HRi.out _ (hgw p os)).mono fun e w' ⟨h1, h2⟩ => ⟨h1, h2.symm⟩
  have GC : Hid (∀ p os, Calls Try.prog 56 #[.agg #[.int .i16 x0, .int .i16 x1, .int .i16 x2, .int .i16 x3, .slice EA en ec, .slice PA pn pc, .slice SA sn sc]] (gw (w.alloc (.cells #[.int .i16 x0, .int .i16 x1, .int .i16 x2, .int .i16 x3, .slice EA en ec, .slice PA pn pc, .slice SA sn sc] 29)) p os) (Ret (gw (w.alloc (.cells #[.int .i16 x0, .int .i16 x1, .int .i16 x2, .int .i16 x3, .slice EA en ec, .slice PA pn pc, .slice SA sn sc] 29)) p os) (.int .i64 (N : Nat)))) := fun p os => HC.out _ (hgw p os)
  have HGW := Lib.hid hgw
  have HKw : Hid (∀ p os, (gw (w.alloc (.cells #[.int .i16 x0, .int .i16 x1, .int .i16 x2, .int .i16 x3, .slice EA en ec, .slice PA pn pc, .slice SA sn sc] 29)) p os).heap[w.heap.size]? = some (.cells #[.int .i16 x0, .int .i16 x1, .int .i16 x2, .int .i16 x3, .slice EA en ec, .slice PA pn pc, .slice SA sn sc] 29 (0, 0))) := fun p os => ((gw_below _ p os).block _ (by simp)).trans hk
  obtain ⟨b0, b1, b2, b3, b4, b5, b6⟩ := cells7 hk
  have C0 := gw_cell b0
  have C1 := gw_cell b1
  have C2 := gw_cell b2
  have C3 := gw_cell b3
  have C4 := gw_cell b4
  have C5 := gw_cell b5
  have C6 := gw_cell b6
  clear b0 b1 b2 b3 b4 b5 b6 hgw HC HRi hk hA
  have D1 : decide (32767 < (en : Int)) = false := decide_eq_false (by omega)
  have D2 : decide (65535 < (pn : Int)) = false := decide_eq_false (by omega)
  cases hri : riseN es en with
  | false =>
    rw [hri] at GR
    clear hri HX HY HXl HYl f0 f1 f2
    go_enter Try.func21, Try.ntmps21
    go_upto_region 1 with fail
    generalize w.alloc _ = V at *
    refine region_below (by kernel_rfl) (by kernel_rfl) ?_
    repeat (first | go_big_quiet_step ((go_at_call 55; with_reducible exact calls_gw_same (GR.out _ _))) | quiet_step ((go_at_call 55; with_reducible exact calls_gw_same (GR.out _ _))))
    refine wpQuiet_nil ?_
    rintro _ ⟨z, rfl⟩
    go_wp2
    go_ret
    exact ⟨rfl, HGW.out _ _⟩
  | true =>
    rw [hri] at GR
    clear hri
    by_cases hN : sn = N
    · subst hN
      have E1 : ((sn : Int) != (sn : Int)) = false := by simp
      go_enter Try.func21, Try.ntmps21
      go_upto_region 1 with fail
      generalize w.alloc _ = V at *
      refine region_below (by kernel_rfl) (by kernel_rfl) ?_
      repeat (first | go_big_quiet_step (first | (go_at_call 55; with_reducible exact calls_gw_same (GR.out _ _)) | (go_at_call 56; with_reducible exact calls_gw (GC.out _ _))) | quiet_step (first | (go_at_call 55; with_reducible exact calls_gw_same (GR.out _ _)) | (go_at_call 56; with_reducible exact calls_gw (GC.out _ _))))
      refine wpQuiet_nil ?_
      rintro _ ⟨z, rfl⟩
      have hb := HGW.out z.n z.os
      have hk := HKw.out z.n z.os
      clear HGW HKw GR GC C0 C1 C2 C3 C4 C5 C6 D1 D2 E1
      generalize gw V z.n z.os = Z at *
      obtain ⟨b0, b1, b2, b3, b4, b5, b6⟩ := cells7 hk
      have KX := Lib.hid (HX.out Z hb)
      clear HX
      go_wp2_with fail
      with_reducible refine KX.out.mono ?_
      rintro e w2 ⟨A2, n2, c2, rfl, ho2, hb2⟩
      have Hb2 := Lib.hid (hb.trans (hb2.mono hb.size))
      have hk2 := kept_block hk hb2
      have Hn2 : Hid (n2 = sn) := by have := ho2.len; rw [HXl.out] at this; exact this.symm
      have Hq2 := Lib.hid (ocontains_any A2 n2 c2 cx w2 ho2.row (by have := Hn2.out; omega))
      clear KX hb2 hb hk b0 b1 b2 b3 b4 b5 b6
      go_wp2_with fail
      with_reducible refine Hq2.out.mono ?_
      rintro e w3 ⟨rfl, rfl⟩
      clear Hq2
      obtain ⟨b0, b1, b2, b3, b4, b5, b6⟩ := cells7 hk2
      cases fx : fitL cx with
      | false =>
        go_wp2
        go_ret
        exact ⟨by simp [fx], Hb2.out⟩
      | true =>
        have KY := Lib.hid (HY.out w2 Hb2.out)
        clear HY
        go_wp2_with fail
        with_reducible refine KY.out.mono ?_
        rintro e w4 ⟨A4, n4, c4, rfl, ho4, hb4⟩
        have Hb4 := Lib.hid (Hb2.out.trans (hb4.mono Hb2.out.size))
        have Hn4 : Hid (n4 = sn) := by have := ho4.len; rw [HYl.out] at this; exact this.symm
        have Hq4 := Lib.hid (ocontains_any A4 n4 c4 cy w4 ho4.row (by have := Hn4.out; omega))
        clear KY hb4 b0 b1 b2 b3 b4 b5 b6
        go_wp2_with fail
        with_reducible refine Hq4.out.mono ?_
        rintro e w5 ⟨rfl, rfl⟩
        cases fy : fitL cy
        all_goals
          go_wp2
          go_ret
          exact ⟨by simp [fx, fy], Hb4.out⟩
    · have E1 : ((sn : Int) != (N : Int)) = true := by simp; omega
      have E2 : Hid (decide (sn = N) = false) := decide_eq_false hN
      rw [E2.out]
      clear HX HY HXl HYl f0 f1 f2 hN
      go_enter Try.func21, Try.ntmps21
      go_upto_region 1 with fail
      generalize w.alloc _ = V at *
      refine region_below (by kernel_rfl) (by kernel_rfl) ?_
      repeat (first | go_big_quiet_step (first | (go_at_call 55; with_reducible exact calls_gw_same (GR.out _ _)) | (go_at_call 56; with_reducible exact calls_gw (GC.out _ _))) | quiet_step (first | (go_at_call 55; with_reducible exact calls_gw_same (GR.out _ _)) | (go_at_call 56; with_reducible exact calls_gw (GC.out _ _))))
      refine wpQuiet_nil ?_
      rintro _ ⟨z, rfl⟩
      go_wp2
      go_ret
      exact ⟨rfl, HGW.out _ _⟩

end Go.Proofs.Ytlcnonhebppeiaa
