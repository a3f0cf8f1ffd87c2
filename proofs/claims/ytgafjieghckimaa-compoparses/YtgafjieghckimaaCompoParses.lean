/- The program reads a composite glyph from bytes, or refuses them, as the document says. -/
import Derived.Test.YtgafjieghckimaaRows
import Derived.WalkKit
import Derived.ProofKit
import Derived.OpenShut
import Derived.ShutString
import Derived.ChangeOld
import Derived.Below
import Derived.Lib.SmallJoins
import Derived.Test.YtgafjieghckimaaBase2
import Derived.Test.YtgafjieghckimaaBase3
import Derived.Test.YtgafjieghckimaaBase4
import Derived.Test.YtgafjieghckimaaBase9
import Derived.Test.YtgafjieghckimaaBase13
import Derived.Test.YtgafjieghckimaaBase15

namespace Go.Proofs.Ytgafjieghckimaa
open Go.RowKit
set_option linter.unusedVariables false
set_option linter.unusedSimpArgs false

set_option maxRecDepth 100000 in
theorem run_neq_cbox4 (x0 x1 x2 x3 y0 y1 y2 y3 : Int) (w : World) : (binOp .neq 46 (.agg #[.int .i64 x0, .int .i64 x1, .int .i64 x2, .int .i64 x3]) (.agg #[.int .i64 y0, .int .i64 y1, .int .i64 y2, .int .i64 y3])).run Try.prog w = .ok (.bool (!decide ([x0, x1, x2, x3] = [y0, y1, y2, y3]))) w := by
  have h := run_equalIn_ints (P := Try.prog) w 9998 46 3 4 .i64 .i64 [x0, x1, x2, x3] [y0, y1, y2, y3] Try.underlying46 Try.underlying3 (by simp [go_sem]) (by simp [go_sem]) rfl rfl
  change (Op.equalIn 10000 46 (.agg #[.int .i64 x0, .int .i64 x1, .int .i64 x2, .int .i64 x3]) (.agg #[.int .i64 y0, .int .i64 y1, .int .i64 y2, .int .i64 y3])).run Try.prog w = _ at h
  rw [run_neq_struct, h]
  rfl

set_option maxRecDepth 100000 in
theorem eq_rt (p q : Pt) (w : World) : (Op.equalIn 10000 114 (ptR p) (ptR q)).run Try.prog w = .ok (decide (p = q)) w := by
  obtain ⟨f, i, x, y, xx, xy, yx, yy⟩ := p
  obtain ⟨f', i', x', y', xx', xy', yx', yy'⟩ := q
  have h : (Op.equalIn 9999 46 (.agg #[.int .i64 xx, .int .i64 xy, .int .i64 yx, .int .i64 yy]) (.agg #[.int .i64 xx', .int .i64 xy', .int .i64 yx', .int .i64 yy'])).run Try.prog w = .ok (decide ([xx, xy, yx, yy] = [xx', xy', yx', yy'])) w :=
    run_equalIn_ints (P := Try.prog) w 9997 46 3 4 .i64 .i64 [xx, xy, yx, yy] [xx', xy', yx', yy'] Try.underlying46 Try.underlying3 (by simp [go_sem]) (by simp [go_sem]) rfl rfl
  simp [go_sem, h, ptR]
  clear h
  by_cases e0 : f = f'
  case neg => simp [e0]
  subst e0
  by_cases e1 : i = i'
  case neg => simp [e1]
  subst e1
  by_cases e2 : x = x'
  case neg => simp [e2]
  subst e2
  by_cases e3 : y = y'
  case neg => simp [e3]
  subst e3
  by_cases e4 : xx = xx'
  case neg => simp [e4]
  subst e4
  by_cases e5 : xy = xy'
  case neg => simp [e5]
  subst e5
  by_cases e6 : yx = yx'
  case neg => simp [e6]
  subst e6
  by_cases e7 : yy = yy'
  case neg => simp [e7]
  subst e7
  simp

theorem cgSame_box {a b : Cg} (h : sameCBox a b = false) : cgSame a b = false := by simp [cgSame, h]
theorem cgSame_not {a b : Cg} (h : a ≠ b) : cgSame a b = false := by
  cases hg : cgSame a b
  · rfl
  · exact absurd (cgSame_eq hg) h

set_option maxRecDepth 100000 in
set_option maxHeartbeats 4000000 in
theorem rsame13_any (v u : RcV) (w : World) (hv : v.rows w) (hu : u.rows w) (a1 : v.q ≤ 1000000) (a2 : v.pn ≤ 1000000) (b1 : u.q ≤ 1000000) (b2 : u.pn ≤ 1000000) :
    Calls Try.prog 29 #[v.val, u.val] w (Ret w (.bool (cgSame v.g u.g))) := by
  have hA1 := (Below.refl w.heap.size w).alloc (Nat.le_refl _) (.cells v.cells 49)
  have hA := hA1.alloc (hA1.size) (.cells u.cells 49)
  have hk1 : ((w.alloc (.cells v.cells 49)).alloc (.cells u.cells 49)).heap[w.heap.size]? = some (.cells v.cells 49 (0, 0)) := kept_alloc (heap_alloc_new w _) _
  have hk2 : ((w.alloc (.cells v.cells 49)).alloc (.cells u.cells 49)).heap[w.heap.size + 1]? = some (.cells u.cells 49 (0, 0)) := by
    have := heap_alloc_new (w.alloc (.cells v.cells 49)) (.cells u.cells 49)
    rwa [show (w.alloc (.cells v.cells 49)).heap.size = w.heap.size + 1 by simp] at this
  have hps := (hv.below hA).ps
  have hqs := (hu.below hA).ps
  have HP : Hid (∀ W, Below w.heap.size w W → Calls Try.prog 25 #[.slice v.PA v.pn v.pc, .slice u.PA u.pn u.pc] W (Quiet W (.bool (sameB v.g.pr u.g.pr)))) := fun W hW => same_any _ _ _ _ _ _ _ _ W (hv.below hW).pr (hu.below hW).pr (by omega) (by omega)
  have HS : Hid (v.g.ps.length = v.q) := hv.ps.len
  have HT : Hid (u.g.ps.length = u.q) := hu.ps.len
  clear hv hu hA1
  unfold RcV.val at *
  unfold RcV.cells at *
  obtain ⟨⟨x0, x1, x2, x3, ps, pr⟩, QA, q, qc, PA, pn, pc⟩ := v
  obtain ⟨⟨y0, y1, y2, y3, qs, qr⟩, QB, q', qc', PB, pn', pc'⟩ := u
  simp only at *
  obtain ⟨c0, c1, c2, c3, c4, c5⟩ := cells6 hk1
  obtain ⟨d0, d1, d2, d3, d4, d5⟩ := cells6 hk2
  have eb := fun W => run_neq_cbox4 x0 x1 x2 x3 y0 y1 y2 y3 W
  clear hk1 hk2
  go_enter Try.func29, Try.ntmps29
  cases hbx : decide ([x0, x1, x2, x3] = [y0, y1, y2, y3]) with
  | false =>
    rw [hbx] at eb
    go_wp2
    go_ret
    exact ⟨by rw [cgSame_box (a := ⟨x0, x1, x2, x3, ps, pr⟩) (b := ⟨y0, y1, y2, y3, qs, qr⟩) hbx]; rfl, hA⟩
  | true =>
    rw [hbx] at eb
    by_cases hq : q = q'
    · subst hq
      have HNe : Hid (∀ {j : Nat} {x y : Pt}, x ≠ y → ps[j]? = some x → qs[j]? = some y → cgSame ⟨x0, x1, x2, x3, ps, pr⟩ ⟨y0, y1, y2, y3, qs, qr⟩ = false) := fun {j x y} h1 h2 h3 => cgSame_not (fun h => by
        rw [show ps = qs from congrArg Cg.ps h, h3] at h2
        exact h1 (Option.some.inj h2).symm)
      have HBx := Lib.hid hbx
      have hne : ((q : Int) != (q : Int)) = false := by simp
      have H2 := Lib.hid (HP.out _ hA)
      clear HP
      go_wp2_with fail
      generalize (w.alloc _).alloc _ = V at *
      have hA0 := Lib.hid hA
      with_reducible refine H2.out.mono ?_
      rintro e w1 ⟨rfl, q1, rfl⟩
      have hA2 := below_drewN hA q1
      clear H2 hA hne
      cases h2 : sameB pr qr with
      | false =>
        go_wp2
        go_ret
        refine ⟨?_, hA2⟩
        rw [cgSame_not (fun h => by rw [show pr = qr from congrArg Cg.pr h] at h2; simp [sameB] at h2)]
        rfl
      | true =>
        have HEq : Hid (ps = qs → cgSame ⟨x0, x1, x2, x3, ps, pr⟩ ⟨y0, y1, y2, y3, qs, qr⟩ = true) := fun h4 => by
          subst h4
          have := HBx.out
          simp only [cgSame, sameCBox, h2]
          rw [this]
          simp [samePts]
        go_wp2_with fail
        clear eb hA2
        go_loopw [31] (fun i wr => ∃ j t : Nat, j ≤ q ∧ i = .int .i64 j ∧ ps.take j = qs.take j ∧ wr = V.drewN t) (fun i _ => q - (intOf i).toNat)
        case atStart => exact ⟨0, _, Nat.zero_le _, rfl, by simp, rfl⟩
        case round =>
          obtain ⟨j, t, hj, rfl, hp, rfl⟩ := hrel
          have Hp := Lib.hid hp
          clear hp
          have hA2 := below_drewN hA0.out t
          by_cases hlt : j < q
          · obtain ⟨x, ex⟩ : ∃ p, ps[j]? = some p := ⟨ps[j]'(by have := HS.out; omega), List.getElem?_eq_getElem (by have := HS.out; omega)⟩
            obtain ⟨y, ey⟩ : ∃ p, qs[j]? = some p := ⟨qs[j]'(by have := HT.out; omega), List.getElem?_eq_getElem (by have := HT.out; omega)⟩
            obtain ⟨g, off, rfl, hg, a0, a1, a2, a3, a4, a5, a6, a7⟩ := atRt hps ex
            obtain ⟨g', off', rfl, hg', r0, r1, r2, r3, r4, r5, r6, r7⟩ := atRt hqs ey
            have Ex := Lib.hid ex
            have Ey := Lib.hid ey
            have i0 : (0 : Int) ≤ (j : Int) := by omega
            have i1 : (j : Int) < (q : Int) := by omega
            clear ex ey
            have heq := fun W => eq_rt x y W
            unfold ptR at heq
            by_cases he : x = y
            · rw [decide_eq_true he] at heq
              have hxy := Lib.hid he
              clear he
              have HT2 : Hid (ps.take (j + 1) = qs.take (j + 1)) := by show _ = _; rw [List.take_add_one, List.take_add_one, Ex.out, Ey.out, Hp.out, hxy.out]
              clear hxy
              obtain ⟨x0, x1, x2, x3, x4, x5, x6, x7⟩ := x
              obtain ⟨y0, y1, y2, y3, y4, y5, y6, y7⟩ := y
              simp only at *
              go_wp2
              go_quiet (fail)
              go_wp2
              go_roundw
              case rel => exact ⟨j + 1, _, by omega, by go_num, (HT2.out : _), by first | rfl | (rw [World.drewN_drewN])⟩
              case measure => simp [intOf]; omega
            · have hno := Lib.hid (HNe.out he Ex.out Ey.out)
              rw [decide_eq_false he] at heq
              clear he
              obtain ⟨x0, x1, x2, x3, x4, x5, x6, x7⟩ := x
              obtain ⟨y0, y1, y2, y3, y4, y5, y6, y7⟩ := y
              simp only at *
              go_wp2
              go_quiet (fail)
              go_wp2
              go_ret
              exact ⟨by rw [hno.out]; rfl, by first | exact hA2 | exact hA2.drew | exact below_drewN (below_drewN hA0.out _) _⟩
          · obtain rfl : j = q := by omega
            go_wp2
            go_ret
            refine ⟨?_, hA2⟩
            have hpq : ps = qs := by
              have hp := Hp.out
              rwa [List.take_of_length_le (by have := HS.out; omega), List.take_of_length_le (by have := HT.out; omega)] at hp
            rw [HEq.out hpq]
            rfl
    · have hne : ((q : Int) != (q' : Int)) = true := by simp; omega
      go_wp2
      go_ret
      refine ⟨?_, hA⟩
      rw [cgSame_not (fun h => hq (by rw [← HS.out, ← HT.out, show ps = qs from congrArg Cg.ps h]))]
      rfl

end Go.Proofs.Ytgafjieghckimaa

namespace Go.Proofs.Ytgafjieghckimaa
open Go.RowKit
set_option linter.unusedVariables false
set_option linter.unusedSimpArgs false

set_option maxRecDepth 1000000 in
set_option maxHeartbeats 8000000 in
theorem law_CompoParses (A : Option Addr) (n c : Nat) (zs : List Int) (w : World) (hr : Row w A n (cellsOf .u8 zs)) (hB : Bytes zs) (hn : n ≤ 9223372036854775807) :
    Calls Try.prog 5 #[.slice A n c] w (True_ w) := by
  have HAw := Lib.hid (awake13_any w)
  have HC : Hid (∀ W, Below w.heap.size w W → Calls Try.prog 21 #[.slice A n c, .int .i64 200] W (RetB W (zs.take (200 : Int).toNat))) := fun W hW => cut_any _ _ _ zs 200 W (hr.below hW) hn (by omega)
  have HBt : Hid (Bytes (zs.take (200 : Int).toNat)) := cut_bytes hB _
  have HLt : Hid ((zs.take (200 : Int).toNat).length ≤ 200) := by show _ ≤ _; rw [List.length_take]; simp; omega
  clear hr hB
  go_enter Try.func5, Try.ntmps5
  go_wp2_with fail
  with_reducible refine HAw.out.mono ?_
  rintro e w0 ⟨rfl, hb0⟩
  have HC0 := Lib.hid (HC.out w0 hb0)
  clear HAw HC
  go_wp2_with fail
  with_reducible refine HC0.out.mono ?_
  rintro e w1 ⟨A2, n2, c2, rfl, hown, hb1'⟩
  have hb1 : Below w.heap.size w w1 := hb0.trans (hb1'.mono hb0.size)
  have hrow := hown.row
  have hl2 := hown.len
  have hc2 := hown.cap
  generalize zs.take (200 : Int).toNat = ps at *
  have hn2 : n2 ≤ 200 := by have := HLt.out; omega
  have HPa := Lib.hid (cparse_any A2 n2 c2 ps w1 hrow HBt.out (by omega) hc2)
  clear HC0 hb1' hb0 hown
  go_wp2_with fail
  with_reducible refine HPa.out.mono ?_
  rintro e w2 ⟨hb2, hway⟩
  have hbw2 := hb1.trans (hb2.mono hb1.size)
  rcases hway with ⟨hno, rfl⟩ | ⟨hyes, v, rfl, hvr, hvg, hvo, hvq⟩
  · have hA := (Below.refl w2.heap.size w2).alloc (Nat.le_refl _) (.cells #[.int .i16 0, .int .i16 0, .int .i16 0, .int .i16 0, .slice none 0 0, .slice none 0 0] 34)
    have hk := heap_alloc_new w2 (.cells #[.int .i16 0, .int .i16 0, .int .i16 0, .int .i16 0, .slice none 0 0, .slice none 0 0] 34)
    have hbw3 := hbw2.trans (hA.mono hbw2.size)
    have hb13 := hb2.trans (hA.mono hb2.size)
    clear HPa hb2 hbw2 hA
    unfold CgV.val CgV.cells cg0
    simp only
    go_upto_region 5 with fail
    generalize w2.alloc _ = w3 at *
    have HRp := Lib.hid (rparse13_any A2 n2 c2 ps w3 (hrow.below hb13) HBt.out (by omega) hc2)
    go_wp2_with fail
    with_reducible refine HRp.out.mono ?_
    rintro e w4 ⟨hb4, hway⟩
    rcases hway with ⟨_, rfl⟩ | ⟨hyes, _⟩
    case inr => rw [hno] at hyes; cases hyes
    have hk4 := kept_block hk hb4
    have hA5 := (Below.refl w4.heap.size w4).alloc (Nat.le_refl _) (.cells #[.int .i64 0, .int .i64 0, .int .i64 0, .int .i64 0, .slice none 0 0, .slice none 0 0] 49)
    have hk5 := kept_block hk4 hA5
    have hnew5 := heap_alloc_new w4 (.cells #[.int .i64 0, .int .i64 0, .int .i64 0, .int .i64 0, .slice none 0 0, .slice none 0 0] 49)
    have hbw5 := (hbw3.trans (hb4.mono hbw3.size)).trans (hA5.mono (hbw3.trans (hb4.mono hbw3.size)).size)
    clear HRp hb4 hk hk4 hA5 hbw3 hb13 hrow
    unfold rz6
    go_upto_region 6 with fail
    clear hnew5
    generalize w4.alloc _ = w5 at *
    obtain ⟨c0, c1, c2', c3, c4, c5⟩ := cells6 hk5
    have HS : Hid (Calls Try.prog 27 #[.agg #[.int .i16 0, .int .i16 0, .int .i16 0, .int .i16 0, .slice none 0 0, .slice none 0 0], .agg #[.int .i16 0, .int .i16 0, .int .i16 0, .int .i16 0, .slice none 0 0, .slice none 0 0]] w5 (Ret w5 (.bool true))) := by
      have h := csame_any cg0 cg0 w5 ⟨RowS.empty _ _, Row.empty _ _⟩ ⟨RowS.empty _ _, Row.empty _ _⟩ (by show (0 : Nat) ≤ 1000000; omega) (by show (0 : Nat) ≤ 1000000; omega) (by show (0 : Nat) ≤ 1000000; omega) (by show (0 : Nat) ≤ 1000000; omega) (fun x hx => by cases hx) (fun x hx => by cases hx)
      rw [cgSame_refl] at h
      exact h
    go_wp2_with fail
    with_reducible refine HS.out.mono ?_
    rintro e w6 ⟨rfl, hb6⟩
    go_wp2
    go_ret
    exact ⟨rfl, hbw5.trans (hb6.mono hbw5.size)⟩
  · have hRr : cRight (cgRd ps 2) = true := by
      unfold cOk at hyes
      simp only [Bool.and_eq_true] at hyes
      exact hyes.2
    have hle : cgEnd ps 2 ≤ ps.length := by
      unfold cOk at hyes
      simp only [Bool.and_eq_true, decide_eq_true_eq] at hyes
      exact hyes.1.2
    have hinv := cB_inv HBt.out hyes
    obtain ⟨en, hen⟩ : ∃ en, cgEnd ps 2 = en := ⟨_, rfl⟩
    rw [hen] at hle hinv ⊢
    have hpn : v.pn = v.g.pr.length := hvr.pr.len.symm
    have hpn1 : v.pn ≤ 65535 := by
      obtain ⟨_, _, h3, _⟩ := cRight_parts hRr
      rw [hpn, hvg]
      exact h3
    have hA := (Below.refl w2.heap.size w2).alloc (Nat.le_refl _) (.cells v.cells 34)
    have hk := heap_alloc_new w2 (.cells v.cells 34)
    have hnew := heap_alloc_new w2 (.cells #[.int .i16 0, .int .i16 0, .int .i16 0, .int .i16 0, .slice none 0 0, .slice none 0 0] 34)
    have hbw3 := hbw2.trans (hA.mono hbw2.size)
    have hb13 := hb2.trans (hA.mono hb2.size)
    have hvr3 := hvr.below hA
    have HVo := Lib.hid hvo
    have HVg := Lib.hid hvg
    have HVq := Lib.hid hvq
    have HPn := Lib.hid hpn1
    have HRr := Lib.hid hRr
    have HInv := Lib.hid hinv
    have HEn := Lib.hid hen
    have HYes := Lib.hid hyes
    clear HPa hb2 hbw2 hA hvr hvo hvg hvq hpn hpn1 hRr hinv hen hyes
    obtain ⟨⟨x0, x1, x2, x3, qs, pr⟩, QA, q, qc, PA, pn, pc⟩ := v
    simp only [CgV.val, CgV.cells] at *
    go_upto_region 5 with fail
    clear hnew
    generalize w2.alloc _ = w3 at *
    have HRp := Lib.hid (rparse13_any A2 n2 c2 ps w3 (hrow.below hb13) HBt.out (by omega) hc2)
    go_wp2_with fail
    with_reducible refine HRp.out.mono ?_
    rintro e w4 ⟨hb4, hway⟩
    rcases hway with ⟨hno, _⟩ | ⟨_, u, rfl, hur, hug, huo, huq, hup⟩
    case inl => rw [HYes.out] at hno; cases hno
    rw [HEn.out]
    have hk4 := kept_block hk hb4
    have hA5 := (Below.refl w4.heap.size w4).alloc (Nat.le_refl _) (.cells u.cells 49)
    have hk5 := kept_block hk4 hA5
    have hku := heap_alloc_new w4 (.cells u.cells 49)
    have hnew5 := heap_alloc_new w4 (.cells #[.int .i64 0, .int .i64 0, .int .i64 0, .int .i64 0, .slice none 0 0, .slice none 0 0] 49)
    have hur5 := hur.below hA5
    have hb35 := hb4.trans (hA5.mono hb4.size)
    have hvr5 := hvr3.below hb35
    have hbw5 := hbw3.trans (hb35.mono hbw3.size)
    have hrow5 := (hrow.below hb13).below hb35
    have HUg := Lib.hid hug
    have HUq := Lib.hid huq
    have HUp := Lib.hid hup
    have hw35 := lt_of_block hk5
    clear HRp hb4 hk hk4 hA5 hbw3 hb13 hrow hur hb35 hvr3 hug huo huq hup
    obtain ⟨⟨y0, y1, y2, y3, rs, pt⟩, QB, t, tc, PB, rn, rc⟩ := u
    simp only [RcV.val, RcV.cells] at *
    go_upto_region 8 with fail
    clear hnew5
    generalize w4.alloc _ = w5 at *
    generalize w4.heap.size = bu at *
    generalize w2.heap.size = bv at *
    have hrowT : Row w5 A2 en (cellsOf .u8 (ps.take en)) := by
      have h := hrow5.take (k := en) (by omega)
      rw [cellsOf_take] at h
      exact h
    have e1 : ((en : Int) == (en : Int)) = true := by simp
    have e2 : (0 : Int) ≤ (en : Int) := by omega
    have e3 : (en : Int) ≤ (c2 : Int) := by omega
    have HOw : Hid (∀ W, Ext w5.drew W → Calls Try.prog 23 #[.agg #[.int .i16 x0, .int .i16 x1, .int .i16 x2, .int .i16 x3, .slice QA q qc, .slice PA pn pc]] W (RetCOwn W ⟨⟨x0, x1, x2, x3, qs, pr⟩, QA, q, qc, PA, pn, pc⟩)) := fun W hW => cown_any ⟨⟨x0, x1, x2, x3, qs, pr⟩, QA, q, qc, PA, pn, pc⟩ W ((hvr5.below (Below.refl _ _).drew).below hW) (by show q ≤ 1000000; have := HVq.out; omega) HVo.out
    have HBy : Hid (∀ W, Ext w5.drew W → Calls Try.prog 17 #[.agg #[.int .i16 x0, .int .i16 x1, .int .i16 x2, .int .i16 x3, .slice QA q qc, .slice PA pn pc]] W (RetB W (ps.take en))) := fun W hW => by
      have h := cbytes_any ⟨⟨x0, x1, x2, x3, qs, pr⟩, QA, q, qc, PA, pn, pc⟩ W ((hvr5.below (Below.refl _ _).drew).below hW) (by show q ≤ 1000000; have := HVq.out; omega) (by show pn ≤ 1000000; have := HPn.out; omega) HVo.out
      have e : cBytes ⟨x0, x1, x2, x3, qs, pr⟩ = ps.take en := by
        unfold cBytes
        rw [HVg.out, HRr.out, if_pos rfl]
        exact HInv.out
      rw [show CgV.g ⟨⟨x0, x1, x2, x3, qs, pr⟩, QA, q, qc, PA, pn, pc⟩ = ⟨x0, x1, x2, x3, qs, pr⟩ from rfl, e] at h
      exact h
    obtain ⟨v0, v1, v2, v3, v4, v5⟩ := cells6 (w := w5.drew) hk5
    obtain ⟨u0, u1, u2, u3, u4, u5⟩ := cells6 (w := w5.drew) hku
    have hurd := hur5.below (Below.refl _ w5).drew
    have hrd := hrowT.below (Below.refl _ w5).drew
    refine regF_start (by kernel_rfl) ?_
    refine regF_take (i := 0) (d := some 38) (v := ?_) (Ext.refl _) rfl rfl (by kernel_rfl) (by kernel_rfl) (by kernel_rfl) (fun _ _ _ h => h) (Or.inl ⟨by rfl, ?_⟩) ?_
    rotate_left
    · intro w' hx; (go_simp <;> with_reducible rfl)
    simp only [Act.put, List.setIfInBounds_toArray, List.set_cons_zero, List.set_cons_succ]
    refine regF_take (i := 1) (d := some 39) (v := ?_) (Ext.refl _) rfl rfl (by kernel_rfl) (by kernel_rfl) (by kernel_rfl) (fun _ _ _ h => h) (Or.inl ⟨by rfl, ?_⟩) ?_
    rotate_left
    · intro w' hx; (go_simp <;> with_reducible rfl)
    simp only [Act.put, List.setIfInBounds_toArray, List.set_cons_zero, List.set_cons_succ]
    refine regF_take (i := 2) (d := some 40) (v := ?_) (Ext.refl _) rfl rfl (by kernel_rfl) (by kernel_rfl) (by kernel_rfl) (fun _ _ _ h => h) (Or.inl ⟨by rfl, ?_⟩) ?_
    rotate_left
    · intro w' hx; (go_simp <;> with_reducible rfl)
    simp only [Act.put, List.setIfInBounds_toArray, List.set_cons_zero, List.set_cons_succ]
    refine regF_take (i := 3) (d := some 41) (v := ?_) (Ext.refl _) rfl rfl (by kernel_rfl) (by kernel_rfl) (by kernel_rfl) (fun _ _ _ h => h) (Or.inl ⟨by rfl, ?_⟩) ?_
    rotate_left
    · intro w' hx; (go_simp <;> with_reducible rfl)
    simp only [Act.put, List.setIfInBounds_toArray, List.set_cons_zero, List.set_cons_succ]
    refine regF_take (i := 4) (d := some 42) (v := ?_) (Ext.refl _) rfl rfl (by kernel_rfl) (by kernel_rfl) (by kernel_rfl) (fun _ _ _ h => h) (Or.inl ⟨by rfl, ?_⟩) ?_
    rotate_left
    · intro w' hx; (go_simp <;> with_reducible rfl)
    simp only [Act.put, List.setIfInBounds_toArray, List.set_cons_zero, List.set_cons_succ]
    refine regF_take (i := 5) (d := some 43) (v := ?_) (Ext.refl _) rfl rfl (by kernel_rfl) (by kernel_rfl) (by kernel_rfl) (fun _ _ _ h => h) (Or.inl ⟨by rfl, ?_⟩) ?_
    rotate_left
    · intro w' hx; (go_simp <;> with_reducible rfl)
    simp only [Act.put, List.setIfInBounds_toArray, List.set_cons_zero, List.set_cons_succ]
    refine regF_take (i := 6) (d := some 44) (v := ?_) (Ext.refl _) rfl rfl (by kernel_rfl) (by kernel_rfl) (by kernel_rfl) (fun _ _ _ h => h) (Or.inl ⟨by rfl, ?_⟩) ?_
    rotate_left
    · intro w' hx; (go_simp <;> with_reducible rfl)
    simp only [Act.put, List.setIfInBounds_toArray, List.set_cons_zero, List.set_cons_succ]
    refine regF_take (i := 7) (d := some 45) (v := ?_) (Ext.refl _) rfl rfl (by kernel_rfl) (by kernel_rfl) (by kernel_rfl) (fun _ _ _ h => h) (Or.inl ⟨by rfl, ?_⟩) ?_
    rotate_left
    · intro w' hx; (go_simp <;> with_reducible rfl)
    simp only [Act.put, List.setIfInBounds_toArray, List.set_cons_zero, List.set_cons_succ]
    refine regF_take (i := 8) (d := some 46) (v := ?_) (Ext.refl _) rfl rfl (by kernel_rfl) (by kernel_rfl) (by kernel_rfl) (fun _ _ _ h => h) (Or.inl ⟨by rfl, ?_⟩) ?_
    rotate_left
    · intro w' hx; have r0 := hx.cell v0; have r1 := hx.cell v1; have r2 := hx.cell v2; have r3 := hx.cell v3; have r4 := hx.cell v4; have r5 := hx.cell v5; (go_simp <;> with_reducible rfl)
    simp only [Act.put, List.setIfInBounds_toArray, List.set_cons_zero, List.set_cons_succ]
    refine regF_take (i := 10) (d := some 48) (v := ?_) (Ext.refl _) rfl rfl (by kernel_rfl) (by kernel_rfl) (by kernel_rfl) (fun _ _ _ h => h) (Or.inl ⟨by rfl, ?_⟩) ?_
    rotate_left
    · intro w' hx; have r0 := hx.cell u0; have r1 := hx.cell u1; have r2 := hx.cell u2; have r3 := hx.cell u3; have r4 := hx.cell u4; have r5 := hx.cell u5; (go_simp <;> with_reducible rfl)
    simp only [Act.put, List.setIfInBounds_toArray, List.set_cons_zero, List.set_cons_succ]
    refine regF_one 9 _ (by kernel_rfl) rfl ?_
    intro K hK
    go_simp
    refine (HOw.out _ (Ext.refl _)).mono ?_
    rintro e W6 ⟨r, rfl, hrr, hrg, hrq, hrn, hb6⟩
    have hX6 : Ext w5.drew W6 := (Ext.refl w5.drew).call hb6
    have HSm := Lib.hid (rsame13_any r ⟨⟨y0, y1, y2, y3, rs, pt⟩, QB, t, tc, PB, rn, rc⟩ W6 hrr (hurd.below hX6) (by rw [hrq]; show q ≤ 1000000; have := HVq.out; omega) (by rw [hrn]; show pn ≤ 1000000; have := HPn.out; omega) (by show t ≤ 1000000; have := HUq.out; omega) (by show rn ≤ 1000000; have := HUp.out; omega))
    have hsg : cgSame r.g ⟨y0, y1, y2, y3, rs, pt⟩ = true := by
      have h1 : r.g = ⟨x0, x1, x2, x3, qs, pr⟩ := hrg
      rw [h1, show (⟨x0, x1, x2, x3, qs, pr⟩ : Cg) = cgRd ps 2 from HVg.out, show (⟨y0, y1, y2, y3, rs, pt⟩ : Cg) = cgRd ps 2 from HUg.out, cgSame_refl]
    have HSm2 : Hid (Calls Try.prog 29 #[r.val, .agg #[.int .i64 y0, .int .i64 y1, .int .i64 y2, .int .i64 y3, .slice QB t tc, .slice PB rn rc]] W6 (Ret W6 (.bool true))) := by
      have h := HSm.out
      rw [show RcV.g ⟨⟨y0, y1, y2, y3, rs, pt⟩, QB, t, tc, PB, rn, rc⟩ = ⟨y0, y1, y2, y3, rs, pt⟩ from rfl, hsg] at h
      exact h
    clear HSm hsg hrg hrq hrn hrr
    refine hK.out _ _ hX6 ?_
    clear hK K
    refine regF_one 11 _ (by kernel_rfl) rfl ?_
    intro K hK
    go_simp
    refine (HSm2.out).mono ?_
    rintro e W7 ⟨rfl, hb7⟩
    have hX7 : Ext w5.drew W7 := hX6.call hb7
    refine hK.out _ _ hX7 ?_
    clear hK K
    refine regF_take (i := 12) (d := some 50) (v := ?_) hX7 rfl rfl (by kernel_rfl) (by kernel_rfl) (by kernel_rfl) (fun _ _ _ h => h) (Or.inl ⟨by rfl, ?_⟩) ?_
    rotate_left
    · intro w' hx; (go_simp <;> with_reducible rfl)
    simp only [Act.put, List.setIfInBounds_toArray, List.set_cons_zero, List.set_cons_succ]
    refine regF_take (i := 13) (d := some 51) (v := ?_) hX7 rfl rfl (by kernel_rfl) (by kernel_rfl) (by kernel_rfl) (fun _ _ _ h => h) (Or.inl ⟨by rfl, ?_⟩) ?_
    rotate_left
    · intro w' hx; (go_simp <;> with_reducible rfl)
    simp only [Act.put, List.setIfInBounds_toArray, List.set_cons_zero, List.set_cons_succ]
    refine regF_take (i := 14) (d := some 52) (v := ?_) hX7 rfl rfl (by kernel_rfl) (by kernel_rfl) (by kernel_rfl) (fun _ _ _ h => h) (Or.inl ⟨by rfl, ?_⟩) ?_
    rotate_left
    · intro w' hx; have r0 := hx.cell v0; have r1 := hx.cell v1; have r2 := hx.cell v2; have r3 := hx.cell v3; have r4 := hx.cell v4; have r5 := hx.cell v5; (go_simp <;> with_reducible rfl)
    simp only [Act.put, List.setIfInBounds_toArray, List.set_cons_zero, List.set_cons_succ]
    refine regF_take (i := 16) (d := some 54) (v := ?_) hX7 rfl rfl (by kernel_rfl) (by kernel_rfl) (by kernel_rfl) (fun _ _ _ h => h) (Or.inl ⟨by rfl, ?_⟩) ?_
    rotate_left
    · intro w' hx; (go_simp <;> with_reducible rfl)
    simp only [Act.put, List.setIfInBounds_toArray, List.set_cons_zero, List.set_cons_succ]
    refine regF_take (i := 17) (d := some 55) (v := ?_) hX7 rfl rfl (by kernel_rfl) (by kernel_rfl) (by kernel_rfl) (fun _ _ _ h => h) (Or.inl ⟨by rfl, ?_⟩) ?_
    rotate_left
    · intro w' hx; (go_simp <;> with_reducible rfl)
    simp only [Act.put, List.setIfInBounds_toArray, List.set_cons_zero, List.set_cons_succ]
    refine regF_take (i := 18) (d := some 56) (v := ?_) hX7 rfl rfl (by kernel_rfl) (by kernel_rfl) (by kernel_rfl) (fun _ _ _ h => h) (Or.inl ⟨by rfl, ?_⟩) ?_
    rotate_left
    · intro w' hx; (go_simp <;> with_reducible rfl)
    simp only [Act.put, List.setIfInBounds_toArray, List.set_cons_zero, List.set_cons_succ]
    refine regF_one 15 _ (by kernel_rfl) rfl ?_
    intro K hK
    go_simp
    refine (HBy.out _ hX7).mono ?_
    rintro e W8 ⟨A8, n8, c8, rfl, hown8, hb8⟩
    have hX8 : Ext w5.drew W8 := hX7.call hb8
    have HSs := Lib.hid (same_any A8 A2 n8 c8 en c2 _ _ W8 hown8.row (hrd.below hX8) (by have := hown8.len; rw [List.length_take] at this; omega) (by omega))
    rw [sameB_refl] at HSs
    clear hown8
    refine hK.out _ _ hX8 ?_
    clear hK K
    refine regF_one 19 _ (by kernel_rfl) rfl ?_
    intro K hK
    go_simp
    refine (HSs.out).mono ?_
    rintro e W9 ⟨rfl, q9, rfl⟩
    have hX9 : Ext w5.drew (W8.drewN q9) := below_drewN hX8 q9
    refine hK.out _ _ hX9 ?_
    clear hK K
    refine regF_take (i := 20) (d := some 58) (v := ?_) hX9 rfl rfl (by kernel_rfl) (by kernel_rfl) (by kernel_rfl) (fun _ _ _ h => h) (Or.inl ⟨by rfl, ?_⟩) ?_
    rotate_left
    · intro w' hx; (go_simp <;> with_reducible rfl)
    simp only [Act.put, List.setIfInBounds_toArray, List.set_cons_zero, List.set_cons_succ]
    refine regF_one 21 _ (by kernel_rfl) rfl ?_
    intro K hK
    go_simp
    refine hK.out _ _ hX9 ?_
    clear hK K
    refine wpAnyH_done (by kernel_rfl) ?_ _
    go_wp2
    go_ret
    exact ⟨rfl, hbw5.drew.trans (Below.mono hX9 hbw5.size)⟩

end Go.Proofs.Ytgafjieghckimaa

namespace Go.Proofs.Ytgafjieghckimaa.compoParses
open Go.ChangeShapes Go.WideShapes Go.ChangeAt Go.RowKit
open Go.ChangeMaps (open_string shut_string)
set_option linter.unusedVariables false

theorem own : ownKnob Try.prog.godebug = none := by kernel_rfl
theorem laidOut : laidOutB Try.prog = true := by kernel_rfl

set_option maxRecDepth 100000 in
theorem lifted (os : Os) (started : os.Started) (H : Type) (enc : TypeId × Value → H) :
    ReturnsInHanded {} Try.checked os 5 .any (Rows.compoParsesSpec.pre6 enc Try.prog Try.f5 Rows.compoParsesRow.domain false) (Rows.compoParsesSpec.post enc Try.prog Try.f5 false true false false) := by
  refine returnsInHanded_of_change (C := Try.checked) own started (by kernel_rfl) Try.func5
    (ChangeSpec.witness6 (enc := enc) (C := Try.checked) false ⟨#[], #[.slice none 0 0], []⟩ 8 (by kernel_rfl) (by kernel_rfl) (by kernel_rfl) (by kernel_rfl)) ?_
  intro W base args ds gs before hval0 hW hcnd _
  have hval : ∀ (j : Nat) t v, Try.f5.params[j]? = some t → args[j]? = some v → Value.okWide Try.prog W .any base t v := hval0
  have hW' := hW
  obtain ⟨p, q, hA0, hV, rfl, hfz, hnd⟩ := hW
  have hA : DataW.TrodAll enc Try.prog W 0 (fun _ => true) true Try.f5.params.toList args.toList ds p := hA0
  rw [Try.params5] at hA hval
  obtain ⟨v0, vs0, d0, ds0, p0, q0, hargs, rfl, rfl, h0, r0⟩ := trodAll_cons hA
  obtain ⟨rfl, rfl, rfl⟩ := trodAll_nil r0
  obtain rfl : args = #[v0] := by cases args; simp_all
  obtain ⟨rfl, rfl⟩ := trodVars_none hV
  have k0 := h0
  have lt0 : ∀ x ∈ p0, x.block < W.heap.size := by obtain ⟨m, hm⟩ := k0; exact DataW.trod_lt m _ _ _ hm
  obtain ⟨A0, n0, c0, z0, rfl, hr0, hB0, hn0⟩ := open_bs (hval 0 32 v0 rfl rfl) k0
  clear hA0 hval0
  refine (law_CompoParses A0 n0 c0 z0 W hr0 hB0 hn0).mono fun e W' ⟨he, bel⟩ => ?_
  subst he
  exact ⟨_, rfl, _, _, _, [], _, [], hW', trodAll_mk1 (shut_bool Try.underlying4 _), (trodAll_cons_mk (Below.trod laidOut (by kernel_rfl) (of_decide_eq_true (by kernel_rfl)) k0 bel lt0) trodAll_mk0), rfl, bel.frame _, fun h => by cases h⟩

theorem over : Rows.compoParsesRow.holds Try.pinned (OpenSpec.ofChange Rows.compoParsesSpec) :=
  OpenClaim.holds_of_wide 5 Try.f5 rfl rfl rfl rfl rfl rfl rfl ⟨rfl, rfl, rfl, rfl, rfl⟩ rfl rfl rfl rfl rfl (by kernel_rfl) Try.func5 (by kernel_rfl)
    (of_decide_eq_true (by kernel_rfl)) (by unfold Func.isWrapper; first | (rw [if_pos (by decide +kernel)]; kernel_rfl) | (rw [if_neg (by decide +kernel)]; exact ⟨rfl, rfl⟩))
    (fun os started H enc _ => lifted os started H enc)

theorem proved : Rows.CompoParsesSaid := over
#print axioms proved
end Go.Proofs.Ytgafjieghckimaa.compoParses
