/- any outline that may be has the bytes that the document tells, of which it is read again, whatever stands behind; one that may not be has none -/
import Derived.Test.YtlcnonhebppeiaaRows
import Derived.WalkKit
import Derived.ProofKit
import Derived.OpenShut
import Derived.ShutString
import Derived.ChangeOld
import Derived.Below
import Derived.Lib.SmallJoins
import Derived.Test.YtlcnonhebppeiaaBase4
import Derived.Test.YtlcnonhebppeiaaBase5
import Derived.Test.YtlcnonhebppeiaaBase8
import Derived.Test.YtlcnonhebppeiaaBase9

namespace Go.Proofs.Ytlcnonhebppeiaa
open Go.RowKit
set_option linter.unusedVariables false
set_option linter.unusedSimpArgs false

theorem oB_len {g : Gl} (h1 : g.es.length ≤ 10000) (h2 : g.pr.length ≤ 10000) (h3 : g.ps.length ≤ 10000) : (oB g).length ≤ 98000 ∧ 0 < (oB g).length := by
  have a1 := rle_len (fls g.ps)
  have a2 := cbs_len (chs (xsOf g.ps))
  have a3 := cbs_len (chs (ysOf g.ps))
  unfold fls at a1
  rw [flK_len] at a1
  rw [chs_len, xsOf_len] at a2
  rw [chs_len, ysOf_len] at a3
  unfold oB
  simp only [List.length_append, oFront_len]
  unfold fls
  omega

set_option maxRecDepth 100000 in
set_option maxHeartbeats 8000000 in
theorem law_SimpleForms (x0 x1 x2 x3 : Int) (QA : Option Addr) (q qc : Nat) (ps : List Sp) (SA : Option Addr) (sn sc : Nat) (ss : List Int) (PA : Option Addr) (pn pc : Nat) (pr : List Int) (MA : Option Addr) (mn mc : Nat) (ms : List Int) (w : World)
    (hbx : ∀ x ∈ [x0, x1, x2, x3], -32768 ≤ x ∧ x ≤ 32767) (hq : RowS encSp 3 w QA q ps) (hps : ∀ p ∈ ps, Sp.ok p) (hqc : q ≤ qc) (hqm : q ≤ 9223372036854775807) (hs0 : Row w SA sn (cellsOf .u8 ss)) (hsB : Bytes ss) (hsm : sn ≤ 9223372036854775807)
    (hp : Row w PA pn (cellsOf .u8 pr)) (hpB : Bytes pr) (hpm : pn ≤ 9223372036854775807) (hm : Row w MA mn (cellsOf .u8 ms)) (hmB : Bytes ms) (hmm : mn ≤ 9223372036854775807) :
    Calls Try.prog 3 #[.agg #[.int .i16 x0, .int .i16 x1, .int .i16 x2, .int .i16 x3], .slice QA q qc, .slice SA sn sc, .slice PA pn pc, .slice MA mn mc] w (True_ w) := by
  have hA := (Below.refl w.heap.size w).alloc (Nat.le_refl _) (.cells #[.int .i16 x0, .int .i16 x1, .int .i16 x2, .int .i16 x3] 23)
  have hk := heap_alloc_new w (.cells #[.int .i16 x0, .int .i16 x1, .int .i16 x2, .int .i16 x3] 23)
  have HAw := Lib.hid (awake12_any (w.alloc (.cells #[.int .i16 x0, .int .i16 x1, .int .i16 x2, .int .i16 x3] 23)))
  have HM0 : Hid (∀ W, Below w.heap.size w W → Calls Try.prog 16 #[.agg #[.int .i16 x0, .int .i16 x1, .int .i16 x2, .int .i16 x3], .slice QA q qc, .slice SA sn sc, .slice PA pn pc] W (RetMade W [x0, x1, x2, x3] ps pr)) := fun W hW =>
    made_any x0 x1 x2 x3 QA q qc ps SA sn sc ss PA pn pc pr W hbx (hq.below hW) hps hqc hqm (hs0.below hW) hsB hsm (hp.below hW) hpB hpm
  have HC0 : Hid (∀ W, Below w.heap.size w W → Calls Try.prog 17 #[.slice MA mn mc, .int .i64 20] W (RetB W (ms.take 20))) := fun W hW => cut_any _ _ _ ms 20 W (hm.below hW) hmm (by omega)
  have HMB : Hid (Bytes (ms.take 20)) := fun x hx => hmB x (List.mem_of_mem_take hx)
  have HML : Hid ((ms.take 20).length ≤ 20) := by show _ ≤ _; rw [List.length_take]; omega
  clear hq hps hs0 hsB hp hpB hm hmB hbx
  generalize ms.take 20 = ns at *
  go_enter Try.func3, Try.ntmps3
  go_wp2_with fail
  generalize w.alloc _ = V0 at *
  with_reducible refine HAw.out.mono ?_
  rintro e w0 ⟨rfl, hb0⟩
  have hB0 := hA.trans (hb0.mono hA.size)
  have HM := Lib.hid (HM0.out w0 hB0)
  have hk0 := kept_block hk hb0
  have c0 := cell_of_row _ _ 0 _ _ _ hk0
  have c1 := cell_of_row _ _ 1 _ _ _ hk0
  have c2 := cell_of_row _ _ 2 _ _ _ hk0
  have c3 := cell_of_row _ _ 3 _ _ _ hk0
  simp only [List.getElem?_toArray, List.getElem?_cons_zero, List.getElem?_cons_succ] at c0 c1 c2 c3
  clear HM0 HAw hA hk hb0 hk0
  go_wp2_with fail
  with_reducible refine HM.out.mono ?_
  rintro e w1 ⟨v, rfl, hrows, hok, hfew, -, -, -, h41, h300, h30, hb1, hcap⟩
  have hB1 := hB0.trans (hb1.mono hB0.size)
  have HC := Lib.hid (HC0.out w1 hB1)
  clear HM HC0 c0 c1 c2 c3 hB0 hb1
  go_wp2_with fail
  with_reducible refine HC.out.mono ?_
  rintro e w2 ⟨MB, nn, nc, rfl, hoM, hb2⟩
  have hB2 := hB1.trans (hb2.mono hB1.size)
  have hrows2 := hrows.below hb2
  have hA3 := (Below.refl w2.heap.size w2).alloc (Nat.le_refl _) (.cells v.cells 29)
  have hk3 := heap_alloc_new w2 (.cells v.cells 29)
  have hnew := heap_alloc_new w2 (.cells glZ 29)
  have hB3 := hB2.trans (hA3.mono hB2.size)
  have hrA := hrows2.below hA3
  have hM3 := hoM.row.below hA3
  have hEl : v.g.es.length = v.en := hrows2.es.len
  have hPl : v.g.pr.length = v.pn := hrows2.pr.len
  have hSl : v.g.ps.length = v.sn := hrows2.ps.len
  have HOwn : Hid (∀ W, Below (w2.alloc (.cells v.cells 29)).heap.size (w2.alloc (.cells v.cells 29)) W → Calls Try.prog 20 #[v.val] W (RetOwn W v)) := fun W hW => oown_any v W (hrA.below hW) (by omega) (by omega) hok
  have HRt : Hid (∀ W, Below (w2.alloc (.cells v.cells 29)).heap.size (w2.alloc (.cells v.cells 29)) W → Calls Try.prog 21 #[v.val] W (Ret W (.bool (oRight v.g)))) := fun W hW => oright_any v W (hrA.below hW) hfew hok
  have HBy : Hid (Calls Try.prog 18 #[v.val] (w2.alloc (.cells v.cells 29)) (RetB (w2.alloc (.cells v.cells 29)) (oBytes v.g))) := obytes_any v _ hrA hfew hok
  have HCt : Hid (oRight v.g = false → ∀ W, Below (w2.alloc (.cells v.cells 29)).heap.size (w2.alloc (.cells v.cells 29)) W → Calls Try.prog 22 #[v.val] W (RetCt W v.g)) := fun hn W hW => ocont_no v W (hrA.below hW) hfew hok hn
  have HSm : Hid (∀ (u : GlV) W, Below (w2.alloc (.cells v.cells 29)).heap.size (w2.alloc (.cells v.cells 29)) W → u.rows W → u.g = v.g → Calls Try.prog 27 #[u.val, v.val] W (Ret W (.bool true))) := fun u W hW hu hug => by
    have h1 : u.g.es.length = u.en := hu.es.len
    have h2 : u.g.pr.length = u.pn := hu.pr.len
    have h3 : u.g.ps.length = u.sn := hu.ps.len
    rw [hug] at h1 h2 h3
    have h := osame_any u v W hu (hrA.below hW) (by omega) (by omega) (by omega) (by omega) (by omega) (by omega)
    rw [hug, glSame_refl] at h
    exact h
  have HRR : Hid (∀ (r : RlV) W, r.rows W → r.g = v.g → Calls Try.prog 19 #[r.val] W (Ret W (.bool (oRight v.g)))) := fun r W hr hrg => by
    have h1 : r.g.es.length = r.n := hr.es.len
    have h2 : r.g.pr.length = r.pn := hr.pr.len
    have h3 : r.g.ps.length = r.q := hr.ps.len
    rw [hrg] at h1 h2 h3
    have h := rright12_any r W hr (by omega) (by omega) (by omega) (by rw [hrg]; exact hok)
    rwa [hrg] at h
  have HRB : Hid (∀ (r : RlV) W, r.rows W → r.g = v.g → Calls Try.prog 26 #[r.val] W (RetB W (oB v.g))) := fun r W hr hrg => by
    have h1 : r.g.es.length = r.n := hr.es.len
    have h2 : r.g.pr.length = r.pn := hr.pr.len
    have h3 : r.g.ps.length = r.q := hr.ps.len
    rw [hrg] at h1 h2 h3
    have h := rbytes12_any r W hr (by rw [hrg]; exact hok) (by omega) (by omega) (by omega)
    rwa [hrg] at h
  obtain ⟨hL1, hL2⟩ := oB_len (g := v.g) (by omega) (by omega) (by omega)
  have HL1 : Hid ((oB v.g).length ≤ 98000) := hL1
  have HPs : Hid (oRight v.g = true → oParse (oB v.g ++ ns) = some (v.g, (oB v.g).length)) := fun h => (oParse_ext (oParse_oB v.g hok h)).1
  have HPB : Hid (Bytes (oB v.g ++ ns)) := fun x hx => by
    rw [List.mem_append] at hx
    rcases hx with hx | hx
    · exact oB_bytes v.g hok.pr x hx
    · exact HMB.out x hx
  have HBb : Hid ((oRight v.g = false → oBytes v.g = []) ∧ (oRight v.g = true → oBytes v.g = oB v.g)) := ⟨fun h => by unfold oBytes; rw [h]; rfl, fun h => by unfold oBytes; rw [h]; rfl⟩
  clear HC hB1 hb2 hrows hrows2 hA3 hB2 hoM hrA hEl hPl hSl hL1 hL2 hfew h41 h300 h30 hcap
  have HOk := Lib.hid hok
  clear hok
  unfold glZ at hnew
  unfold GlV.val at *
  unfold GlV.cells at *
  obtain ⟨⟨y0, y1, y2, y3, es, gr, gs⟩, EA, en, ec, PB, bn, bc, TA, tn, tc⟩ := v
  simp only at *
  go_wp2_with fail
  generalize w2.alloc (.cells #[.int .i16 y0, .int .i16 y1, .int .i16 y2, .int .i16 y3, .slice EA en ec, .slice PB bn bc, .slice TA tn tc] 29) = V at *
  generalize hgg : (Gl.mk y0 y1 y2 y3 es gr gs) = G at *
  have Hgg := Lib.hid hgg
  clear hgg
  with_reducible refine HBy.out.mono ?_
  rintro e w3 ⟨OA, on, oc, rfl, hoB, hb3⟩
  have HO3 := Lib.hid (HOwn.out w3 hb3)
  have hk4 := kept_block hk3 hb3
  have hM4 := hM3.below hb3
  obtain ⟨b0, b1, b2, b3, b4, b5, b6⟩ := cells7 hk4
  clear HBy hnew
  go_wp2_with fail
  with_reducible refine HO3.out.mono ?_
  rintro e w4 ⟨r, rfl, hr, hrg, hb4⟩
  have hb4V := hb3.trans (hb4.mono hb3.size)
  have HR4 := Lib.hid (HRR.out r w4 hr (by rw [hrg]))
  clear HO3 b0 b1 b2 b3 b4 b5 b6 hr
  go_wp2_with fail
  with_reducible refine HR4.out.mono ?_
  rintro e w5 ⟨rfl, hb5⟩
  have hb5V := hb4V.trans (hb5.mono hb4V.size)
  have hk5 := kept_block hk3 hb5V
  have hB5 := hB3.trans (hb5V.mono hB3.size)
  have hoB5 := (hoB.below hb4).below hb5
  have hM5 := (hM4.below hb4).below hb5
  have hon : (oBytes G).length = on := hoB.len
  obtain ⟨b0, b1, b2, b3, b4, b5, b6⟩ := cells7 hk5
  have HR5 := Lib.hid (HRt.out w5 hb5V)
  clear HR4 hb4 hb5 hb4V hb3 hoB hM3 hM4 hk4 hrg
  cases hR : oRight G with
  | false =>
    rw [hR] at HR5
    have h0 : on = 0 := by rw [← hon, HBb.out.1 hR]; rfl
    subst h0
    clear hon hoB5 hM5
    go_wp2_with fail
    with_reducible refine HR5.out.mono ?_
    rintro e w6 ⟨rfl, hb6⟩
    have hb6V := hb5V.trans (hb6.mono hb5V.size)
    have hB6 := hB5.trans (hb6.mono hB5.size)
    have HC6 := Lib.hid (HCt.out hR w6 hb6V)
    clear b0 b1 b2 b3 b4 b5 b6 HR5
    obtain ⟨b0, b1, b2, b3, b4, b5, b6⟩ := cells7 (kept_block hk3 hb6V)
    go_wp2_with fail
    with_reducible refine HC6.out.mono ?_
    rintro e w7 ⟨hb7, ⟨-, rfl⟩ | ⟨hT, _⟩⟩
    · have hB7 := hB6.trans (hb7.mono hB6.size)
      go_wp2
      go_ret
      exact ⟨rfl, hB7⟩
    · rw [hR] at hT
      cases hT
  | true =>
    rw [hR] at HR5
    have hBy := HBb.out.2 hR
    rw [hBy] at hoB5 hon
    have HPr := Lib.hid (HPs.out hR)
    have HJ := Lib.hid (joinTwo_any w5 w5.heap.size OA MB on oc nn nc (oB G) ns rfl hoB5.row hM5 (by have h1 := HL1.out; have h2 := HML.out; omega))
    clear HCt hBy HPs HBb b0 b1 b2 b3 b4 b5 b6 HRR
    go_wp2_with fail
    with_reducible refine HJ.out.mono ?_
    rintro e w6 ⟨JA, jn, jc, rfl, hoJ, hb6⟩
    have hb6V := hb5V.trans (hb6.mono hb5V.size)
    have hB6 := hB5.trans (hb6.mono hB5.size)
    have hjl : jn ≤ 98020 := by have h1 := hoJ.len; rw [List.length_append] at h1; have h2 := HL1.out; have h3 := HML.out; omega
    have HPa := Lib.hid (oparse_any JA jn jc _ w6 hoJ.row HPB.out (by omega) hoJ.cap)
    have hoB6 := hoB5.below hb6
    clear HJ hoJ hb6 hoB5 hM5 hB5 hb5V hk5
    go_wp2_with fail
    with_reducible refine HPa.out.mono ?_
    rintro e w7 ⟨hb7, ⟨hno, rfl⟩ | ⟨g2, a2, u, hyes, rfl, hu, hug⟩⟩
    · rw [HPr.out] at hno
      cases hno
    · have hga : G = g2 ∧ (oB G).length = a2 := by
        rw [HPr.out] at hyes
        simp only [Option.some.injEq, Prod.mk.injEq] at hyes
        exact hyes
      obtain ⟨rfl, rfl⟩ := hga
      have hb7V := hb6V.trans (hb7.mono hb6V.size)
      have hB7 := hB6.trans (hb7.mono hB6.size)
      have hA8 := (Below.refl w7.heap.size w7).alloc (Nat.le_refl _) (.cells u.cells 29)
      have hk8 := heap_alloc_new w7 (.cells u.cells 29)
      have hnew8 := heap_alloc_new w7 (.cells glZ 29)
      unfold glZ at hnew8
      have hu8 := hu.below hA8
      have hoB8 := (hoB6.below hb7).below hA8
      have hb8V := hb7V.trans (hA8.mono hb7V.size)
      have hB8 := hB7.trans (hA8.mono hB7.size)
      have HSm2 : Hid (∀ W, Below (w7.alloc (.cells u.cells 29)).heap.size (w7.alloc (.cells u.cells 29)) W → Calls Try.prog 27 #[.agg u.cells, .agg #[.int .i16 y0, .int .i16 y1, .int .i16 y2, .int .i16 y3, .slice EA en ec, .slice PB bn bc, .slice TA tn tc]] W (Ret W (.bool true))) := fun W hW => HSm.out u W (hb8V.trans (hW.mono hb8V.size)) (hu8.below hW) hug
      clear HPa hyes hu hb7 hoB6 hA8 hb7V hb6V hB7 hB6 hu8 hug HSm HPr HPB
      unfold GlV.val
      unfold GlV.cells at *
      obtain ⟨ug, UA, un, uc, UB, um, ud, UC, uk, ul⟩ := u
      simp only at *
      rw [hon]
      have hk8b := kept_block hk3 hb8V
      obtain ⟨b0, b1, b2, b3, b4, b5, b6⟩ := cells7 hk8b
      have HR8 := Lib.hid (HRt.out _ hb8V)
      rw [hR] at HR8
      have hee : ((on : Int) == (on : Int)) = true := by simp
      clear HR5 HRt hR hon
      go_wp2_with fail
      clear hnew8
      generalize w7.alloc _ = V8 at *
      with_reducible refine HR8.out.mono ?_
      rintro e w9 ⟨rfl, hb9⟩
      have hb9V := hb8V.trans (hb9.mono hb8V.size)
      have hB9 := hB8.trans (hb9.mono hB8.size)
      have HO9 := Lib.hid (HOwn.out w9 hb9V)
      clear b0 b1 b2 b3 b4 b5 b6 HR8 hk8b
      obtain ⟨b0, b1, b2, b3, b4, b5, b6⟩ := cells7 (kept_block hk3 hb9V)
      go_wp2_with fail
      with_reducible refine HO9.out.mono ?_
      rintro e w10 ⟨r2, rfl, hr2, hrg2, hb10⟩
      have HB10 := Lib.hid (HRB.out r2 w10 hr2 (by rw [hrg2]))
      have hB10 := hB9.trans (hb10.mono hB9.size)
      have hb10V := hb9V.trans (hb10.mono hb9V.size)
      have h10 := hb9.trans (hb10.mono hb9.size)
      clear b0 b1 b2 b3 b4 b5 b6 HO9 hr2 hrg2 HOwn hb9 hb10 hB9 hb9V
      go_wp2_with fail
      with_reducible refine HB10.out.mono ?_
      rintro e w11 ⟨DA, dn, dc, rfl, hoD, hb11⟩
      have hB11 := hB10.trans (hb11.mono hB10.size)
      have hb11V := hb10V.trans (hb11.mono hb10V.size)
      have h11 := h10.trans (hb11.mono h10.size)
      have hll : on ≤ 98000 := by have h1 := hoB8.len; have h2 := HL1.out; omega
      have hdl : dn ≤ 98000 := by have h1 := hoD.len; have h2 := HL1.out; omega
      have HS11 := Lib.hid (same_any OA DA on oc dn dc _ _ w11 (hoB8.below h11).row hoD.row (by omega) (by omega))
      rw [show sameB (oB G) (oB G) = true by simp [sameB]] at HS11
      clear HB10 hoD hb11 h10 hB10 hb10V hoB8
      go_wp2_with fail
      with_reducible refine HS11.out.mono ?_
      rintro e w12 ⟨rfl, t, ht⟩
      have hB12 : Below w.heap.size w w12 := by rw [ht]; exact below_drewN hB11 t
      have hb12V : Below V.heap.size V w12 := by rw [ht]; exact below_drewN hb11V t
      have h12 : Below V8.heap.size V8 w12 := by rw [ht]; exact below_drewN h11 t
      have HS12 := Lib.hid (HSm2.out w12 h12)
      clear HS11 ht hB11 hb11V h11
      obtain ⟨b0, b1, b2, b3, b4, b5, b6⟩ := cells7 (kept_block hk3 hb12V)
      obtain ⟨d0, d1, d2, d3, d4, d5, d6⟩ := cells7 (kept_block hk8 h12)
      go_wp2_with fail
      with_reducible refine HS12.out.mono ?_
      rintro e w13 ⟨rfl, hb13⟩
      have hB13 := hB12.trans (hb13.mono hB12.size)
      go_wp2
      go_ret
      exact ⟨rfl, hB13⟩

end Go.Proofs.Ytlcnonhebppeiaa

namespace Go.Proofs.Ytlcnonhebppeiaa.simpleForms
open Go.ChangeShapes Go.WideShapes Go.ChangeAt Go.RowKit
open Go.ChangeMaps (open_string shut_string)
set_option linter.unusedVariables false

theorem own : ownKnob Try.prog.godebug = none := by kernel_rfl
theorem laidOut : laidOutB Try.prog = true := by kernel_rfl

set_option maxRecDepth 100000 in
theorem lifted (os : Os) (started : os.Started) (H : Type) (enc : TypeId × Value → H) :
    ReturnsInHanded {} Try.checked os 3 .any (Rows.simpleFormsSpec.pre6 enc Try.prog Try.f3 Rows.simpleFormsRow.domain false) (Rows.simpleFormsSpec.post enc Try.prog Try.f3 false true false false) := by
  refine returnsInHanded_of_change (C := Try.checked) own started (by kernel_rfl) Try.func3
    (ChangeSpec.witness6 (enc := enc) (C := Try.checked) false ⟨#[], #[.agg #[.int .i16 0, .int .i16 0, .int .i16 0, .int .i16 0], .slice none 0 0, .slice none 0 0, .slice none 0 0, .slice none 0 0], []⟩ 8 (by kernel_rfl) (by kernel_rfl) (by kernel_rfl) (by kernel_rfl)) ?_
  intro W base args ds gs before hval0 hW hcnd _
  have hval : ∀ (j : Nat) t v, Try.f3.params[j]? = some t → args[j]? = some v → Value.okWide Try.prog W .any base t v := hval0
  have hW' := hW
  obtain ⟨p, q, hA0, hV, rfl, hfz, hnd⟩ := hW
  have hA : DataW.TrodAll enc Try.prog W 0 (fun _ => true) true Try.f3.params.toList args.toList ds p := hA0
  rw [Try.params3] at hA hval
  obtain ⟨v0, vs0, d0, ds0, p0, q0, hargs, rfl, rfl, h0, r0⟩ := trodAll_cons hA
  obtain ⟨v1, vs1, d1, ds1, p1, q1, rfl, rfl, rfl, h1, r1⟩ := trodAll_cons r0
  obtain ⟨v2, vs2, d2, ds2, p2, q2, rfl, rfl, rfl, h2, r2⟩ := trodAll_cons r1
  obtain ⟨v3, vs3, d3, ds3, p3, q3, rfl, rfl, rfl, h3, r3⟩ := trodAll_cons r2
  obtain ⟨v4, vs4, d4, ds4, p4, q4, rfl, rfl, rfl, h4, r4⟩ := trodAll_cons r3
  obtain ⟨rfl, rfl, rfl⟩ := trodAll_nil r4
  obtain rfl : args = #[v0, v1, v2, v3, v4] := by cases args; simp_all
  obtain ⟨rfl, rfl⟩ := trodVars_none hV
  have k0 := h0
  have lt0 : ∀ x ∈ p0, x.block < W.heap.size := by obtain ⟨m, hm⟩ := k0; exact DataW.trod_lt m _ _ _ hm
  have k1 := h1
  have lt1 : ∀ x ∈ p1, x.block < W.heap.size := by obtain ⟨m, hm⟩ := k1; exact DataW.trod_lt m _ _ _ hm
  have k2 := h2
  have lt2 : ∀ x ∈ p2, x.block < W.heap.size := by obtain ⟨m, hm⟩ := k2; exact DataW.trod_lt m _ _ _ hm
  have k3 := h3
  have lt3 : ∀ x ∈ p3, x.block < W.heap.size := by obtain ⟨m, hm⟩ := k3; exact DataW.trod_lt m _ _ _ hm
  have k4 := h4
  have lt4 : ∀ x ∈ p4, x.block < W.heap.size := by obtain ⟨m, hm⟩ := k4; exact DataW.trod_lt m _ _ _ hm
  obtain ⟨x0, x1, x2, x3, rfl, hbx⟩ := open_box (hval 0 23 v0 rfl rfl) k0
  obtain ⟨QA, q, qc, ps, rfl, hq, hps, hqm, hqc⟩ := open_sps (hval 1 24 v1 rfl rfl) k1
  obtain ⟨A2, n2, c2, z2, rfl, hr2, hB2, hn2⟩ := open_bs (hval 2 25 v2 rfl rfl) k2
  obtain ⟨A3, n3, c3, z3, rfl, hr3, hB3, hn3⟩ := open_bs (hval 3 25 v3 rfl rfl) k3
  obtain ⟨A4, n4, c4, z4, rfl, hr4, hB4, hn4⟩ := open_bs (hval 4 25 v4 rfl rfl) k4
  clear hA0 hval0
  refine (law_SimpleForms x0 x1 x2 x3 QA q qc ps A2 n2 c2 z2 A3 n3 c3 z3 A4 n4 c4 z4 W hbx hq hps hqc hqm hr2 hB2 hn2 hr3 hB3 hn3 hr4 hB4 hn4).mono fun e W' ⟨he, bel⟩ => ?_
  subst he
  exact ⟨_, rfl, _, _, _, [], _, [], hW', trodAll_mk1 (shut_bool Try.underlying4 _), (trodAll_cons_mk (Below.trod laidOut (by kernel_rfl) (of_decide_eq_true (by kernel_rfl)) k0 bel lt0) (trodAll_cons_mk (Below.trod laidOut (by kernel_rfl) (of_decide_eq_true (by kernel_rfl)) k1 bel lt1) (trodAll_cons_mk (Below.trod laidOut (by kernel_rfl) (of_decide_eq_true (by kernel_rfl)) k2 bel lt2) (trodAll_cons_mk (Below.trod laidOut (by kernel_rfl) (of_decide_eq_true (by kernel_rfl)) k3 bel lt3) (trodAll_cons_mk (Below.trod laidOut (by kernel_rfl) (of_decide_eq_true (by kernel_rfl)) k4 bel lt4) trodAll_mk0))))), rfl, bel.frame _, fun h => by cases h⟩

theorem over : Rows.simpleFormsRow.holds Try.pinned (OpenSpec.ofChange Rows.simpleFormsSpec) :=
  OpenClaim.holds_of_wide 3 Try.f3 rfl rfl rfl rfl rfl rfl rfl ⟨rfl, rfl, rfl, rfl, rfl⟩ rfl rfl rfl rfl rfl (by kernel_rfl) Try.func3 (by kernel_rfl)
    (of_decide_eq_true (by kernel_rfl)) (by unfold Func.isWrapper; first | (rw [if_pos (by decide +kernel)]; kernel_rfl) | (rw [if_neg (by decide +kernel)]; exact ⟨rfl, rfl⟩))
    (fun os started H enc _ => lifted os started H enc)

theorem proved : Rows.SimpleFormsSaid := over
#print axioms proved
end Go.Proofs.Ytlcnonhebppeiaa.simpleForms
