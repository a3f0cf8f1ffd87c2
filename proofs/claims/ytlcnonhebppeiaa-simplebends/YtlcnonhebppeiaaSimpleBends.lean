/- an outline's bytes of which one is turned, or that are cut off, are what the document answers -/
import Derived.Test.YtlcnonhebppeiaaRows
import Derived.WalkKit
import Derived.ProofKit
import Derived.OpenShut
import Derived.ShutString
import Derived.ChangeOld
import Derived.Below
import Derived.Lib.SmallJoins
import Derived.Test.YtlcnonhebppeiaaBase4
import Derived.Test.YtlcnonhebppeiaaBase5
import Derived.Test.YtlcnonhebppeiaaBase6
import Derived.Test.YtlcnonhebppeiaaBase8
import Derived.Test.YtlcnonhebppeiaaBase9

namespace Go.Proofs.Ytlcnonhebppeiaa
open Go.RowKit
set_option linter.unusedVariables false
set_option linter.unusedSimpArgs false

theorem Ext.blkB {w0 w : World} (h : Ext w0 w) {b : Nat} {o : Obj} (hb : w0.heap[b]? = some o) : w.heap[b]? = some o := kept_block hb h
theorem oB_lenB {g : Gl} (h1 : g.es.length ≤ 10000) (h2 : g.pr.length ≤ 10000) (h3 : g.ps.length ≤ 10000) : (oB g).length ≤ 98000 ∧ 0 < (oB g).length := by
  have a1 := rle_len (fls g.ps)
  have a2 := cbs_len (chs (xsOf g.ps))
  have a3 := cbs_len (chs (ysOf g.ps))
  unfold fls at a1
  rw [flK_len] at a1
  rw [chs_len, xsOf_len] at a2
  rw [chs_len, ysOf_len] at a3
  unfold oB
  simp only [List.length_append, oFront_len]
  unfold fls
  omega
/-- One slice of bytes written out, to be joined. -/
theorem joinOne_any (V : World) (b : Nat) (A : Option Addr) (n c : Nat) (xs : List Int) (hb : b = V.heap.size) (hx : Row V A n (cellsOf .u8 xs)) (hl : xs.length ≤ 140737488351232) :
    Calls Try.prog 24 #[.slice (some ⟨b, 0, none⟩) 1 1] (V.alloc (.cells #[.slice A n c] 25)) (RetB V xs) := by
  have := joinN_any V b [⟨A, n, c, xs⟩] 1 #[.slice A n c] rfl hb rfl (fun p hp => by
    simp at hp
    subst hp
    exact hx) (by omega) (by simpa [joined] using hl)
  simpa [joined] using this

set_option maxRecDepth 100000 in
set_option maxHeartbeats 8000000 in
theorem law_SimpleBends (QA : Option Addr) (q qc : Nat) (ps : List Sp) (SA : Option Addr) (sn sc : Nat) (ss : List Int) (at0 turn : Int) (w : World)
    (hq : RowS encSp 3 w QA q ps) (hps : ∀ p ∈ ps, Sp.ok p) (hqc : q ≤ qc) (hqm : q ≤ 9223372036854775807) (hs0 : Row w SA sn (cellsOf .u8 ss)) (hsB : Bytes ss) (hsm : sn ≤ 9223372036854775807)
    (at1 : 0 ≤ at0) (at2 : at0 ≤ 65535) (t0 : 0 ≤ turn) (t1 : turn ≤ 255) :
    Calls Try.prog 5 #[.slice QA q qc, .slice SA sn sc, .int .u16 at0, .int .u8 turn] w (True_ w) := by
  have HAw := Lib.hid (awake12_any w)
  have HM0 : Hid (∀ W, Below w.heap.size w W → Calls Try.prog 16 #[.agg #[.int .i16 1, .int .i16 2, .int .i16 3, .int .i16 4], .slice QA q qc, .slice SA sn sc, .slice (some ⟨W.heap.size, 0, none⟩) 1 1] (W.alloc (.cells #[.int .u8 7] 5)) (RetMade (W.alloc (.cells #[.int .u8 7] 5)) [1, 2, 3, 4] ps [7])) := fun W hW => by
    have hb := hW.alloc hW.size (.cells #[.int .u8 7] 5)
    exact made_any 1 2 3 4 QA q qc ps SA sn sc ss (some ⟨W.heap.size, 0, none⟩) 1 1 [7] _ (by simp) (hq.below hb) hps hqc hqm (hs0.below hb) hsB hsm (row_one W .u8 7 5) (fun x hx => by simp at hx; omega) (by omega)
  clear hq hps hs0 hsB
  go_enter Try.func5, Try.ntmps5
  go_wp2_with fail
  with_reducible refine HAw.out.mono ?_
  rintro e w0 ⟨rfl, hb0⟩
  have HM := Lib.hid (HM0.out w0 hb0)
  have hA0 := hb0.alloc hb0.size (.cells #[.int .u8 7] 5)
  clear HM0 HAw hb0
  go_wp2_with fail
  with_reducible refine HM.out.mono ?_
  rintro e w1 ⟨v, rfl, hrows, hok, hfew, -, -, -, h41, h300, h30, hb1, hcap⟩
  have hB1 := hA0.trans (hb1.mono hA0.size)
  have hA2 := (Below.refl w1.heap.size w1).alloc (Nat.le_refl _) (.cells v.cells 29)
  have hk2 := heap_alloc_new w1 (.cells v.cells 29)
  have hnew := heap_alloc_new w1 (.cells glZ 29)
  have hB2 := hB1.trans (hA2.mono hB1.size)
  have hrA := hrows.below hA2
  have hEl : v.g.es.length = v.en := hrows.es.len
  have hPl : v.g.pr.length = v.pn := hrows.pr.len
  have hSl : v.g.ps.length = v.sn := hrows.ps.len
  have HOwn : Hid (∀ W, Below (w1.alloc (.cells v.cells 29)).heap.size (w1.alloc (.cells v.cells 29)) W → Calls Try.prog 20 #[v.val] W (RetOwn W v)) := fun W hW => oown_any v W (hrA.below hW) (by omega) (by omega) hok
  have HRR : Hid (∀ (r : RlV) W, r.rows W → r.g = v.g → Calls Try.prog 19 #[r.val] W (Ret W (.bool (oRight v.g)))) := fun r W hr hrg => by
    have h1 : r.g.es.length = r.n := hr.es.len
    have h2 : r.g.pr.length = r.pn := hr.pr.len
    have h3 : r.g.ps.length = r.q := hr.ps.len
    rw [hrg] at h1 h2 h3
    have h := rright12_any r W hr (by omega) (by omega) (by omega) (by rw [hrg]; exact hok)
    rwa [hrg] at h
  have HRB : Hid (∀ (r : RlV) W, r.rows W → r.g = v.g → Calls Try.prog 26 #[r.val] W (RetB W (oB v.g))) := fun r W hr hrg => by
    have h1 : r.g.es.length = r.n := hr.es.len
    have h2 : r.g.pr.length = r.pn := hr.pr.len
    have h3 : r.g.ps.length = r.q := hr.ps.len
    rw [hrg] at h1 h2 h3
    have h := rbytes12_any r W hr (by rw [hrg]; exact hok) (by omega) (by omega) (by omega)
    rwa [hrg] at h
  obtain ⟨hL1, hL2⟩ := oB_lenB (g := v.g) (by omega) (by omega) (by omega)
  have HL : Hid ((oB v.g).length ≤ 98000 ∧ 0 < (oB v.g).length) := ⟨hL1, hL2⟩
  have HCut : Hid (oRight v.g = true → ∀ k, k < (oB v.g).length → oParse ((oB v.g).take k) = none) := fun h k hk => oParse_cut (oParse_oB v.g hok h) hk
  have HPB : Hid (Bytes (oB v.g)) := oB_bytes v.g hok.pr
  clear HM hA0 hb1 hrows hA2 hB1 hrA hEl hPl hSl hL1 hL2 hfew h41 h300 h30 hcap hok
  unfold glZ at hnew
  unfold GlV.val at *
  unfold GlV.cells at *
  obtain ⟨⟨y0, y1, y2, y3, es, gr, gs⟩, EA, en, ec, PB, bn, bc, TA, tn, tc⟩ := v
  simp only at *
  go_wp2_with fail
  clear hnew
  generalize w1.alloc (.cells #[.int .i16 y0, .int .i16 y1, .int .i16 y2, .int .i16 y3, .slice EA en ec, .slice PB bn bc, .slice TA tn tc] 29) = V at *
  generalize hgg : (Gl.mk y0 y1 y2 y3 es gr gs) = G at *
  have Hgg := Lib.hid hgg
  clear hgg
  have HO3 := Lib.hid (HOwn.out V (Below.refl _ _))
  with_reducible refine HO3.out.mono ?_
  rintro e w2 ⟨r, rfl, hr, hrg, hb2⟩
  have HB2 := Lib.hid (HRB.out r w2 hr (by rw [hrg]))
  clear HO3 hr hrg HRB
  go_wp2_with fail
  with_reducible refine HB2.out.mono ?_
  rintro e w3 ⟨OA, on, oc, rfl, hoO, hb3'⟩
  have hb3 := hb2.trans (hb3'.mono hb2.size)
  have HJ := Lib.hid (joinOne_any w3 w3.heap.size OA on oc (oB G) rfl hoO.row (by have := HL.out; omega))
  clear HB2 hb2 hb3' hoO
  go_wp2_with fail
  with_reducible refine HJ.out.mono ?_
  rintro e w4 ⟨JA, jn, jc, rfl, hoJ, hb4'⟩
  have hb4 := hb3.trans (hb4'.mono hb3.size)
  have hoJ2 := hoJ.mono hb3.size
  have HO5 := Lib.hid (HOwn.out w4 hb4)
  clear HJ hb3 hb4' hoJ
  obtain ⟨b0, b1, b2, b3, b4, b5, b6⟩ := cells7 (kept_block hk2 hb4)
  go_wp2_with fail
  with_reducible refine HO5.out.mono ?_
  rintro e w5 ⟨r2, rfl, hr2, hrg2, hb5'⟩
  have hb5 := hb4.trans (hb5'.mono hb4.size)
  have hoJ5 := hoJ2.below hb5'
  have HR5 := Lib.hid (HRR.out r2 w5 hr2 (by rw [hrg2]))
  clear HO5 hr2 hrg2 HRR HOwn hb4 hb5' hoJ2 b0 b1 b2 b3 b4 b5 b6
  go_wp2_with fail
  with_reducible refine HR5.out.mono ?_
  rintro e w6 ⟨rfl, hb6'⟩
  have hb6 := hb5.trans (hb6'.mono hb5.size)
  have hB6 := hB2.trans (hb6.mono hB2.size)
  have hoJ6 := hoJ5.below hb6'
  clear HR5 hb5 hb6' hoJ5
  cases hR : oRight G with
  | false =>
    go_wp2
    go_ret
    exact ⟨rfl, hB6⟩
  | true =>
    have hjl := hoJ6.len
    have hcap := hoJ6.cap
    have hn1 : jn ≤ 98000 := by have := HL.out; omega
    have hn2 : 0 < jn := by have := HL.out; omega
    have HCt := Lib.hid (HCut.out hR)
    rw [hjl] at HCt
    obtain ⟨j, hj⟩ : ∃ j : Nat, at0 % (jn : Int) = (j : Int) := ⟨(at0 % (jn : Int)).toNat, by have := Int.emod_nonneg at0 (show (jn : Int) ≠ 0 by omega); omega⟩
    have hjL : j < jn := by have := Int.emod_lt_of_pos at0 (show (0 : Int) < jn by omega); omega
    have hBo := hoJ6.mono (B' := w.heap.size) hB2.size
    rcases hBo.shape with ⟨_, _, h0, _⟩ | ⟨gj, cur, rfl, hgj, _⟩
    · omega
    have hLz : ((jn : Int) == 0) = false := by simp; omega
    have hjc : (j : Int) ≤ (jc : Int) := by omega
    have hL0' : (jn : Int) ≠ 0 := by omega
    have hLpos : (0 : Int) < (jn : Int) := by omega
    have hPc := Lib.hid (oparse_any (some ⟨gj, 0, none⟩) j jc ((oB G).take j) w6 (by have := hBo.row.take (k := j) (by omega); rwa [cellsOf_take] at this) (take_bytes HPB.out j) (by omega) (by omega))
    clear hoJ6 hb6 HCut hR
    go_wp2_with fail
    with_reducible refine hPc.out.mono ?_
    rintro e w7 ⟨hb7, ⟨hno, rfl⟩ | ⟨g2, a2, u, hyes, _⟩⟩
    · have hB7 := hB6.trans (hb7.mono hB6.size)
      have hA8 := (Below.refl w7.heap.size w7).alloc (Nat.le_refl _) (.cells glZ 29)
      have hB8 := hB7.trans (hA8.mono hB7.size)
      have ho8 := (hBo.below hb7).below hA8
      clear hPc hno hb7 hB7 hA8 hBo hB6 HCt
      unfold glV0 GlV.val GlV.cells
      simp only
      unfold glZ at hB8 ho8
      obtain ⟨y, hy⟩ := get_some (zs := oB G) (k := j) (by omega)
      obtain ⟨g', off', e', _, hcy⟩ := ho8.row.at (cellsOf_get (k := .u8) hy)
      simp only [Option.some.injEq, Addr.mk.injEq, and_true] at e'
      obtain ⟨rfl, rfl⟩ := e'
      rw [Nat.zero_add] at hcy
      have f0 := ho8.thaw
      have hv := xor_byte2 y turn
      have HBs := Lib.hid (set_bytes HPB.out j hv)
      have hset := ho8.set j (bits .xor .u8 y turn)
      have hB9 := hB8.setCell (p := ⟨gj, j, none⟩) hgj (.int .u8 (bits .xor .u8 y turn))
      have i0 : (0 : Int) ≤ (j : Int) := by omega
      have i1 : (j : Int) < (jn : Int) := by omega
      clear hy ho8 hB8
      go_wp2_with fail
      clear hcy f0 hv
      generalize (w7.alloc _).setCell _ _ = W1 at *
      generalize (oB G).set j (bits .xor .u8 y turn) = zs at *
      clear HPB HL hjl hcap hj hjL hLz hjc hL0' hLpos
      have hb1 := hB9
      have HP := Lib.hid (oparse_any (some ⟨gj, 0, none⟩) jn jc zs W1 hset.row HBs.out (by omega) hset.cap)
      have HR1 : Hid (∀ W, Below W1.heap.size W1 W → Calls Try.prog 28 #[.slice (some ⟨gj, 0, none⟩) jn jc] W (RetRP W zs)) := fun W hW => rparse12_any (some ⟨gj, 0, none⟩) jn jc zs W (hset.row.below hW) HBs.out (by omega)
      clear hset hB9
      with_reducible refine HP.out.mono ?_
      rintro e w2 ⟨hb2, ⟨hno, rfl⟩ | ⟨g, a, v, hyes, rfl, hrows, hvg⟩⟩
      · have HNo := Lib.hid hno
        have hA := (Below.refl w2.heap.size w2).alloc (Nat.le_refl _) (.cells glZ 29)
        have HR2 := Lib.hid (HR1.out _ (hb2.trans (hA.mono hb2.size)))
        have hbA := (hb1.trans (hb2.mono hb1.size)).trans (hA.mono (hb1.trans (hb2.mono hb1.size)).size)
        clear HR1 HP hno hA hb2 hb1
        unfold glV0 GlV.val GlV.cells
        simp only
        unfold glZ at HR2 hbA
        go_wp2_with fail
        generalize w2.alloc _ = V2 at *
        with_reducible refine HR2.out.mono ?_
        rintro e w3 ⟨hb3, ⟨hno, rfl⟩ | ⟨g, a, u, hyes, _⟩⟩
        · have hb4 := hbA.trans (hb3.mono hbA.size)
          have hA4 := (Below.refl w3.heap.size w3).alloc (Nat.le_refl _) (.cells rg0 38)
          have hb5 := hb4.trans (hA4.mono hb4.size)
          unfold rg0 at hA4 hb5 ⊢
          clear HR2 hb3 hb4 hA4 hbA hno
          go_upto_region 13 with fail
          generalize w3.alloc _ = V3 at *
          go_quiet (fail)
          go_wp2
          go_ret
          first
          | exact ⟨rfl, hb5.drew⟩
          | exact ⟨rfl, below_drewN hb5 _⟩
        · rw [HNo.out] at hyes
          cases hyes
      · obtain ⟨hok, s1, s2, s3⟩ := oParse_ok HBs.out hyes
        subst hvg
        have HY := Lib.hid hyes
        have hE : v.en ≤ 1000000 := by have h1 : v.g.es.length = v.en := hrows.es.len; omega
        have hP : v.pn ≤ 1000000 := by have h1 : v.g.pr.length = v.pn := hrows.pr.len; omega
        have hS : v.sn ≤ 1000000 := by have := hrows.ps.len; omega
        have hA := (Below.refl w2.heap.size w2).alloc (Nat.le_refl _) (.cells v.cells 29)
        have hk := heap_alloc_new w2 (.cells v.cells 29)
        have hnew := heap_alloc_new w2 (.cells glZ 29)
        have HR2 := Lib.hid (HR1.out _ (hb2.trans (hA.mono hb2.size)))
        have hbA := (hb1.trans (hb2.mono hb1.size)).trans (hA.mono (hb1.trans (hb2.mono hb1.size)).size)
        have hrowsA := hrows.below hA
        have HOw : Hid (∀ W, v.rows W → Calls Try.prog 20 #[v.val] W (RetOwn W v)) := fun W hW => oown_any v W hW hE hS hok
        have HRows : Hid (v.rows (w2.alloc (.cells v.cells 29))) := hrowsA
        have HLL : Hid (v.g.es.length ≤ 1000000 ∧ v.g.pr.length ≤ 1000000 ∧ v.g.ps.length ≤ 1000000) := ⟨s1, s2, s3⟩
        clear HR1 HP hyes hA hb2 hb1 hrows hrowsA hok s1 s2 s3 hE hP hS
        unfold glZ at hnew
        unfold GlV.val at *
        unfold GlV.cells at *
        obtain ⟨⟨x0, x1, x2, x3, fs, qr, qs⟩, EB, em, ed, PC, pm, pd, SC, sm, sd⟩ := v
        simp only at *
        go_wp2_with fail
        clear hnew
        generalize w2.alloc (.cells #[.int .i16 x0, .int .i16 x1, .int .i16 x2, .int .i16 x3, .slice EB em ed, .slice PC pm pd, .slice SC sm sd] 29) = V2 at *
        with_reducible refine HR2.out.mono ?_
        rintro e w3 ⟨hb3, ⟨hno, rfl⟩ | ⟨g, a', u, hyes, rfl, hu, hug, u1, u2, u3⟩⟩
        · rw [HY.out] at hno
          cases hno
        · have hae : a = a' ∧ g = Gl.mk x0 x1 x2 x3 fs qr qs := by
            have := HY.out
            rw [hyes] at this
            simp only [Option.some.injEq, Prod.mk.injEq] at this
            exact ⟨this.2.symm, this.1⟩
          obtain ⟨rfl, rfl⟩ := hae
          have hk2' := kept_block hk hb3
          have hb4 := hbA.trans (hb3.mono hbA.size)
          have hA4 := (Below.refl w3.heap.size w3).alloc (Nat.le_refl _) (.cells u.cells 38)
          have hk4 := kept_block hk2' hA4
          have hk5 := heap_alloc_new w3 (.cells u.cells 38)
          have hb5 := hb4.trans (hA4.mono hb4.size)
          have hrows4 := HRows.out.below (hb3.trans (hA4.mono hb3.size))
          have hu4 := hu.below hA4
          have hnew2 := heap_alloc_new w3 (.cells rg0 38)
          have Hu := Lib.hid hu4
          have Hrows := Lib.hid hrows4
          have Hug := Lib.hid hug
          clear HR2 hb3 hk2' hb4 hA4 hk hbA hyes hrows4 hu4 hu hug HRows HY
          unfold rg0 at hnew2
          have HSm : Hid (∀ (r : RlV) W, r.rows W → u.rows W → r.n ≤ 1000000 → r.pn ≤ 1000000 → r.q ≤ 1000000 → Calls Try.prog 29 #[r.val, u.val] W (Ret W (.bool (glSame r.g u.g)))) := fun r W h1 h2 h3 h4 h5 => rsame12_any r u W h1 h2 h3 h4 h5 u1 u2 u3
          clear u1 u2 u3
          unfold RlV.val at *
          unfold RlV.cells at *
          obtain ⟨⟨z0, z1, z2, z3, hs, hr, hq⟩, IB, n', ic', PB', pn', pc', QB, q', qc'⟩ := u
          simp only at *
          go_upto_region 13 with fail
          clear hnew2
          generalize w3.alloc (.cells #[.int .i64 z0, .int .i64 z1, .int .i64 z2, .int .i64 z3, .slice IB n' ic', .slice PB' pn' pc', .slice QB q' qc'] 38) = V3 at *
          have hk3 : V3.drew.heap[w2.heap.size]? = _ := hk4
          have hk6 : V3.drew.heap[w3.heap.size]? = _ := hk5
          have hx0 : Ext V3.drew V3.drew := Ext.refl _
          have haa : ((a : Int) == (a : Int)) = true := by simp
          refine regT_start 20 (Ext V3.drew) (by kernel_rfl) ?_
          refine regT_take (i := 0) (d := some 73) (v := ?_) [] hx0 rfl rfl (by kernel_rfl) (by kernel_rfl) (by kernel_rfl) (by kernel_rfl) (by kernel_rfl) (by decide) (fun _ _ _ h => h) (Or.inl ⟨by rfl, ?_⟩) ?_
          rotate_left
          · intro w' hx; (go_simp <;> with_reducible rfl)
          simp only [Act.put, List.setIfInBounds_toArray, List.set_cons_zero, List.set_cons_succ]
          refine regT_take (i := 1) (d := some 74) (v := ?_) [] hx0 rfl rfl (by kernel_rfl) (by kernel_rfl) (by kernel_rfl) (by kernel_rfl) (by kernel_rfl) (by decide) (fun _ _ _ h => h) (Or.inl ⟨by rfl, ?_⟩) ?_
          rotate_left
          · intro w' hx; (go_simp <;> with_reducible rfl)
          simp only [Act.put, List.setIfInBounds_toArray, List.set_cons_zero, List.set_cons_succ]
          refine regT_take (i := 2) (d := some 75) (v := ?_) [] hx0 rfl rfl (by kernel_rfl) (by kernel_rfl) (by kernel_rfl) (by kernel_rfl) (by kernel_rfl) (by decide) (fun _ _ _ h => h) (Or.inl ⟨by rfl, ?_⟩) ?_
          rotate_left
          · intro w' hx; (go_simp <;> with_reducible rfl)
          simp only [Act.put, List.setIfInBounds_toArray, List.set_cons_zero, List.set_cons_succ]
          refine regT_take (i := 3) (d := some 76) (v := ?_) [] hx0 rfl rfl (by kernel_rfl) (by kernel_rfl) (by kernel_rfl) (by kernel_rfl) (by kernel_rfl) (by decide) (fun _ _ _ h => h) (Or.inl ⟨by rfl, ?_⟩) ?_
          rotate_left
          · intro w' hx; (go_simp <;> with_reducible rfl)
          simp only [Act.put, List.setIfInBounds_toArray, List.set_cons_zero, List.set_cons_succ]
          refine regT_take (i := 4) (d := some 77) (v := ?_) [] hx0 rfl rfl (by kernel_rfl) (by kernel_rfl) (by kernel_rfl) (by kernel_rfl) (by kernel_rfl) (by decide) (fun _ _ _ h => h) (Or.inl ⟨by rfl, ?_⟩) ?_
          rotate_left
          · intro w' hx; (go_simp <;> with_reducible rfl)
          simp only [Act.put, List.setIfInBounds_toArray, List.set_cons_zero, List.set_cons_succ]
          refine regT_take (i := 5) (d := some 78) (v := ?_) [] hx0 rfl rfl (by kernel_rfl) (by kernel_rfl) (by kernel_rfl) (by kernel_rfl) (by kernel_rfl) (by decide) (fun _ _ _ h => h) (Or.inl ⟨by rfl, ?_⟩) ?_
          rotate_left
          · intro w' hx; (go_simp <;> with_reducible rfl)
          simp only [Act.put, List.setIfInBounds_toArray, List.set_cons_zero, List.set_cons_succ]
          refine regT_take (i := 6) (d := some 79) (v := ?_) [] hx0 rfl rfl (by kernel_rfl) (by kernel_rfl) (by kernel_rfl) (by kernel_rfl) (by kernel_rfl) (by decide) (fun _ _ _ h => h) (Or.inl ⟨by rfl, ?_⟩) ?_
          rotate_left
          · intro w' hx; (go_simp <;> with_reducible rfl)
          simp only [Act.put, List.setIfInBounds_toArray, List.set_cons_zero, List.set_cons_succ]
          refine regT_take (i := 7) (d := some 80) (v := ?_) [] hx0 rfl rfl (by kernel_rfl) (by kernel_rfl) (by kernel_rfl) (by kernel_rfl) (by kernel_rfl) (by decide) (fun _ _ _ h => h) (Or.inl ⟨by rfl, ?_⟩) ?_
          rotate_left
          · intro w' hx; (go_simp <;> with_reducible rfl)
          simp only [Act.put, List.setIfInBounds_toArray, List.set_cons_zero, List.set_cons_succ]
          refine regT_take (i := 8) (d := some 81) (v := ?_) [] hx0 rfl rfl (by kernel_rfl) (by kernel_rfl) (by kernel_rfl) (by kernel_rfl) (by kernel_rfl) (by decide) (fun _ _ _ h => h) (Or.inl ⟨by rfl, ?_⟩) ?_
          rotate_left
          · intro w' hx; (go_simp <;> with_reducible rfl)
          simp only [Act.put, List.setIfInBounds_toArray, List.set_cons_zero, List.set_cons_succ]
          refine regT_take (i := 9) (d := some 82) (v := ?_) [] hx0 rfl rfl (by kernel_rfl) (by kernel_rfl) (by kernel_rfl) (by kernel_rfl) (by kernel_rfl) (by decide) (fun _ _ _ h => h) (Or.inl ⟨by rfl, ?_⟩) ?_
          rotate_left
          · intro w' hx; (go_simp <;> with_reducible rfl)
          simp only [Act.put, List.setIfInBounds_toArray, List.set_cons_zero, List.set_cons_succ]
          refine regT_take (i := 10) (d := some 83) (v := ?_) [] hx0 rfl rfl (by kernel_rfl) (by kernel_rfl) (by kernel_rfl) (by kernel_rfl) (by kernel_rfl) (by decide) (fun _ _ _ h => h) (Or.inl ⟨by rfl, ?_⟩) ?_
          rotate_left
          · intro w' hx; (go_simp <;> with_reducible rfl)
          simp only [Act.put, List.setIfInBounds_toArray, List.set_cons_zero, List.set_cons_succ]
          refine regT_take (i := 11) (d := some 84) (v := ?_) [] hx0 rfl rfl (by kernel_rfl) (by kernel_rfl) (by kernel_rfl) (by kernel_rfl) (by kernel_rfl) (by decide) (fun _ _ _ h => h) (Or.inl ⟨by rfl, ?_⟩) ?_
          rotate_left
          · intro w' hx; (go_simp <;> with_reducible rfl)
          simp only [Act.put, List.setIfInBounds_toArray, List.set_cons_zero, List.set_cons_succ]
          refine regT_take (i := 12) (d := some 85) (v := ?_) [] hx0 rfl rfl (by kernel_rfl) (by kernel_rfl) (by kernel_rfl) (by kernel_rfl) (by kernel_rfl) (by decide) (fun _ _ _ h => h) (Or.inl ⟨by rfl, ?_⟩) ?_
          rotate_left
          · intro w' hx; obtain ⟨b0, b1, b2, b3, b4, b5, b6⟩ := cells7 (hx.blkB hk3); (go_simp <;> with_reducible rfl)
          simp only [Act.put, List.setIfInBounds_toArray, List.set_cons_zero, List.set_cons_succ]
          refine regT_take (i := 14) (d := some 87) (v := ?_) [] hx0 rfl rfl (by kernel_rfl) (by kernel_rfl) (by kernel_rfl) (by kernel_rfl) (by kernel_rfl) (by decide) (fun _ _ _ h => h) (Or.inl ⟨by rfl, ?_⟩) ?_
          rotate_left
          · intro w' hx; obtain ⟨b0, b1, b2, b3, b4, b5, b6⟩ := cells7 (hx.blkB hk6); (go_simp <;> with_reducible rfl)
          simp only [Act.put, List.setIfInBounds_toArray, List.set_cons_zero, List.set_cons_succ]
          refine regT_one 13 _ (by kernel_rfl) rfl ?_
          intro K hK
          go_simp
          refine (HOw.out _ (Hrows.out.below (Below.refl _ _).drew)).mono ?_
          rintro e W4 ⟨r, he, hr, hrg, hb⟩
          unfold RlV.val RlV.cells at he
          subst he
          have hX1 := hx0.call hb
          have hX3 : Below V3.heap.size V3 W4 := Below.trans (Below.refl _ V3).drew hX1
          have hR1 : r.n ≤ 1000000 := by have h1 : r.g.es.length = r.n := hr.es.len; rw [show r.g.es = fs by rw [hrg]] at h1; have := HLL.out.1; omega
          have hR2 : r.pn ≤ 1000000 := by have h1 : r.g.pr.length = r.pn := hr.pr.len; rw [show r.g.pr = qr by rw [hrg]] at h1; have := HLL.out.2.1; omega
          have hR3 : r.q ≤ 1000000 := by have h1 : r.g.ps.length = r.q := hr.ps.len; rw [show r.g.ps = qs by rw [hrg]] at h1; have := HLL.out.2.2; omega
          have HS2 := Lib.hid (HSm.out r W4 hr (Hu.out.below hX3) hR1 hR2 hR3)
          rw [hrg, Hug.out, glSame_refl] at HS2
          have hbf := hb5.trans (hX3.mono hb5.size)
          refine hK.out _ _ (fun _ => hX1) ?_
          clear hK K hb hr hR1 hR2 hR3 HSm HOw Hrows Hu HLL
          refine regT_one 15 _ (by kernel_rfl) rfl ?_
          intro K hK
          go_simp
          refine HS2.out.mono ?_
          rintro e W5 ⟨rfl, hb6⟩
          have hX2 := hX1.call hb6
          have hbg := hbf.trans (hb6.mono hbf.size)
          refine hK.out _ _ (fun _ => hX2) ?_
          clear hK K
          refine regT_one 16 _ (by kernel_rfl) rfl ?_
          intro K hK
          go_simp
          refine hK.out _ _ (fun _ => hX2) ?_
          clear hK K
          refine regT_one 17 _ (by kernel_rfl) rfl ?_
          intro K hK
          go_simp
          refine hK.out _ _ (fun _ => hX2) ?_
          clear hK K
          refine regT_one 18 _ (by kernel_rfl) rfl ?_
          intro K hK
          go_simp
          refine hK.out _ _ (fun _ => hX2) ?_
          clear hK K
          refine regT_one 19 _ (by kernel_rfl) rfl ?_
          intro K hK
          go_simp
          refine hK.out _ _ (fun _ => hX2) ?_
          clear hK K
          refine regT_done (by kernel_rfl) ?_ _
          go_wp2
          go_ret
          exact ⟨rfl, hbg⟩
    · rw [HCt.out j hjL] at hyes
      cases hyes

end Go.Proofs.Ytlcnonhebppeiaa

namespace Go.Proofs.Ytlcnonhebppeiaa.simpleBends
open Go.ChangeShapes Go.WideShapes Go.ChangeAt Go.RowKit
open Go.ChangeMaps (open_string shut_string)
set_option linter.unusedVariables false

theorem own : ownKnob Try.prog.godebug = none := by kernel_rfl
theorem laidOut : laidOutB Try.prog = true := by kernel_rfl

set_option maxRecDepth 100000 in
theorem lifted (os : Os) (started : os.Started) (H : Type) (enc : TypeId × Value → H) :
    ReturnsInHanded {} Try.checked os 5 .any (Rows.simpleBendsSpec.pre6 enc Try.prog Try.f5 Rows.simpleBendsRow.domain false) (Rows.simpleBendsSpec.post enc Try.prog Try.f5 false true false false) := by
  refine returnsInHanded_of_change (C := Try.checked) own started (by kernel_rfl) Try.func5
    (ChangeSpec.witness6 (enc := enc) (C := Try.checked) false ⟨#[], #[.slice none 0 0, .slice none 0 0, .int .u16 0, .int .u8 0], []⟩ 8 (by kernel_rfl) (by kernel_rfl) (by kernel_rfl) (by kernel_rfl)) ?_
  intro W base args ds gs before hval0 hW hcnd _
  have hval : ∀ (j : Nat) t v, Try.f5.params[j]? = some t → args[j]? = some v → Value.okWide Try.prog W .any base t v := hval0
  have hW' := hW
  obtain ⟨p, q, hA0, hV, rfl, hfz, hnd⟩ := hW
  have hA : DataW.TrodAll enc Try.prog W 0 (fun _ => true) true Try.f5.params.toList args.toList ds p := hA0
  rw [Try.params5] at hA hval
  obtain ⟨v0, vs0, d0, ds0, p0, q0, hargs, rfl, rfl, h0, r0⟩ := trodAll_cons hA
  obtain ⟨v1, vs1, d1, ds1, p1, q1, rfl, rfl, rfl, h1, r1⟩ := trodAll_cons r0
  obtain ⟨v2, vs2, d2, ds2, p2, q2, rfl, rfl, rfl, h2, r2⟩ := trodAll_cons r1
  obtain ⟨v3, vs3, d3, ds3, p3, q3, rfl, rfl, rfl, h3, r3⟩ := trodAll_cons r2
  obtain ⟨rfl, rfl, rfl⟩ := trodAll_nil r3
  obtain rfl : args = #[v0, v1, v2, v3] := by cases args; simp_all
  obtain ⟨rfl, rfl⟩ := trodVars_none hV
  have k0 := h0
  have lt0 : ∀ x ∈ p0, x.block < W.heap.size := by obtain ⟨m, hm⟩ := k0; exact DataW.trod_lt m _ _ _ hm
  have k1 := h1
  have lt1 : ∀ x ∈ p1, x.block < W.heap.size := by obtain ⟨m, hm⟩ := k1; exact DataW.trod_lt m _ _ _ hm
  have k2 := h2
  have lt2 : ∀ x ∈ p2, x.block < W.heap.size := by obtain ⟨m, hm⟩ := k2; exact DataW.trod_lt m _ _ _ hm
  have k3 := h3
  have lt3 : ∀ x ∈ p3, x.block < W.heap.size := by obtain ⟨m, hm⟩ := k3; exact DataW.trod_lt m _ _ _ hm
  obtain ⟨QA, q, qc, ps, rfl, hq, hps, hqm, hqc⟩ := open_sps (hval 0 24 v0 rfl rfl) k0
  obtain ⟨A1, n1, c1, z1, rfl, hr1, hB1, hn1⟩ := open_bs (hval 1 25 v1 rfl rfl) k1
  obtain ⟨a2, rfl, rfl, rfl, u2⟩ := open_int Try.underlying54 (hval 2 54 v2 rfl rfl) h2
  have w2 := bounds_u16 u2
  obtain ⟨a3, rfl, rfl, rfl, u3⟩ := open_int Try.underlying5 (hval 3 5 v3 rfl rfl) h3
  have w3 := bounds_u8 u3
  clear hA0 hval0
  refine (law_SimpleBends QA q qc ps A1 n1 c1 z1 a2 a3 W hq hps hqc hqm hr1 hB1 hn1 w2.1 w2.2 w3.1 w3.2).mono fun e W' ⟨he, bel⟩ => ?_
  subst he
  exact ⟨_, rfl, _, _, _, [], _, [], hW', trodAll_mk1 (shut_bool Try.underlying4 _), (trodAll_cons_mk (Below.trod laidOut (by kernel_rfl) (of_decide_eq_true (by kernel_rfl)) k0 bel lt0) (trodAll_cons_mk (Below.trod laidOut (by kernel_rfl) (of_decide_eq_true (by kernel_rfl)) k1 bel lt1) (trodAll_cons_mk (Below.trod laidOut (by kernel_rfl) (of_decide_eq_true (by kernel_rfl)) k2 bel lt2) (trodAll_cons_mk (Below.trod laidOut (by kernel_rfl) (of_decide_eq_true (by kernel_rfl)) k3 bel lt3) trodAll_mk0)))), rfl, bel.frame _, fun h => by cases h⟩

theorem over : Rows.simpleBendsRow.holds Try.pinned (OpenSpec.ofChange Rows.simpleBendsSpec) :=
  OpenClaim.holds_of_wide 5 Try.f5 rfl rfl rfl rfl rfl rfl rfl ⟨rfl, rfl, rfl, rfl, rfl⟩ rfl rfl rfl rfl rfl (by kernel_rfl) Try.func5 (by kernel_rfl)
    (of_decide_eq_true (by kernel_rfl)) (by unfold Func.isWrapper; first | (rw [if_pos (by decide +kernel)]; kernel_rfl) | (rw [if_neg (by decide +kernel)]; exact ⟨rfl, rfl⟩))
    (fun os started H enc _ => lifted os started H enc)

theorem proved : Rows.SimpleBendsSaid := over
#print axioms proved
end Go.Proofs.Ytlcnonhebppeiaa.simpleBends
