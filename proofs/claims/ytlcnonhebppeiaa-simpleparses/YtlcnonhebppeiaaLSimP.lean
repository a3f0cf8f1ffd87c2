/- The law SimpleParses. -/
import Derived.Test.YtlcnonhebppeiaaSimW2
import Derived.Test.YtlcnonhebppeiaaSimG5
import Derived.Test.YtlcnonhebppeiaaSimG6
import Derived.Test.YtlcnonhebppeiaaSimZ2
import Derived.Test.YtlcnonhebppeiaaRegT
namespace Go.Proofs.Ytlcnonhebppeiaa
open Go.RowKit
set_option linter.unusedVariables false
set_option linter.unusedSimpArgs false

theorem Ext.blk {w0 w : World} (h : Ext w0 w) {b : Nat} {o : Obj} (hb : w0.heap[b]? = some o) : w.heap[b]? = some o := kept_block hb h
theorem glV0_rows (w : World) : glV0.rows w := ⟨Row.empty _ _, Row.empty _ _, RowS.empty _ _⟩

set_option maxRecDepth 100000 in
set_option maxHeartbeats 8000000 in
theorem law_SimpleParses (A : Option Addr) (n c : Nat) (zs : List Int) (w : World) (hr : Row w A n (cellsOf .u8 zs)) (hB : Bytes zs) (hn : n ≤ 9223372036854775807) :
    Calls Try.prog 4 #[.slice A n c] w (True_ w) := by
  have HAw := Lib.hid (awake12_any w)
  have HC : Hid (∀ W, Below w.heap.size w W → Calls Try.prog 17 #[.slice A n c, .int .i64 400] W (RetB W (zs.take (400 : Int).toNat))) := fun W hW => cut_any _ _ _ zs 400 W (hr.below hW) hn (by omega)
  have HBt : Hid (Bytes (zs.take (400 : Int).toNat)) := cut_bytes hB _
  have HLt : Hid ((zs.take (400 : Int).toNat).length ≤ 400) := by show _ ≤ _; rw [List.length_take]; simp; omega
  clear hr hB
  go_enter Try.func4, Try.ntmps4
  go_wp2_with fail
  with_reducible refine HAw.out.mono ?_
  rintro e w0 ⟨rfl, hb0⟩
  have HC0 := Lib.hid (HC.out w0 hb0)
  clear HAw HC
  go_wp2_with fail
  with_reducible refine HC0.out.mono ?_
  rintro e w1 ⟨A1, n1, c1, rfl, hown, hb1'⟩
  have hb1 : Below w.heap.size w w1 := hb0.trans (hb1'.mono hb0.size)
  have hl1 : n1 ≤ 400 := by have h1 := hown.len; have h2 := HLt.out; omega
  have hcap := hown.cap
  have hr1 := hown.row
  clear HC0 hb1' hb0 hown HLt
  generalize zs.take (400 : Int).toNat = ps at *
  have HP := Lib.hid (oparse_any A1 n1 c1 ps w1 hr1 HBt.out (by omega) hcap)
  have HR1 : Hid (∀ W, Below w1.heap.size w1 W → Calls Try.prog 28 #[.slice A1 n1 c1] W (RetRP W ps)) := fun W hW => rparse12_any A1 n1 c1 ps W (hr1.below hW) HBt.out (by omega)
  clear hr1
  go_wp2_with fail
  with_reducible refine HP.out.mono ?_
  rintro e w2 ⟨hb2, ⟨hno, rfl⟩ | ⟨g, a, v, hyes, rfl, hrows, hvg⟩⟩
  · have HNo := Lib.hid hno
    have hA := (Below.refl w2.heap.size w2).alloc (Nat.le_refl _) (.cells glZ 29)
    have hk := heap_alloc_new w2 (.cells glZ 29)
    have HR2 := Lib.hid (HR1.out _ (hb2.trans (hA.mono hb2.size)))
    have hbA := (hb1.trans (hb2.mono hb1.size)).trans (hA.mono (hb1.trans (hb2.mono hb1.size)).size)
    clear HR1 HP hno hA hb2 hb1
    unfold glV0 GlV.val GlV.cells
    simp only
    unfold glZ at hk HR2 hbA
    go_wp2_with fail
    generalize w2.alloc _ = V at *
    with_reducible refine HR2.out.mono ?_
    rintro e w3 ⟨hb3, ⟨hno, rfl⟩ | ⟨g, a, u, hyes, _⟩⟩
    · have hk3 := kept_block hk hb3
      have hb4 := hbA.trans (hb3.mono hbA.size)
      have hA4 := (Below.refl w3.heap.size w3).alloc (Nat.le_refl _) (.cells rg0 38)
      have hk4 := kept_block hk3 hA4
      have hb5 := hb4.trans (hA4.mono hb4.size)
      have HS : Hid (∀ W, Calls Try.prog 27 #[glV0.val, glV0.val] W (Ret W (.bool (glSame glV0.g glV0.g)))) := fun W => osame_any glV0 glV0 W (glV0_rows _) (glV0_rows _) (by decide) (by decide) (by decide) (by decide) (by decide) (by decide)
      rw [glSame_refl] at HS
      unfold glV0 GlV.val GlV.cells at HS
      simp only at HS
      unfold rg0 at hA4 hk4 hb5 ⊢
      obtain ⟨b0, b1, b2, b3, b4, b5, b6⟩ := cells7 hk4
      clear HR2 hb3 hk3 hb4 hA4 hk hbA hno hk4
      go_wp2_with fail
      generalize w3.alloc _ = V2 at *
      with_reducible refine (HS.out _).mono ?_
      rintro e w5 ⟨rfl, hb6⟩
      have hb7 := hb5.trans (hb6.mono hb5.size)
      go_wp2
      go_ret
      exact ⟨rfl, hb7⟩
    · rw [HNo.out] at hyes
      cases hyes
  · obtain ⟨hok, s1, s2, s3⟩ := oParse_ok HBt.out hyes
    subst hvg
    have HY := Lib.hid hyes
    have hE : v.en ≤ 1000000 := by have h1 : v.g.es.length = v.en := hrows.es.len; omega
    have hP : v.pn ≤ 1000000 := by have h1 : v.g.pr.length = v.pn := hrows.pr.len; omega
    have hS : v.sn ≤ 1000000 := by have := hrows.ps.len; omega
    have hA := (Below.refl w2.heap.size w2).alloc (Nat.le_refl _) (.cells v.cells 29)
    have hk := heap_alloc_new w2 (.cells v.cells 29)
    have hnew := heap_alloc_new w2 (.cells glZ 29)
    have HR2 := Lib.hid (HR1.out _ (hb2.trans (hA.mono hb2.size)))
    have hbA := (hb1.trans (hb2.mono hb1.size)).trans (hA.mono (hb1.trans (hb2.mono hb1.size)).size)
    have hrowsA := hrows.below hA
    have HOw : Hid (∀ W, v.rows W → Calls Try.prog 20 #[v.val] W (RetOwn W v)) := fun W hW => oown_any v W hW hE hS hok
    have HRows : Hid (v.rows (w2.alloc (.cells v.cells 29))) := hrowsA
    have HL : Hid (v.g.es.length ≤ 1000000 ∧ v.g.pr.length ≤ 1000000 ∧ v.g.ps.length ≤ 1000000) := ⟨s1, s2, s3⟩
    clear HR1 HP hyes hA hb2 hb1 hrows hrowsA hok s1 s2 s3 hE hP hS
    unfold glZ at hnew
    unfold GlV.val at *
    unfold GlV.cells at *
    obtain ⟨⟨x0, x1, x2, x3, es, pr, qs⟩, EA, en, ec, PA, pn, pc, SA, sn, sc⟩ := v
    simp only at *
    go_wp2_with fail
    generalize w2.alloc (.cells #[.int .i16 x0, .int .i16 x1, .int .i16 x2, .int .i16 x3, .slice EA en ec, .slice PA pn pc, .slice SA sn sc] 29) = V at *
    with_reducible refine HR2.out.mono ?_
    rintro e w3 ⟨hb3, ⟨hno, rfl⟩ | ⟨g, a', u, hyes, rfl, hu, hug, u1, u2, u3⟩⟩
    · rw [HY.out] at hno
      cases hno
    · have hae : a = a' ∧ g = Gl.mk x0 x1 x2 x3 es pr qs := by
        have := HY.out
        rw [hyes] at this
        simp only [Option.some.injEq, Prod.mk.injEq] at this
        exact ⟨this.2.symm, this.1⟩
      obtain ⟨rfl, rfl⟩ := hae
      have hk2 := kept_block hk hb3
      have hb4 := hbA.trans (hb3.mono hbA.size)
      have hA4 := (Below.refl w3.heap.size w3).alloc (Nat.le_refl _) (.cells u.cells 38)
      have hk4 := kept_block hk2 hA4
      have hk5 := heap_alloc_new w3 (.cells u.cells 38)
      have hb5 := hb4.trans (hA4.mono hb4.size)
      have hrows4 := HRows.out.below (hb3.trans (hA4.mono hb3.size))
      have hu4 := hu.below hA4
      have hnew2 := heap_alloc_new w3 (.cells rg0 38)
      have Hu := Lib.hid hu4
      have Hrows := Lib.hid hrows4
      have Hug := Lib.hid hug
      clear HR2 hb3 hk2 hb4 hA4 hk hbA hyes hrows4 hu4 hu hug HRows hnew HY
      unfold rg0 at hnew2
      have HSm : Hid (∀ (r : RlV) W, r.rows W → u.rows W → r.n ≤ 1000000 → r.pn ≤ 1000000 → r.q ≤ 1000000 → Calls Try.prog 29 #[r.val, u.val] W (Ret W (.bool (glSame r.g u.g)))) := fun r W h1 h2 h3 h4 h5 => rsame12_any r u W h1 h2 h3 h4 h5 u1 u2 u3
      clear u1 u2 u3
      unfold RlV.val at *
      unfold RlV.cells at *
      obtain ⟨⟨y0, y1, y2, y3, fs, qr, rs⟩, IB, n', ic', PB, pn', pc', QB, q', qc'⟩ := u
      simp only at *
      go_upto_region 8 with fail
      generalize w3.alloc (.cells #[.int .i64 y0, .int .i64 y1, .int .i64 y2, .int .i64 y3, .slice IB n' ic', .slice PB pn' pc', .slice QB q' qc'] 38) = V2 at *
      have hk3 : V2.drew.heap[w2.heap.size]? = _ := hk4
      have hk6 : V2.drew.heap[w3.heap.size]? = _ := hk5
      have hx0 : Ext V2.drew V2.drew := Ext.refl _
      refine regT_start 14 (Ext V2.drew) (by kernel_rfl) ?_
      refine regT_take (i := 0) (d := some 38) (v := ?_) [] hx0 rfl rfl (by kernel_rfl) (by kernel_rfl) (by kernel_rfl) (by kernel_rfl) (by kernel_rfl) (by decide) (fun _ _ _ h => h) (Or.inl ⟨by rfl, ?_⟩) ?_
      rotate_left
      · intro w' hx; (go_simp <;> with_reducible rfl)
      simp only [Act.put, List.setIfInBounds_toArray, List.set_cons_zero, List.set_cons_succ]
      refine regT_take (i := 1) (d := some 39) (v := ?_) [] hx0 rfl rfl (by kernel_rfl) (by kernel_rfl) (by kernel_rfl) (by kernel_rfl) (by kernel_rfl) (by decide) (fun _ _ _ h => h) (Or.inl ⟨by rfl, ?_⟩) ?_
      rotate_left
      · intro w' hx; (go_simp <;> with_reducible rfl)
      simp only [Act.put, List.setIfInBounds_toArray, List.set_cons_zero, List.set_cons_succ]
      refine regT_take (i := 2) (d := some 40) (v := ?_) [] hx0 rfl rfl (by kernel_rfl) (by kernel_rfl) (by kernel_rfl) (by kernel_rfl) (by kernel_rfl) (by decide) (fun _ _ _ h => h) (Or.inl ⟨by rfl, ?_⟩) ?_
      rotate_left
      · intro w' hx; (go_simp <;> with_reducible rfl)
      simp only [Act.put, List.setIfInBounds_toArray, List.set_cons_zero, List.set_cons_succ]
      refine regT_take (i := 3) (d := some 41) (v := ?_) [] hx0 rfl rfl (by kernel_rfl) (by kernel_rfl) (by kernel_rfl) (by kernel_rfl) (by kernel_rfl) (by decide) (fun _ _ _ h => h) (Or.inl ⟨by rfl, ?_⟩) ?_
      rotate_left
      · intro w' hx; (go_simp <;> with_reducible rfl)
      simp only [Act.put, List.setIfInBounds_toArray, List.set_cons_zero, List.set_cons_succ]
      refine regT_take (i := 4) (d := some 42) (v := ?_) [] hx0 rfl rfl (by kernel_rfl) (by kernel_rfl) (by kernel_rfl) (by kernel_rfl) (by kernel_rfl) (by decide) (fun _ _ _ h => h) (Or.inl ⟨by rfl, ?_⟩) ?_
      rotate_left
      · intro w' hx; (go_simp <;> with_reducible rfl)
      simp only [Act.put, List.setIfInBounds_toArray, List.set_cons_zero, List.set_cons_succ]
      refine regT_take (i := 5) (d := some 43) (v := ?_) [] hx0 rfl rfl (by kernel_rfl) (by kernel_rfl) (by kernel_rfl) (by kernel_rfl) (by kernel_rfl) (by decide) (fun _ _ _ h => h) (Or.inl ⟨by rfl, ?_⟩) ?_
      rotate_left
      · intro w' hx; (go_simp <;> with_reducible rfl)
      simp only [Act.put, List.setIfInBounds_toArray, List.set_cons_zero, List.set_cons_succ]
      refine regT_take (i := 6) (d := some 44) (v := ?_) [] hx0 rfl rfl (by kernel_rfl) (by kernel_rfl) (by kernel_rfl) (by kernel_rfl) (by kernel_rfl) (by decide) (fun _ _ _ h => h) (Or.inl ⟨by rfl, ?_⟩) ?_
      rotate_left
      · intro w' hx; (go_simp <;> with_reducible rfl)
      simp only [Act.put, List.setIfInBounds_toArray, List.set_cons_zero, List.set_cons_succ]
      refine regT_take (i := 7) (d := some 45) (v := ?_) [] hx0 rfl rfl (by kernel_rfl) (by kernel_rfl) (by kernel_rfl) (by kernel_rfl) (by kernel_rfl) (by decide) (fun _ _ _ h => h) (Or.inl ⟨by rfl, ?_⟩) ?_
      rotate_left
      · intro w' hx; (go_simp <;> with_reducible rfl)
      simp only [Act.put, List.setIfInBounds_toArray, List.set_cons_zero, List.set_cons_succ]
      refine regT_take (i := 8) (d := some 46) (v := ?_) [] hx0 rfl rfl (by kernel_rfl) (by kernel_rfl) (by kernel_rfl) (by kernel_rfl) (by kernel_rfl) (by decide) (fun _ _ _ h => h) (Or.inl ⟨by rfl, ?_⟩) ?_
      rotate_left
      · intro w' hx; obtain ⟨b0, b1, b2, b3, b4, b5, b6⟩ := cells7 (hx.blk hk3); (go_simp <;> with_reducible rfl)
      simp only [Act.put, List.setIfInBounds_toArray, List.set_cons_zero, List.set_cons_succ]
      refine regT_take (i := 10) (d := some 48) (v := ?_) [] hx0 rfl rfl (by kernel_rfl) (by kernel_rfl) (by kernel_rfl) (by kernel_rfl) (by kernel_rfl) (by decide) (fun _ _ _ h => h) (Or.inl ⟨by rfl, ?_⟩) ?_
      rotate_left
      · intro w' hx; obtain ⟨b0, b1, b2, b3, b4, b5, b6⟩ := cells7 (hx.blk hk6); (go_simp <;> with_reducible rfl)
      simp only [Act.put, List.setIfInBounds_toArray, List.set_cons_zero, List.set_cons_succ]
      refine regT_one 9 _ (by kernel_rfl) rfl ?_
      intro K hK
      go_simp
      refine (HOw.out _ (Hrows.out.below (Below.refl _ _).drew)).mono ?_
      rintro e W4 ⟨r, he, hr, hrg, hb⟩
      unfold RlV.val RlV.cells at he
      subst he
      have hX1 := hx0.call hb
      have hX3 : Below V2.heap.size V2 W4 := Below.trans (Below.refl _ V2).drew hX1
      have hR1 : r.n ≤ 1000000 := by have h1 : r.g.es.length = r.n := hr.es.len; rw [show r.g.es = es by rw [hrg]] at h1; have := HL.out.1; omega
      have hR2 : r.pn ≤ 1000000 := by have h1 : r.g.pr.length = r.pn := hr.pr.len; rw [show r.g.pr = pr by rw [hrg]] at h1; have := HL.out.2.1; omega
      have hR3 : r.q ≤ 1000000 := by have h1 : r.g.ps.length = r.q := hr.ps.len; rw [show r.g.ps = qs by rw [hrg]] at h1; have := HL.out.2.2; omega
      have HS2 := Lib.hid (HSm.out r W4 hr (Hu.out.below hX3) hR1 hR2 hR3)
      rw [hrg, Hug.out, glSame_refl] at HS2
      have hbf := hb5.trans (hX3.mono hb5.size)
      refine hK.out _ _ (fun _ => hX1) ?_
      clear hK K hb hr hR1 hR2 hR3 HSm HOw Hrows Hu HL
      refine regT_one 11 _ (by kernel_rfl) rfl ?_
      intro K hK
      go_simp
      refine HS2.out.mono ?_
      rintro e W5 ⟨rfl, hb6⟩
      have hX2 := hX1.call hb6
      have hbg := hbf.trans (hb6.mono hbf.size)
      refine hK.out _ _ (fun _ => hX2) ?_
      clear hK K
      refine regT_one 12 _ (by kernel_rfl) rfl ?_
      intro K hK
      go_simp
      refine hK.out _ _ (fun _ => hX2) ?_
      clear hK K
      refine regT_one 13 _ (by kernel_rfl) rfl ?_
      intro K hK
      go_simp
      refine hK.out _ _ (fun _ => hX2) ?_
      clear hK K
      refine regT_done (by kernel_rfl) ?_ _
      go_wp2
      go_ret
      exact ⟨rfl, hbg⟩

end Go.Proofs.Ytlcnonhebppeiaa
