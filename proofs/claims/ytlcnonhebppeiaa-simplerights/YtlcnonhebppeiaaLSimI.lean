/- The law SimpleRights. -/
import Derived.Test.YtlcnonhebppeiaaSimW2
import Derived.Test.YtlcnonhebppeiaaSimI2
import Derived.Test.YtlcnonhebppeiaaRegT
import Derived.Test.YtlcnonhebppeiaaSimO2
import Derived.Lib.MinMax
import Derived.Deep.DeepCutAuto
namespace Go.Proofs.Ytlcnonhebppeiaa
open Go.RowKit
set_option linter.unusedVariables false
set_option linter.unusedSimpArgs false

theorem ext_sz {w1 W : World} (h : Ext w1.drew W) : w1.heap.size ≤ W.heap.size := by have h2 := Below.size (show Below w1.drew.heap.size w1.drew W from h); exact h2
theorem own_empty (t : TypeId) (k : IntKind) (w : World) (B : Nat) (h : B ≤ w.heap.size) : Own t k (w.alloc (.cells #[] t)) B (some ⟨w.heap.size, 0, none⟩) 0 0 [] :=
  ⟨rfl, .inr ⟨w.heap.size, 0, #[], rfl, h, heap_alloc_new w _, by omega, by simp [maxLen], rfl, rfl⟩⟩
theorem ownS_empty {α : Type} (t : TypeId) (enc : α → List Value) (k : Nat) (w : World) (B : Nat) (h : B ≤ w.heap.size) : OwnS t enc k (w.alloc (.cells #[] t)) B (some ⟨w.heap.size, 0, none⟩) 0 0 [] :=
  ⟨rfl, by simp [flat], .inr ⟨w.heap.size, 0, #[], rfl, h, heap_alloc_new w _, by omega, by simp [maxLen], by simp, by simp [flat]⟩⟩

set_option maxRecDepth 100000 in
set_option maxHeartbeats 8000000 in
theorem law_SimpleRights (v : GlV) (w : World) (hr : v.rows w) (ho : v.g.ok) (e1 : v.en ≤ 9223372036854775807) (e2 : v.pn ≤ 9223372036854775807) (e3 : v.sn ≤ 9223372036854775807) (e4 : v.en ≤ v.ec) (e5 : v.sn ≤ v.sc) : Calls Try.prog 7 #[v.val] w (True_ w) := by
  obtain ⟨i1, hi1, hz01, hz11, hz21⟩ := info_parts Try.spinfo
  obtain ⟨i2, hi2, hz02, hz12, hz22⟩ := info_parts Try.u16info
  have hA := (Below.refl w.heap.size w).alloc (Nat.le_refl _) (.cells v.cells 29)
  have hk := heap_alloc_new w (.cells v.cells 29)
  have HAw := Lib.hid (awake12_any (w.alloc (.cells v.cells 29)))
  have HR := Lib.hid (hr.below hA)
  have HOk := Lib.hid ho
  clear hr ho
  unfold GlV.val at *
  unfold GlV.cells at *
  obtain ⟨⟨x0, x1, x2, x3, es, pr, ps⟩, EA, en, ec, PA, pn, pc, SA, sn, sc⟩ := v
  simp only at *
  go_enter Try.func7, Try.ntmps7
  go_wp2_with fail
  with_reducible refine HAw.out.mono ?_
  rintro e w1 ⟨rfl, hb1⟩
  have hk1 := kept_block hk hb1
  have hbw1 := hA.trans (hb1.mono hA.size)
  have HR1 := Lib.hid (HR.out.below hb1)
  clear HAw HR hk hb1 hA
  go_upto_region 3 with fail
  have hkd : w1.drew.heap[w.heap.size]? = some (.cells #[.int .i16 x0, .int .i16 x1, .int .i16 x2, .int .i16 x3, .slice EA en ec, .slice PA pn pc, .slice SA sn sc] 29 (0, 0)) := hk1
  obtain ⟨c0, c1, c2, c3, c4, c5, c6⟩ := cells7 hkd
  obtain ⟨m, hm⟩ : ∃ m : Nat, m = min en 30 := ⟨_, rfl⟩
  obtain ⟨l, hl⟩ : ∃ l : Nat, l = min sn 60 := ⟨_, rfl⟩
  have hmE : min (en : Int) 30 = (m : Int) := by omega
  have hlE : min (sn : Int) 60 = (l : Int) := by omega
  have s0 : (0 : Int) ≤ (m : Int) := by omega
  have s1 : (m : Int) ≤ (en : Int) := by omega
  have s2 : (en : Int) ≤ (ec : Int) := by omega
  have s3 : (m : Int) ≤ (ec : Int) := by omega
  have s4 : (0 : Int) ≤ (l : Int) := by omega
  have s5 : (l : Int) ≤ (sn : Int) := by omega
  have s6 : (sn : Int) ≤ (sc : Int) := by omega
  have s7 : (l : Int) ≤ (sc : Int) := by omega
  have hm1 : m ≤ 30 := by omega
  have hl1 : l ≤ 60 := by omega
  have hx0 : Ext w1.drew w1.drew := Ext.refl _
  have Hm := Lib.hid hm
  have Hl := Lib.hid hl
  clear hm hl c0 c1 c2 c3
  have hrd := HR1.out.below ((Below.refl w1.heap.size w1).drew)
  have hmen : m ≤ en := by omega
  have hlsn : l ≤ sn := by omega
  have HPs : Hid (∀ W, Ext w1.drew W → RowS encSp 3 W SA l (ps.take l)) := fun W hW => (RowS.take encSp_len hrd.ps hlsn).below hW
  have HEs : Hid (∀ W, Ext w1.drew W → Row W EA m (cellsOf .u16 (es.take m))) := fun W hW => by
    have h := Row.below (Row.take hrd.es hmen) hW
    rwa [cellsOf_take] at h
  have HC : Hid (∀ W, Ext w1.drew W → Calls Try.prog 17 #[.slice PA pn pc, .int .i64 30] W (RetB W (pr.take 30))) := fun W hW => cut_any _ _ _ pr 30 W (hrd.pr.below hW) e2 (by omega)
  have hbx : w.heap.size < w1.heap.size := lt_of_block hk1
  have HPost : Hid (∀ (W : World) (E2 : Option Addr) (c2 : Nat) (P2 : Option Addr) (n2 d2 : Nat) (S2 : Option Addr) (k2 : Nat), Ext w1.drew W → Own 54 .u16 W w1.heap.size E2 m c2 (es.take m) → OwnB W w1.heap.size P2 n2 d2 (pr.take 30) → OwnS 60 encSp 3 W w1.heap.size S2 l k2 (ps.take l) → (fun wx => ∃ (E2 : Option Addr) (c2 : Nat) (P2 : Option Addr) (n2 d2 : Nat) (S2 : Option Addr) (k2 : Nat), wx.heap[w.heap.size]? = some (.cells #[.int .i16 x0, .int .i16 x1, .int .i16 x2, .int .i16 x3, .slice E2 m c2, .slice P2 n2 d2, .slice S2 l k2] 29 (0, 0)) ∧ GlV.rows wx ⟨⟨x0, x1, x2, x3, es.take m, pr.take 30, ps.take l⟩, E2, m, c2, P2, n2, d2, S2, l, k2⟩ ∧ n2 ≤ 30 ∧ l ≤ k2 ∧ Below w.heap.size w wx) (((W.setCell ⟨w.heap.size, 4, none⟩ (.slice E2 m c2)).setCell ⟨w.heap.size, 6, none⟩ (.slice S2 l k2)).setCell ⟨w.heap.size, 5, none⟩ (.slice P2 n2 d2))) := by
    intro W E2 c2 P2 n2 d2 S2 k2 hX hE hC hP
    have hk4 := kept_block hkd hX
    have hsz : w1.heap.size ≤ W.heap.size := ext_sz (w1 := w1) hX
    have hfar : ∀ g, w1.heap.size ≤ g → (((W.setCell ⟨w.heap.size, 4, none⟩ (.slice E2 m c2)).setCell ⟨w.heap.size, 6, none⟩ (.slice S2 l k2)).setCell ⟨w.heap.size, 5, none⟩ (.slice P2 n2 d2)).heap[g]? = W.heap[g]? := fun g hg =>
      (Below.heap_setCell _ _ _ _ (show g ≠ w.heap.size by omega)).trans ((Below.heap_setCell _ _ _ _ (show g ≠ w.heap.size by omega)).trans (Below.heap_setCell _ _ _ _ (show g ≠ w.heap.size by omega)))
    have hbw : Below w.heap.size w W := (hbw1.drew).trans (Below.mono hX (by have := hbw1.size; exact this))
    refine ⟨E2, c2, P2, n2, d2, S2, k2, ?_, ⟨?_, ?_, ?_⟩, ?_, hP.cap, ?_⟩
    · have h1 := set_block (set_block (set_block hk4 4 (.slice E2 m c2)) 6 (.slice S2 l k2)) 5 (.slice P2 n2 d2)
      simpa using h1
    · exact hE.row.keep (by simp [World.setCell]) (fun g e _ => hfar g (hE.from_ g e).1)
    · exact hC.row.keep (by simp [World.setCell]) (fun g e _ => hfar g (hC.from_ g e).1)
    · exact (hP.row encSp_len).keep (by simp [World.setCell]) (fun g e _ => hfar g (hP.from_ g e).1)
    · have h1 := hC.len
      rw [List.length_take] at h1
      omega
    · exact ((hbw.setCell (p := ⟨w.heap.size, 4, none⟩) (Nat.le_refl _) _).setCell (p := ⟨w.heap.size, 6, none⟩) (Nat.le_refl _) _).setCell (p := ⟨w.heap.size, 5, none⟩) (Nat.le_refl _) _
  go_cut [] (fun wx => ∃ (E2 : Option Addr) (c2 : Nat) (P2 : Option Addr) (n2 d2 : Nat) (S2 : Option Addr) (k2 : Nat), wx.heap[w.heap.size]? = some (.cells #[.int .i16 x0, .int .i16 x1, .int .i16 x2, .int .i16 x3, .slice E2 m c2, .slice P2 n2 d2, .slice S2 l k2] 29 (0, 0)) ∧ GlV.rows wx ⟨⟨x0, x1, x2, x3, es.take m, pr.take 30, ps.take l⟩, E2, m, c2, P2, n2, d2, S2, l, k2⟩ ∧ n2 ≤ 30 ∧ l ≤ k2 ∧ Below w.heap.size w wx)
  case rest =>
    obtain ⟨E2, c2, P2, n2, d2, S2, k2, hbk, hrw, hn2, hk2, hbl⟩ := hcut
    have hokG : Gl.ok ⟨x0, x1, x2, x3, es.take m, pr.take 30, ps.take l⟩ := ⟨HOk.out.bx, fun x hx => HOk.out.es x (List.mem_of_mem_take hx), fun x hx => HOk.out.pr x (List.mem_of_mem_take hx), fun p hp => HOk.out.ps p (List.mem_of_mem_take hp)⟩
    have hfewG : GlV.few ⟨⟨x0, x1, x2, x3, es.take m, pr.take 30, ps.take l⟩, E2, m, c2, P2, n2, d2, S2, l, k2⟩ := ⟨by show m ≤ 10000; omega, by show n2 ≤ 10000; omega, by show l ≤ 10000; omega⟩
    have HOw : Hid (Calls Try.prog 20 #[.agg #[.int .i16 x0, .int .i16 x1, .int .i16 x2, .int .i16 x3, .slice E2 m c2, .slice P2 n2 d2, .slice S2 l k2]] wc (RetOwn wc ⟨⟨x0, x1, x2, x3, es.take m, pr.take 30, ps.take l⟩, E2, m, c2, P2, n2, d2, S2, l, k2⟩)) := (oown_any ⟨⟨x0, x1, x2, x3, es.take m, pr.take 30, ps.take l⟩, E2, m, c2, P2, n2, d2, S2, l, k2⟩ wc hrw (by show m ≤ 1000000; omega) (by show l ≤ 1000000; omega) hokG)
    have HRg : Hid (∀ W, Below wc.heap.size wc W → Calls Try.prog 21 #[.agg #[.int .i16 x0, .int .i16 x1, .int .i16 x2, .int .i16 x3, .slice E2 m c2, .slice P2 n2 d2, .slice S2 l k2]] W (Ret W (.bool (oRight ⟨x0, x1, x2, x3, es.take m, pr.take 30, ps.take l⟩)))) := fun W hW => oright_any ⟨⟨x0, x1, x2, x3, es.take m, pr.take 30, ps.take l⟩, E2, m, c2, P2, n2, d2, S2, l, k2⟩ W (hrw.below hW) hfewG hokG
    have HBy : Hid (∀ W, Below wc.heap.size wc W → Calls Try.prog 18 #[.agg #[.int .i16 x0, .int .i16 x1, .int .i16 x2, .int .i16 x3, .slice E2 m c2, .slice P2 n2 d2, .slice S2 l k2]] W (RetB W (oBytes ⟨x0, x1, x2, x3, es.take m, pr.take 30, ps.take l⟩))) := fun W hW => obytes_any ⟨⟨x0, x1, x2, x3, es.take m, pr.take 30, ps.take l⟩, E2, m, c2, P2, n2, d2, S2, l, k2⟩ W (hrw.below hW) hfewG hokG
    have HSm : Hid (∀ W, Below wc.heap.size wc W → Calls Try.prog 27 #[.agg #[.int .i16 x0, .int .i16 x1, .int .i16 x2, .int .i16 x3, .slice E2 m c2, .slice P2 n2 d2, .slice S2 l k2], .agg #[.int .i16 x0, .int .i16 x1, .int .i16 x2, .int .i16 x3, .slice E2 m c2, .slice P2 n2 d2, .slice S2 l k2]] W (Ret W (.bool true))) := fun W hW => by
      have h := osame_any ⟨⟨x0, x1, x2, x3, es.take m, pr.take 30, ps.take l⟩, E2, m, c2, P2, n2, d2, S2, l, k2⟩ ⟨⟨x0, x1, x2, x3, es.take m, pr.take 30, ps.take l⟩, E2, m, c2, P2, n2, d2, S2, l, k2⟩ W (hrw.below hW) (hrw.below hW) (by show m ≤ 1000000; omega) (by show n2 ≤ 1000000; omega) (by show l ≤ 1000000; omega) (by show m ≤ 1000000; omega) (by show n2 ≤ 1000000; omega) (by show l ≤ 1000000; omega)
      rw [glSame_refl] at h
      exact h
    have HLn : Hid (((oBytes ⟨x0, x1, x2, x3, es.take m, pr.take 30, ps.take l⟩).length = 0 ∧ oRight ⟨x0, x1, x2, x3, es.take m, pr.take 30, ps.take l⟩ = false) ∨ (0 < (oBytes ⟨x0, x1, x2, x3, es.take m, pr.take 30, ps.take l⟩).length ∧ oRight ⟨x0, x1, x2, x3, es.take m, pr.take 30, ps.take l⟩ = true)) := by
      unfold oBytes
      cases hR : oRight ⟨x0, x1, x2, x3, es.take m, pr.take 30, ps.take l⟩
      · exact .inl ⟨rfl, rfl⟩
      · refine .inr ⟨?_, rfl⟩
        rw [if_pos rfl]
        unfold oB
        rw [List.length_append, List.length_append, List.length_append, oFront_len]
        omega
    have HokG := Lib.hid hokG
    obtain ⟨b0, b1, b2, b3, b4, b5, b6⟩ := cells7 hbk
    generalize hbR : oRight ⟨x0, x1, x2, x3, es.take m, pr.take 30, ps.take l⟩ = bR at *
    have HbR := Lib.hid hbR
    clear hbR hokG hfewG hrw HPost HR1 HPs HEs HC hkd
    go_wp2_with fail
    with_reducible refine HOw.out.mono ?_
    rintro e w5 ⟨r, rfl, hrr, hrg, hb5⟩
    have hrg2 : r.g = ⟨x0, x1, x2, x3, es.take m, pr.take 30, ps.take l⟩ := hrg
    have HRr := Lib.hid (rright12_any r w5 hrr (by have h := hrr.es.len; rw [hrg2] at h; simp only [List.length_take] at h; omega) (by have h := hrr.pr.len; rw [hrg2] at h; simp only [List.length_take] at h; omega) (by have h := hrr.ps.len; rw [hrg2] at h; simp only [List.length_take] at h; omega) (by rw [hrg2]; exact HokG.out))
    rw [hrg2, HbR.out] at HRr
    clear hrr hrg hrg2 HOw b0 b1 b2 b3 b4 b5 b6
    go_wp2_with fail
    with_reducible refine HRr.out.mono ?_
    rintro e w6 ⟨rfl, hb6⟩
    have hB6 := hb5.trans (hb6.mono hb5.size)
    obtain ⟨b0, b1, b2, b3, b4, b5, b6⟩ := cells7 (kept_block hbk hB6)
    have H1 := Lib.hid (HRg.out w6 hB6)
    clear HRr hb5 hb6
    go_wp2_with fail
    with_reducible refine H1.out.mono ?_
    rintro e w7 ⟨rfl, hb7⟩
    have hB7 := hB6.trans (hb7.mono hB6.size)
    clear b0 b1 b2 b3 b4 b5 b6 H1 hb7 HRg hB6
    obtain ⟨b0, b1, b2, b3, b4, b5, b6⟩ := cells7 (kept_block hbk hB7)
    have H2 := Lib.hid (HBy.out w7 hB7)
    go_wp2_with fail
    with_reducible refine H2.out.mono ?_
    rintro e w8 ⟨A8, n8, c8, rfl, ho8, hb8⟩
    have hB8 := hB7.trans (hb8.mono hB7.size)
    have hl8 := ho8.len
    have HL : (n8 = 0 ∧ bR = false) ∨ (0 < n8 ∧ bR = true) := by rw [← hl8]; exact HLn.out
    clear b0 b1 b2 b3 b4 b5 b6 H2 hb8 HBy hB7 ho8 hl8 HLn
    obtain ⟨b0, b1, b2, b3, b4, b5, b6⟩ := cells7 (kept_block hbk hB8)
    have H3 := Lib.hid (HSm.out w8 hB8)
    have hbf := hbl.trans (hB8.mono hbl.size)
    clear HSm hbk
    rcases HL with ⟨h1, h2⟩ | ⟨h1, h2⟩
    · subst h1 h2
      go_wp2_with fail
      with_reducible refine H3.out.mono ?_
      rintro e w9 ⟨rfl, hb9⟩
      have hbg := hbf.trans (hb9.mono hbf.size)
      go_wp2
      go_ret
      exact ⟨rfl, hbg⟩
    · subst h2
      have h1' : (0 : Int) < (n8 : Int) := by omega
      go_wp2_with fail
      with_reducible refine H3.out.mono ?_
      rintro e w9 ⟨rfl, hb9⟩
      have hbg := hbf.trans (hb9.mono hbf.size)
      go_wp2
      go_ret
      exact ⟨rfl, hbg⟩
  refine regT_start 22 (Ext w1.drew) (by kernel_rfl) ?_
  refine regT_take (i := 1) (d := some 7) (v := ?_) [] hx0 rfl rfl (by kernel_rfl) (by kernel_rfl) (by kernel_rfl) (by kernel_rfl) (by kernel_rfl) (by decide) (fun _ _ _ h => h) (Or.inl ⟨by rfl, ?_⟩) ?_
  rotate_left
  · intro w' hx; (go_simp <;> with_reducible rfl)
  simp only [Act.put, List.setIfInBounds_toArray, List.set_cons_zero, List.set_cons_succ]
  refine regT_take (i := 2) (d := some 8) (v := ?_) [] hx0 rfl rfl (by kernel_rfl) (by kernel_rfl) (by kernel_rfl) (by kernel_rfl) (by kernel_rfl) (by decide) (fun _ _ _ h => h) (Or.inl ⟨by rfl, ?_⟩) ?_
  rotate_left
  · intro w' hx; have q0 := hx.cell c4; (go_simp <;> with_reducible rfl)
  simp only [Act.put, List.setIfInBounds_toArray, List.set_cons_zero, List.set_cons_succ]
  refine regT_take (i := 3) (d := some 9) (v := ?_) [] hx0 rfl rfl (by kernel_rfl) (by kernel_rfl) (by kernel_rfl) (by kernel_rfl) (by kernel_rfl) (by decide) (fun _ _ _ h => h) (Or.inl ⟨by rfl, ?_⟩) ?_
  rotate_left
  · intro w' hx; (go_simp <;> with_reducible rfl)
  simp only [Act.put, List.setIfInBounds_toArray, List.set_cons_zero, List.set_cons_succ]
  refine regT_take (i := 4) (d := some 10) (v := ?_) [] hx0 rfl rfl (by kernel_rfl) (by kernel_rfl) (by kernel_rfl) (by kernel_rfl) (by kernel_rfl) (by decide) (fun _ _ _ h => h) (Or.inl ⟨by rfl, ?_⟩) ?_
  rotate_left
  · intro w' hx; have q0 := hx.cell c4; (go_simp <;> with_reducible rfl)
  simp only [Act.put, List.setIfInBounds_toArray, List.set_cons_zero, List.set_cons_succ]
  refine regT_take (i := 5) (d := some 11) (v := ?_) [] hx0 rfl rfl (by kernel_rfl) (by kernel_rfl) (by kernel_rfl) (by kernel_rfl) (by kernel_rfl) (by decide) (fun _ _ _ h => h) (Or.inl ⟨by rfl, ?_⟩) ?_
  rotate_left
  · intro w' hx; (go_simp <;> with_reducible rfl)
  simp only [Act.put, List.setIfInBounds_toArray, List.set_cons_zero, List.set_cons_succ]
  refine regT_take (i := 6) (d := some 12) (v := ?_) [] hx0 rfl rfl (by kernel_rfl) (by kernel_rfl) (by kernel_rfl) (by kernel_rfl) (by kernel_rfl) (by decide) (fun _ _ _ h => h) (Or.inl ⟨by rfl, ?_⟩) ?_
  rotate_left
  · intro w' hx; (go_simp <;> with_reducible rfl)
  simp only [Act.put, List.setIfInBounds_toArray, List.set_cons_zero, List.set_cons_succ]
  try rw [hmE]
  refine regT_take (i := 7) (d := some 13) (v := ?_) [] hx0 rfl rfl (by kernel_rfl) (by kernel_rfl) (by kernel_rfl) (by kernel_rfl) (by kernel_rfl) (by decide) (fun _ _ _ h => h) (Or.inl ⟨by rfl, ?_⟩) ?_
  rotate_left
  · intro w' hx; (go_simp <;> with_reducible rfl)
  simp only [Act.put, List.setIfInBounds_toArray, List.set_cons_zero, List.set_cons_succ]
  refine regT_take (i := 10) (d := some 16) (v := ?_) [] hx0 rfl rfl (by kernel_rfl) (by kernel_rfl) (by kernel_rfl) (by kernel_rfl) (by kernel_rfl) (by decide) (fun _ _ _ h => h) (Or.inl ⟨by rfl, ?_⟩) ?_
  rotate_left
  · intro w' hx; (go_simp <;> with_reducible rfl)
  simp only [Act.put, List.setIfInBounds_toArray, List.set_cons_zero, List.set_cons_succ]
  refine regT_take (i := 11) (d := some 17) (v := ?_) [] hx0 rfl rfl (by kernel_rfl) (by kernel_rfl) (by kernel_rfl) (by kernel_rfl) (by kernel_rfl) (by decide) (fun _ _ _ h => h) (Or.inl ⟨by rfl, ?_⟩) ?_
  rotate_left
  · intro w' hx; have q0 := hx.cell c6; (go_simp <;> with_reducible rfl)
  simp only [Act.put, List.setIfInBounds_toArray, List.set_cons_zero, List.set_cons_succ]
  refine regT_take (i := 12) (d := some 18) (v := ?_) [] hx0 rfl rfl (by kernel_rfl) (by kernel_rfl) (by kernel_rfl) (by kernel_rfl) (by kernel_rfl) (by decide) (fun _ _ _ h => h) (Or.inl ⟨by rfl, ?_⟩) ?_
  rotate_left
  · intro w' hx; (go_simp <;> with_reducible rfl)
  simp only [Act.put, List.setIfInBounds_toArray, List.set_cons_zero, List.set_cons_succ]
  refine regT_take (i := 13) (d := some 19) (v := ?_) [] hx0 rfl rfl (by kernel_rfl) (by kernel_rfl) (by kernel_rfl) (by kernel_rfl) (by kernel_rfl) (by decide) (fun _ _ _ h => h) (Or.inl ⟨by rfl, ?_⟩) ?_
  rotate_left
  · intro w' hx; have q0 := hx.cell c6; (go_simp <;> with_reducible rfl)
  simp only [Act.put, List.setIfInBounds_toArray, List.set_cons_zero, List.set_cons_succ]
  refine regT_take (i := 14) (d := some 20) (v := ?_) [20, 17, 16, 15] hx0 rfl rfl (by kernel_rfl) (by kernel_rfl) (by kernel_rfl) (by kernel_rfl) (by kernel_rfl) (by decide) (fun _ _ _ h => h) (Or.inl ⟨by rfl, ?_⟩) ?_
  rotate_left
  · intro w' hx; (go_simp <;> with_reducible rfl)
  simp only [Act.put, List.setIfInBounds_toArray, List.set_cons_zero, List.set_cons_succ]
  refine regT_take (i := 15) (d := some 21) (v := ?_) [20, 17, 16] hx0 rfl rfl (by kernel_rfl) (by kernel_rfl) (by kernel_rfl) (by kernel_rfl) (by kernel_rfl) (by decide) (fun _ _ _ h => h) (Or.inl ⟨by rfl, ?_⟩) ?_
  rotate_left
  · intro w' hx; (go_simp <;> with_reducible rfl)
  simp only [Act.put, List.setIfInBounds_toArray, List.set_cons_zero, List.set_cons_succ]
  try rw [hlE]
  refine regT_take (i := 16) (d := some 22) (v := ?_) [20, 17] hx0 rfl rfl (by kernel_rfl) (by kernel_rfl) (by kernel_rfl) (by kernel_rfl) (by kernel_rfl) (by decide) (fun _ _ _ h => h) (Or.inl ⟨by rfl, ?_⟩) ?_
  rotate_left
  · intro w' hx; (go_simp <;> with_reducible rfl)
  simp only [Act.put, List.setIfInBounds_toArray, List.set_cons_zero, List.set_cons_succ]
  refine regT_take (i := 18) (d := some 24) (v := ?_) [] hx0 rfl rfl (by kernel_rfl) (by kernel_rfl) (by kernel_rfl) (by kernel_rfl) (by kernel_rfl) (by decide) (fun _ _ _ h => h) (Or.inl ⟨by rfl, ?_⟩) ?_
  rotate_left
  · intro w' hx; (go_simp <;> with_reducible rfl)
  simp only [Act.put, List.setIfInBounds_toArray, List.set_cons_zero, List.set_cons_succ]
  refine regT_take (i := 19) (d := some 25) (v := ?_) [] hx0 rfl rfl (by kernel_rfl) (by kernel_rfl) (by kernel_rfl) (by kernel_rfl) (by kernel_rfl) (by decide) (fun _ _ _ h => h) (Or.inl ⟨by rfl, ?_⟩) ?_
  rotate_left
  · intro w' hx; have q0 := hx.cell c5; (go_simp <;> with_reducible rfl)
  simp only [Act.put, List.setIfInBounds_toArray, List.set_cons_zero, List.set_cons_succ]
  refine regT_two 0 9 _ _ (by kernel_rfl) rfl rfl ?_ ?_
  · skip
    intro K hK
    go_simp
    have hx0a := hx0.new (.cells #[] 54)
    have hE := own_empty 54 .u16 w1.drew w1.heap.size (ext_sz (w1 := w1) hx0)
    refine hK.out _ _ (fun _ => hx0a) ?_
    clear hK K
    refine regT_two 8 9 _ _ (by kernel_rfl) rfl rfl ?_ ?_
    · skip
      intro K hK
      refine step_append_row rfl (.tmp 6) (.tmp 13) _ rfl 54 .u16 w1.heap.size i2 2 Try.underlying27 hi2 hz02 hz12 hz22 _ 0 0 [] rfl hE EA m ec (es.take m) rfl (HEs.out _ hx0a) (by omega) (by omega) (ext_sz (w1 := w1) hx0a) ?_
      intro E2 c2 W2 hE2 hg2
      have hX2 : Ext w1.drew W2 := Below.grown hx0a hg2 (ext_sz (w1 := w1) hx0a) (fun g e => (hE.from_ g e).1)
      rw [Nat.zero_add, List.nil_append] at hE2
      rw [Nat.zero_add]
      refine hK.out _ _ (fun _ => hX2) ?_
      clear hK K
      simp only [Act.put, List.setIfInBounds_toArray, List.set_cons_zero, List.set_cons_succ]
      refine regT_take (i := 21) (d := some 27) (v := ?_) [] hX2 rfl rfl (by kernel_rfl) (by kernel_rfl) (by kernel_rfl) (by kernel_rfl) (by kernel_rfl) (by decide) (fun _ _ _ h => h) (Or.inl ⟨by rfl, ?_⟩) ?_
      rotate_left
      · intro w' hx; (go_simp <;> with_reducible rfl)
      simp only [Act.put, List.setIfInBounds_toArray, List.set_cons_zero, List.set_cons_succ]
      refine regT_one 9 _ (by kernel_rfl) rfl ?_
      intro K hK
      go_simp
      have hX2a := hX2.new (.cells #[] 60)
      have hP := ownS_empty 60 encSp 3 W2 w1.heap.size (ext_sz (w1 := w1) hX2)
      have hE3 := hE2.below ((Below.refl W2.heap.size W2).alloc (Nat.le_refl _) (.cells #[] 60))
      refine hK.out _ _ (fun _ => hX2a) ?_
      clear hK K
      have hX := hX2a
      have hE := hE3
      refine regT_one 17 _ (by kernel_rfl) rfl ?_
      intro K hK
      refine step_append_rowS rfl (.tmp 15) (.tmp 22) _ rfl 60 encSp 3 encSp_len (by omega) encSp_one w1.heap.size i1 _ 6 Try.underlying24 hi1 hz01 hz11 rfl hz21 _ 0 0 [] rfl hP SA l sc (ps.take l) rfl (HPs.out _ hX) (by omega) (by omega) (ext_sz (w1 := w1) hX) ?_
      intro S2 k2 W3 hP3 hg3
      have hX3 : Ext w1.drew W3 := Below.grown hX hg3 (ext_sz (w1 := w1) hX) (fun g e => (hP.from_ g e).1)
      have hE3 := hE.keep (fun g e => hg3.block g (hE.from_ g e).2 (own_neSS hE hP (by decide) g e))
      rw [Nat.zero_add, List.nil_append] at hP3
      rw [Nat.zero_add]
      refine hK.out _ _ (fun _ => hX3) ?_
      clear hK K
      simp only [Act.put, List.setIfInBounds_toArray, List.set_cons_zero, List.set_cons_succ]
      refine regT_one 20 _ (by kernel_rfl) rfl ?_
      intro K hK
      go_simp
      refine (HC.out _ hX3).mono ?_
      rintro e W4 ⟨P2, n2, d2, rfl, hC4, hb4⟩
      have hX4 := hX3.call hb4
      have hE4 := hE3.below hb4
      have hP4 := hP3.below hb4
      have hC5 := hC4.mono (B' := w1.heap.size) (ext_sz (w1 := w1) hX3)
      refine hK.out _ _ (fun _ => hX4) ?_
      clear hK K hC4 hb4 hE hP hg3 hX hE3 hP3 hX3
      have hk4 := kept_block hkd hX4
      obtain ⟨z0, z1, z2, z3, z4, z5, z6⟩ := cells7 hk4
      have zf := thawed hk4
      refine regT_one 22 _ (by kernel_rfl) rfl ?_
      intro K hK
      go_simp
      refine hK.out _ _ (fun h => absurd h (by decide)) ?_
      clear hK K
      refine regT_one 23 _ (by kernel_rfl) rfl ?_
      intro K hK
      go_simp
      refine hK.out _ _ (fun h => absurd h (by decide)) ?_
      clear hK K
      refine regT_one 24 _ (by kernel_rfl) rfl ?_
      intro K hK
      go_simp
      refine hK.out _ _ (fun h => absurd h (by decide)) ?_
      clear hK K
      refine regT_one 25 _ (by kernel_rfl) rfl ?_
      intro K hK
      go_simp
      refine hK.out _ _ (fun h => absurd h (by decide)) ?_
      clear hK K
      refine regT_one 26 _ (by kernel_rfl) rfl ?_
      intro K hK
      go_simp
      refine hK.out _ _ (fun h => absurd h (by decide)) ?_
      clear hK K
      refine regT_done (by kernel_rfl) ?_ _
      go_wp2_with fail
      go_meet
      exact HPost.out _ _ _ _ _ _ _ _ hX4 hE4 hC5 hP4
    · skip
      intro K hK
      go_simp
      have hx0aa := hx0a.new (.cells #[] 60)
      have hP := ownS_empty 60 encSp 3 (w1.drew.alloc (.cells #[] 54)) w1.heap.size (ext_sz (w1 := w1) hx0a)
      rw [show (w1.drew.alloc (.cells #[] 54)).heap.size = w1.heap.size + 1 by simp] at hP
      have hE' := hE.below ((Below.refl (w1.drew.alloc (.cells #[] 54)).heap.size (w1.drew.alloc (.cells #[] 54))).alloc (Nat.le_refl _) (.cells #[] 60))
      refine hK.out _ _ (fun _ => hx0aa) ?_
      clear hK K
      refine regT_one 8 _ (by kernel_rfl) rfl ?_
      intro K hK
      refine step_append_row rfl (.tmp 6) (.tmp 13) _ rfl 54 .u16 w1.heap.size i2 2 Try.underlying27 hi2 hz02 hz12 hz22 _ 0 0 [] rfl hE' EA m ec (es.take m) rfl (HEs.out _ hx0aa) (by omega) (by omega) (ext_sz (w1 := w1) hx0aa) ?_
      intro E2 c2 W2 hE2 hg2
      have hX2 : Ext w1.drew W2 := Below.grown hx0aa hg2 (ext_sz (w1 := w1) hx0aa) (fun g e => (hE'.from_ g e).1)
      have hP2 := hP.keep (fun g e => hg2.block g (hP.from_ g e).2 (fun e2 => own_neSS hE' hP (by decide) g e2.symm e.symm))
      rw [Nat.zero_add, List.nil_append] at hE2
      rw [Nat.zero_add]
      refine hK.out _ _ (fun _ => hX2) ?_
      clear hK K
      simp only [Act.put, List.setIfInBounds_toArray, List.set_cons_zero, List.set_cons_succ]
      refine regT_take (i := 21) (d := some 27) (v := ?_) [] hX2 rfl rfl (by kernel_rfl) (by kernel_rfl) (by kernel_rfl) (by kernel_rfl) (by kernel_rfl) (by decide) (fun _ _ _ h => h) (Or.inl ⟨by rfl, ?_⟩) ?_
      rotate_left
      · intro w' hx; (go_simp <;> with_reducible rfl)
      simp only [Act.put, List.setIfInBounds_toArray, List.set_cons_zero, List.set_cons_succ]
      have hX := hX2
      have hE := hE2
      have hP := hP2
      refine regT_one 17 _ (by kernel_rfl) rfl ?_
      intro K hK
      refine step_append_rowS rfl (.tmp 15) (.tmp 22) _ rfl 60 encSp 3 encSp_len (by omega) encSp_one w1.heap.size i1 _ 6 Try.underlying24 hi1 hz01 hz11 rfl hz21 _ 0 0 [] rfl hP SA l sc (ps.take l) rfl (HPs.out _ hX) (by omega) (by omega) (ext_sz (w1 := w1) hX) ?_
      intro S2 k2 W3 hP3 hg3
      have hX3 : Ext w1.drew W3 := Below.grown hX hg3 (ext_sz (w1 := w1) hX) (fun g e => (hP.from_ g e).1)
      have hE3 := hE.keep (fun g e => hg3.block g (hE.from_ g e).2 (own_neSS hE hP (by decide) g e))
      rw [Nat.zero_add, List.nil_append] at hP3
      rw [Nat.zero_add]
      refine hK.out _ _ (fun _ => hX3) ?_
      clear hK K
      simp only [Act.put, List.setIfInBounds_toArray, List.set_cons_zero, List.set_cons_succ]
      refine regT_one 20 _ (by kernel_rfl) rfl ?_
      intro K hK
      go_simp
      refine (HC.out _ hX3).mono ?_
      rintro e W4 ⟨P2, n2, d2, rfl, hC4, hb4⟩
      have hX4 := hX3.call hb4
      have hE4 := hE3.below hb4
      have hP4 := hP3.below hb4
      have hC5 := hC4.mono (B' := w1.heap.size) (ext_sz (w1 := w1) hX3)
      refine hK.out _ _ (fun _ => hX4) ?_
      clear hK K hC4 hb4 hE hP hg3 hX hE3 hP3 hX3
      have hk4 := kept_block hkd hX4
      obtain ⟨z0, z1, z2, z3, z4, z5, z6⟩ := cells7 hk4
      have zf := thawed hk4
      refine regT_one 22 _ (by kernel_rfl) rfl ?_
      intro K hK
      go_simp
      refine hK.out _ _ (fun h => absurd h (by decide)) ?_
      clear hK K
      refine regT_one 23 _ (by kernel_rfl) rfl ?_
      intro K hK
      go_simp
      refine hK.out _ _ (fun h => absurd h (by decide)) ?_
      clear hK K
      refine regT_one 24 _ (by kernel_rfl) rfl ?_
      intro K hK
      go_simp
      refine hK.out _ _ (fun h => absurd h (by decide)) ?_
      clear hK K
      refine regT_one 25 _ (by kernel_rfl) rfl ?_
      intro K hK
      go_simp
      refine hK.out _ _ (fun h => absurd h (by decide)) ?_
      clear hK K
      refine regT_one 26 _ (by kernel_rfl) rfl ?_
      intro K hK
      go_simp
      refine hK.out _ _ (fun h => absurd h (by decide)) ?_
      clear hK K
      refine regT_done (by kernel_rfl) ?_ _
      go_wp2_with fail
      go_meet
      exact HPost.out _ _ _ _ _ _ _ _ hX4 hE4 hC5 hP4
  · skip
    intro K hK
    go_simp
    have hx0a := hx0.new (.cells #[] 60)
    have hP := ownS_empty 60 encSp 3 w1.drew w1.heap.size (ext_sz (w1 := w1) hx0)
    refine hK.out _ _ (fun _ => hx0a) ?_
    clear hK K
    refine regT_one 0 _ (by kernel_rfl) rfl ?_
    intro K hK
    go_simp
    have hx0aa := hx0a.new (.cells #[] 54)
    have hE := own_empty 54 .u16 (w1.drew.alloc (.cells #[] 60)) w1.heap.size (ext_sz (w1 := w1) hx0a)
    rw [show (w1.drew.alloc (.cells #[] 60)).heap.size = w1.heap.size + 1 by simp] at hE
    have hP' := hP.below ((Below.refl (w1.drew.alloc (.cells #[] 60)).heap.size (w1.drew.alloc (.cells #[] 60))).alloc (Nat.le_refl _) (.cells #[] 54))
    refine hK.out _ _ (fun _ => hx0aa) ?_
    clear hK K
    refine regT_one 8 _ (by kernel_rfl) rfl ?_
    intro K hK
    refine step_append_row rfl (.tmp 6) (.tmp 13) _ rfl 54 .u16 w1.heap.size i2 2 Try.underlying27 hi2 hz02 hz12 hz22 _ 0 0 [] rfl hE EA m ec (es.take m) rfl (HEs.out _ hx0aa) (by omega) (by omega) (ext_sz (w1 := w1) hx0aa) ?_
    intro E2 c2 W2 hE2 hg2
    have hX2 : Ext w1.drew W2 := Below.grown hx0aa hg2 (ext_sz (w1 := w1) hx0aa) (fun g e => (hE.from_ g e).1)
    have hP2 := hP'.keep (fun g e => hg2.block g (hP'.from_ g e).2 (fun e2 => own_neSS hE hP' (by decide) g e2.symm e.symm))
    rw [Nat.zero_add, List.nil_append] at hE2
    rw [Nat.zero_add]
    refine hK.out _ _ (fun _ => hX2) ?_
    clear hK K
    simp only [Act.put, List.setIfInBounds_toArray, List.set_cons_zero, List.set_cons_succ]
    refine regT_take (i := 21) (d := some 27) (v := ?_) [] hX2 rfl rfl (by kernel_rfl) (by kernel_rfl) (by kernel_rfl) (by kernel_rfl) (by kernel_rfl) (by decide) (fun _ _ _ h => h) (Or.inl ⟨by rfl, ?_⟩) ?_
    rotate_left
    · intro w' hx; (go_simp <;> with_reducible rfl)
    simp only [Act.put, List.setIfInBounds_toArray, List.set_cons_zero, List.set_cons_succ]
    have hX := hX2
    have hE := hE2
    have hP := hP2
    refine regT_one 17 _ (by kernel_rfl) rfl ?_
    intro K hK
    refine step_append_rowS rfl (.tmp 15) (.tmp 22) _ rfl 60 encSp 3 encSp_len (by omega) encSp_one w1.heap.size i1 _ 6 Try.underlying24 hi1 hz01 hz11 rfl hz21 _ 0 0 [] rfl hP SA l sc (ps.take l) rfl (HPs.out _ hX) (by omega) (by omega) (ext_sz (w1 := w1) hX) ?_
    intro S2 k2 W3 hP3 hg3
    have hX3 : Ext w1.drew W3 := Below.grown hX hg3 (ext_sz (w1 := w1) hX) (fun g e => (hP.from_ g e).1)
    have hE3 := hE.keep (fun g e => hg3.block g (hE.from_ g e).2 (own_neSS hE hP (by decide) g e))
    rw [Nat.zero_add, List.nil_append] at hP3
    rw [Nat.zero_add]
    refine hK.out _ _ (fun _ => hX3) ?_
    clear hK K
    simp only [Act.put, List.setIfInBounds_toArray, List.set_cons_zero, List.set_cons_succ]
    refine regT_one 20 _ (by kernel_rfl) rfl ?_
    intro K hK
    go_simp
    refine (HC.out _ hX3).mono ?_
    rintro e W4 ⟨P2, n2, d2, rfl, hC4, hb4⟩
    have hX4 := hX3.call hb4
    have hE4 := hE3.below hb4
    have hP4 := hP3.below hb4
    have hC5 := hC4.mono (B' := w1.heap.size) (ext_sz (w1 := w1) hX3)
    refine hK.out _ _ (fun _ => hX4) ?_
    clear hK K hC4 hb4 hE hP hg3 hX hE3 hP3 hX3
    have hk4 := kept_block hkd hX4
    obtain ⟨z0, z1, z2, z3, z4, z5, z6⟩ := cells7 hk4
    have zf := thawed hk4
    refine regT_one 22 _ (by kernel_rfl) rfl ?_
    intro K hK
    go_simp
    refine hK.out _ _ (fun h => absurd h (by decide)) ?_
    clear hK K
    refine regT_one 23 _ (by kernel_rfl) rfl ?_
    intro K hK
    go_simp
    refine hK.out _ _ (fun h => absurd h (by decide)) ?_
    clear hK K
    refine regT_one 24 _ (by kernel_rfl) rfl ?_
    intro K hK
    go_simp
    refine hK.out _ _ (fun h => absurd h (by decide)) ?_
    clear hK K
    refine regT_one 25 _ (by kernel_rfl) rfl ?_
    intro K hK
    go_simp
    refine hK.out _ _ (fun h => absurd h (by decide)) ?_
    clear hK K
    refine regT_one 26 _ (by kernel_rfl) rfl ?_
    intro K hK
    go_simp
    refine hK.out _ _ (fun h => absurd h (by decide)) ?_
    clear hK K
    refine regT_done (by kernel_rfl) ?_ _
    go_wp2_with fail
    go_meet
    exact HPost.out _ _ _ _ _ _ _ _ hX4 hE4 hC5 hP4
end Go.Proofs.Ytlcnonhebppeiaa
