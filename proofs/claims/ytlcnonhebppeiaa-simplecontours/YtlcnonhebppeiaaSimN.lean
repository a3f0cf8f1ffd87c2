/- The law's made: an outline of points, sizes and a program; as a contract over this seat's translation. -/
import Derived.Test.YtlcnonhebppeiaaSimT
import Derived.Test.YtlcnonhebppeiaaSimO
import Derived.Test.YtlcnonhebppeiaaSimI
import Derived.Test.YtlcnonhebppeiaaRegF
import Derived.Lib.MinMax
import Derived.StillTailTactics
import Derived.Deep.DeepCutAuto
import Derived.Deep.RegionWith
namespace Go.Proofs.Ytlcnonhebppeiaa
open Go.RowKit
set_option linter.unusedVariables false

theorem box4 {w : World} {b t : Nat} {v0 v1 v2 v3 : Value} (h : w.heap[b]? = some (.cells #[v0, v1, v2, v3] t (0, 0))) :
    w.cell? ⟨b, 0, none⟩ = some v0 ∧ w.cell? ⟨b, 1, none⟩ = some v1 ∧ w.cell? ⟨b, 2, none⟩ = some v2 ∧ w.cell? ⟨b, 3, none⟩ = some v3 :=
  ⟨cell_of_row w b 0 _ t (0, 0) h, cell_of_row w b 1 _ t (0, 0) h, cell_of_row w b 2 _ t (0, 0) h, cell_of_row w b 3 _ t (0, 0) h⟩

/-- What made leaves. -/
def RetMade (w : World) (bx : List Int) (ps : List Sp) (pr : List Int) (e : Ending) (w' : World) : Prop :=
  ∃ v : GlV, e = .returned v.val ∧ v.rows w' ∧ v.g.ok ∧ v.few ∧ v.g.box = bx ∧ v.g.ps = ps.take 300 ∧ v.g.pr = pr.take 30 ∧ v.en ≤ 41 ∧ v.sn ≤ 300 ∧ v.pn ≤ 30 ∧ Below w.heap.size w w' ∧ v.sn ≤ v.sc

/-- A block of an outline under way, with fresh lists; the result's block is kept. -/
structure MW (w wr : World) (br bx : Nat) (cs : Array Value) (EA : Option Addr) (n ec : Nat) (es : List Int) (PA : Option Addr) (pn pc : Nat) (pr : List Int) (QA : Option Addr) (q qc : Nat) (ps : List Sp) : Prop where
  box : wr.heap[bx]? = some (.cells cs 29 (0, 0))
  out : wr.heap[br]? = some (.cells glZ 29 (0, 0))
  ea : Own 54 .u16 wr w.heap.size EA n ec es
  pa : OwnB wr w.heap.size PA pn pc pr
  qa : OwnS 60 encSp 3 wr w.heap.size QA q qc ps
  bel : Below w.heap.size w wr
  lx : w.heap.size ≤ bx
  lr : w.heap.size ≤ br
  ne : br ≠ bx

theorem mem_snoc_bd {es : List Int} {v : Int} (h : ∀ x ∈ es, 0 ≤ x ∧ x < 65536) (h0 : 0 ≤ v) (h1 : v < 65536) : ∀ x ∈ es ++ [v], 0 ≤ x ∧ x < 65536 := by
  intro x hx
  rcases List.mem_append.1 hx with hx | hx
  · exact h x hx
  · simp only [List.mem_singleton] at hx
    subst hx
    exact ⟨h0, h1⟩
theorem own_neOO {t t' : TypeId} {k k' : IntKind} {w : World} {B B' n c n' c' : Nat} {A A' : Option Addr} {zs ys : List Int} (h : Own t k w B A n c zs) (h' : Own t' k' w B' A' n' c' ys) (ht : t ≠ t') : ∀ q, blockOf A = some q → some q ≠ blockOf A' := by
  intro q hq e
  rcases h'.shape with ⟨rfl, _⟩ | ⟨g', cur, rfl, _, _, hh, _⟩
  · simp [blockOf] at e
  · simp [blockOf] at e
    subst e
    exact own_neS h hh ht _ hq rfl
section
variable {w wr w' : World} {br bx : Nat} {cs : Array Value} {EA PA QA : Option Addr} {n ec pn pc q qc : Nat} {es pr : List Int} {ps : List Sp}
theorem MW.below (h : MW w wr br bx cs EA n ec es PA pn pc pr QA q qc ps) (hb : Below wr.heap.size wr w') : MW w w' br bx cs EA n ec es PA pn pc pr QA q qc ps :=
  ⟨kept_block h.box hb, kept_block h.out hb, h.ea.below hb, h.pa.below hb, h.qa.below hb, h.bel.trans (hb.mono h.bel.size), h.lx, h.lr, h.ne⟩
theorem MW.drew (h : MW w wr br bx cs EA n ec es PA pn pc pr QA q qc ps) : MW w wr.drew br bx cs EA n ec es PA pn pc pr QA q qc ps := h.below (Below.refl _ _).drew
theorem MW.set (h : MW w wr br bx cs EA n ec es PA pn pc pr QA q qc ps) (j : Nat) (v : Value) : MW w (wr.setCell ⟨bx, j, none⟩ v) br bx (cs.setIfInBounds j v) EA n ec es PA pn pc pr QA q qc ps :=
  ⟨set_block h.box j v, (Below.heap_setCell wr _ v _ h.ne).trans h.out, h.ea.keep (fun g e => Below.heap_setCell wr _ v _ (own_neS h.ea h.box (by decide) g e)), h.pa.keep (fun g e => Below.heap_setCell wr _ v _ (own_neS h.pa h.box (by decide) g e)), h.qa.keep (fun g e => Below.heap_setCell wr _ v _ (ownS_ne h.qa h.box (by decide) g e)), h.bel.setCell (p := ⟨bx, j, none⟩) h.lx v, h.lx, h.lr, h.ne⟩
theorem MW.cell (h : MW w wr br bx cs EA n ec es PA pn pc pr QA q qc ps) (j : Nat) (v : Value) (hq : cs[j]? = some v) : wr.cell? ⟨bx, j, none⟩ = some v := (cell_of_row wr _ j _ _ _ h.box).trans hq
theorem MW.thaw (h : MW w wr br bx cs EA n ec es PA pn pc pr QA q qc ps) (o : Nat) : wr.frozen? ⟨bx, o, none⟩ = false := thawed h.box o
theorem MW.appE (h : MW w wr br bx cs EA n ec es PA pn pc pr QA q qc ps) {A2 : Option Addr} {n2 c2 : Nat} {es2 : List Int} (ho : Own 54 .u16 w' w.heap.size A2 n2 c2 es2) (hg : wr.grownBy w' (blockOf EA)) : MW w w' br bx cs A2 n2 c2 es2 PA pn pc pr QA q qc ps := by
  have hn : ∀ (b : Nat) (cs : Array Value), wr.heap[b]? = some (.cells cs 29 (0, 0)) → some b ≠ blockOf EA := fun b cs hh e => own_neS h.ea hh (by decide) b e.symm rfl
  exact ⟨(hg.block bx (lt_of_block h.box) (hn _ _ h.box)).trans h.box, (hg.block br (lt_of_block h.out) (hn _ _ h.out)).trans h.out, ho, h.pa.keep (fun g e => hg.block g (h.pa.from_ g e).2 (fun e2 => own_neOO h.ea h.pa (by decide) g e2.symm e.symm)), h.qa.keep (fun g e => hg.block g (h.qa.from_ g e).2 (fun e2 => own_neSS h.ea h.qa (by decide) g e2.symm e.symm)), h.bel.grown hg h.bel.size (fun g e => (h.ea.from_ g e).1), h.lx, h.lr, h.ne⟩
theorem MW.appQ (h : MW w wr br bx cs EA n ec es PA pn pc pr QA q qc ps) {A2 : Option Addr} {n2 c2 : Nat} {ps2 : List Sp} (ho : OwnS 60 encSp 3 w' w.heap.size A2 n2 c2 ps2) (hg : wr.grownBy w' (blockOf QA)) : MW w w' br bx cs EA n ec es PA pn pc pr A2 n2 c2 ps2 := by
  have hn : ∀ (b : Nat) (cs : Array Value), wr.heap[b]? = some (.cells cs 29 (0, 0)) → some b ≠ blockOf QA := fun b cs hh e => ownS_ne h.qa hh (by decide) b e.symm rfl
  exact ⟨(hg.block bx (lt_of_block h.box) (hn _ _ h.box)).trans h.box, (hg.block br (lt_of_block h.out) (hn _ _ h.out)).trans h.out, h.ea.keep (fun g e => hg.block g (h.ea.from_ g e).2 (own_neSS h.ea h.qa (by decide) g e)), h.pa.keep (fun g e => hg.block g (h.pa.from_ g e).2 (own_neSS h.pa h.qa (by decide) g e)), ho, h.bel.grown hg h.bel.size (fun g e => (h.qa.from_ g e).1), h.lx, h.lr, h.ne⟩
end

set_option maxRecDepth 100000 in
set_option maxHeartbeats 4000000 in
theorem made_any (x0 x1 x2 x3 : Int) (QA : Option Addr) (q qc : Nat) (ps : List Sp) (SA : Option Addr) (sn sc : Nat) (ss : List Int) (PA : Option Addr) (pn pc : Nat) (pr : List Int) (w : World)
    (hbx : ∀ x ∈ [x0, x1, x2, x3], -32768 ≤ x ∧ x ≤ 32767) (hq : RowS encSp 3 w QA q ps) (hps : ∀ p ∈ ps, Sp.ok p) (hqc : q ≤ qc) (hqm : q ≤ 9223372036854775807) (hs0 : Row w SA sn (cellsOf .u8 ss)) (hsB : Bytes ss) (hsm : sn ≤ 9223372036854775807)
    (hp : Row w PA pn (cellsOf .u8 pr)) (hpB : Bytes pr) (hpm : pn ≤ 9223372036854775807) :
    Calls Try.prog 16 #[.agg #[.int .i16 x0, .int .i16 x1, .int .i16 x2, .int .i16 x3], .slice QA q qc, .slice SA sn sc, .slice PA pn pc] w (RetMade w [x0, x1, x2, x3] ps pr) := by
  have hA1 := (Below.refl w.heap.size w).alloc (Nat.le_refl _) (.cells #[.int .i16 x0, .int .i16 x1, .int .i16 x2, .int .i16 x3] 23)
  have hA2 := hA1.alloc hA1.size (.cells glZ 29)
  have HC : Hid (∀ W, Below w.heap.size w W → Calls Try.prog 17 #[.slice PA pn pc, .int .i64 30] W (RetB W (pr.take 30))) := fun W hW => cut_any _ _ _ pr 30 W (hp.below hW) hpm (by omega)
  have hkb : ((w.alloc (.cells #[.int .i16 x0, .int .i16 x1, .int .i16 x2, .int .i16 x3] 23)).alloc (.cells glZ 29)).heap[w.heap.size]? = some (.cells #[.int .i16 x0, .int .i16 x1, .int .i16 x2, .int .i16 x3] 23 (0, 0)) := kept_alloc (heap_alloc_new w _) _
  have hkr : ((w.alloc (.cells #[.int .i16 x0, .int .i16 x1, .int .i16 x2, .int .i16 x3] 23)).alloc (.cells glZ 29)).heap[w.heap.size + 1]? = some (.cells glZ 29 (0, 0)) := by
    have := heap_alloc_new (w.alloc (.cells #[.int .i16 x0, .int .i16 x1, .int .i16 x2, .int .i16 x3] 23)) (.cells glZ 29)
    rwa [show (w.alloc (.cells #[.int .i16 x0, .int .i16 x1, .int .i16 x2, .int .i16 x3] 23)).heap.size = w.heap.size + 1 by simp] at this
  unfold glZ at hA2 hkb hkr
  go_enter Try.func16, Try.ntmps16
  go_upto_region 1 with fail
  generalize (w.alloc _).alloc _ = V at *
  have hb := hA2.drew
  replace hkb : V.drew.heap[w.heap.size]? = _ := hkb
  replace hkr : V.drew.heap[w.heap.size + 1]? = _ := hkr
  clear hA1
  go_cut [9] (fun p wx => ∃ (bx : Nat) (CA : Option Addr) (cn cc : Nat), p = .pointer (some ⟨bx, 0, none⟩) ∧ MW w wx (w.heap.size + 1) bx #[.int .i16 x0, .int .i16 x1, .int .i16 x2, .int .i16 x3, .slice none 0 0, .slice CA cn cc, .slice none 0 0] none 0 0 [] CA cn cc (pr.take 30) none 0 0 [])
  · have hsl : w.heap.size + 1 < V.heap.size := lt_of_block hkr
    have hkb0 : V.heap[w.heap.size]? = _ := hkb
    have hkr0 : V.heap[w.heap.size + 1]? = _ := hkr
    obtain ⟨k0, k1, k2, k3⟩ := box4 hkb
    have hsz : V.drew.heap.size = V.heap.size := rfl
    refine regF_start (by kernel_rfl) ?_
    refine regF_take (i := 0) (d := some 15) (v := ?_) (Ext.refl _) rfl rfl (by kernel_rfl) (by kernel_rfl) (by kernel_rfl) (fun _ _ _ h => h) (Or.inl ⟨by rfl, ?_⟩) ?_
    rotate_left
    · intro w' hx; have q0 := hx.cell k0; have q1 := hx.cell k1; have q2 := hx.cell k2; have q3 := hx.cell k3; (go_simp <;> with_reducible rfl)
    simp only [Act.put, List.setIfInBounds_toArray, List.set_cons_zero, List.set_cons_succ]
    refine regF_take (i := 1) (d := some 16) (v := ?_) (Ext.refl _) rfl rfl (by kernel_rfl) (by kernel_rfl) (by kernel_rfl) (fun _ _ _ h => h) (Or.inl ⟨by rfl, ?_⟩) ?_
    rotate_left
    · intro w' hx; (go_simp <;> with_reducible rfl)
    simp only [Act.put, List.setIfInBounds_toArray, List.set_cons_zero, List.set_cons_succ]
    refine regF_two 2 4 _ _ (by kernel_rfl) rfl rfl ?_ ?_
    · intro K hK
      go_simp
      refine (HC.out _ hb).mono ?_
      rintro e w2 ⟨CA, cn, cc, rfl, hown, hb2⟩
      refine hK.out _ _ hb2 ?_
      clear hK K
      have hx2 : Ext V.drew w2 := hb2
      refine regF_take (i := 3) (d := some 18) (v := ?_) hx2 rfl rfl (by kernel_rfl) (by kernel_rfl) (by kernel_rfl) (fun _ _ _ h => h) (Or.inl ⟨by rfl, ?_⟩) ?_
      rotate_left
      · intro w' hx; (go_simp <;> with_reducible rfl)
      simp only [Act.put, List.setIfInBounds_toArray, List.set_cons_zero, List.set_cons_succ]
      refine regF_one 4 _ (by kernel_rfl) rfl ?_
      intro K hK
      go_simp
      have hx3 := hx2.new (.cells glZ 29)
      have hn3 := heap_alloc_new w2 (.cells glZ 29)
      unfold glZ at hx3 hn3
      refine hK.out _ _ hx3 ?_
      clear hK K
      obtain ⟨z0, z1, z2, z3, z4, z5, z6⟩ := cells7 hn3
      have zf := thawed hn3
      refine regF_one 5 _ (by kernel_rfl) rfl ?_
      intro K hK
      go_simp
      have HX := hx2.new (.cells #[.int .i16 x0, .int .i16 x1, .int .i16 x2, .int .i16 x3, .slice none 0 0, .slice CA cn cc, .slice none 0 0] 29)
      have HB7 := heap_alloc_new w2 (.cells #[.int .i16 x0, .int .i16 x1, .int .i16 x2, .int .i16 x3, .slice none 0 0, .slice CA cn cc, .slice none 0 0] 29)
      have HF7 := fun (g : Nat) (h : g < w2.heap.size) => Below.heap_alloc w2 (.cells #[.int .i16 x0, .int .i16 x1, .int .i16 x2, .int .i16 x3, .slice none 0 0, .slice CA cn cc, .slice none 0 0] 29) g h
      refine hK.out _ _ HX ?_
      generalize w2.alloc (.cells #[.int .i16 x0, .int .i16 x1, .int .i16 x2, .int .i16 x3, .slice none 0 0, .slice CA cn cc, .slice none 0 0] 29) = W7 at *
      clear hK K
      refine wpAnyH_done (by kernel_rfl) ?_ _
      go_wp2_with fail
      go_meet
      have hsb : V.heap.size ≤ w2.heap.size := hb2.size
      have hna : ∀ (g : Nat) (o : Obj), w2.heap[g]? = some o → g ≠ w2.heap.size := fun g o h e => by have := lt_of_block h; omega
      have hkr2 := kept_block hkr hb2
      exact ⟨w2.heap.size, CA, cn, cc, rfl, HB7, (HF7 _ (by omega)).trans hkr2, Own.nil _ _ _ _, (hown.mono hb.size).keep (fun g e => HF7 _ (hown.from_ g e).2), OwnS.nil _ _ _ _ _, hb.trans (HX.mono hb.size), by omega, by omega, by omega⟩
    · intro K hK
      go_simp
      have hx3 := (Ext.refl V.drew).new (.cells glZ 29)
      have hn3 : (V.drew.alloc (.cells #[.int .i16 0, .int .i16 0, .int .i16 0, .int .i16 0, .slice none 0 0, .slice none 0 0, .slice none 0 0] 29)).heap[V.heap.size]? = _ := heap_alloc_new V.drew (.cells glZ 29)
      unfold glZ at hx3 hn3
      refine hK.out _ _ hx3 ?_
      clear hK K
      refine regF_one 2 _ (by kernel_rfl) rfl ?_
      intro K hK
      go_simp
      have hbA := hb.trans (hx3.mono hb.size)
      refine (HC.out _ hbA).mono ?_
      rintro e w2 ⟨CA, cn, cc, rfl, hown, hb2⟩
      have hx2 := hx3.call hb2
      refine hK.out _ _ hx2 ?_
      clear hK K
      refine regF_take (i := 3) (d := some 18) (v := ?_) hx2 rfl rfl (by kernel_rfl) (by kernel_rfl) (by kernel_rfl) (fun _ _ _ h => h) (Or.inl ⟨by rfl, ?_⟩) ?_
      rotate_left
      · intro w' hx; (go_simp <;> with_reducible rfl)
      simp only [Act.put, List.setIfInBounds_toArray, List.set_cons_zero, List.set_cons_succ]
      have hn4 := kept_block hn3 hb2
      obtain ⟨z0, z1, z2, z3, z4, z5, z6⟩ := cells7 hn4
      have zf := thawed hn4
      refine regF_one 5 _ (by kernel_rfl) rfl ?_
      intro K hK
      go_simp
      have HX := sets7_below (b := V.heap.size) (.int .i16 x0) (.int .i16 x1) (.int .i16 x2) (.int .i16 x3) (.slice none 0 0) (.slice CA cn cc) (.slice none 0 0) hx2 (Nat.le_refl _)
      have HB7 := sets7_block (.int .i16 x0) (.int .i16 x1) (.int .i16 x2) (.int .i16 x3) (.slice none 0 0) (.slice CA cn cc) (.slice none 0 0) hn4
      have HF7 := fun (g : Nat) (h : g ≠ V.heap.size) => sets7_far (w := w2) (.int .i16 x0) (.int .i16 x1) (.int .i16 x2) (.int .i16 x3) (.slice none 0 0) (.slice CA cn cc) (.slice none 0 0) h
      refine hK.out _ (sets7 w2 V.heap.size (.int .i16 x0) (.int .i16 x1) (.int .i16 x2) (.int .i16 x3) (.slice none 0 0) (.slice CA cn cc) (.slice none 0 0)) HX ?_
      generalize sets7 _ _ _ _ _ _ _ _ _ = W7 at *
      clear hK K
      refine wpAnyH_done (by kernel_rfl) ?_ _
      go_wp2_with fail
      go_meet
      have hfar : ∀ g, blockOf CA = some g → V.heap.size + 1 ≤ g := fun g e => by have := (hown.from_ g e).1; simpa using this
      exact ⟨V.heap.size, CA, cn, cc, rfl, HB7, (HF7 _ (by omega)).trans (kept_block (kept_alloc hkr _) hb2), Own.nil _ _ _ _, (hown.mono hbA.size).keep (fun g e => (HF7 _ (by have := hfar g e; omega))), OwnS.nil _ _ _ _ _, hb.trans (HX.mono hb.size), by omega, by omega, by omega⟩
  · obtain ⟨bx, CA, cn, cc, rfl, hs⟩ := hcut
    clear hA2 hb HC
    obtain ⟨m, hm⟩ : ∃ m : Nat, m = min q 300 := ⟨_, rfl⟩
    have hm0 : m ≤ q := by omega
    have hm1 : m ≤ 300 := by omega
    have HPm : Hid (ps.take m = ps.take 300) := by
      by_cases hq3 : q ≤ 300
      · show _ = _; rw [show m = q by omega, List.take_of_length_le (by rw [hq.len]; exact Nat.le_refl _), List.take_of_length_le (by rw [hq.len]; exact hq3)]
      · show _ = _; rw [show m = 300 by omega]
    have hqm2 := RowS.take encSp_len hq hm0
    have HRow : Hid (∀ w', Below w.heap.size w w' → RowS encSp 3 w' QA m (ps.take m)) := fun w' hb => hqm2.below hb
    have HS : Hid (∀ w', Below w.heap.size w w' → Row w' SA sn (cellsOf .u8 ss)) := fun w' hb => hs0.below hb
    clear hqm2
    go_upto_region 3 with fail
    rw [show min (q : Int) 300 = (m : Int) by omega]
    have hs2 := hs.drew
    have c6 := hs2.cell 6 _ rfl
    have s0 : (0 : Int) ≤ (m : Int) := by omega
    have s1 : (m : Int) ≤ (q : Int) := by omega
    have s2 : (q : Int) ≤ (qc : Int) := by omega
    have s3 : (m : Int) ≤ (qc : Int) := by omega
    obtain ⟨i1, hi1, hz01, hz11, hz21⟩ := info_parts Try.spinfo
    clear hkb hkr hm
    go_still_tail 5, (by kernel_rfl)
    refine wpList_append_rowS rfl (.tmp 23) (.tmp 26) _ rfl 60 encSp 3 encSp_len (by omega) encSp_one w.heap.size i1 _ 6 Try.underlying24 hi1 hz01 hz11 rfl hz21 none 0 0 [] rfl hs2.qa QA m qc (ps.take m) rfl (HRow.out _ hs2.bel) (by omega) (by omega) hs2.bel.size ?_
    intro A3 c3 w1 hown1 hg1
    have hs3 := hs2.appQ hown1 hg1
    have c6' := hs3.cell 6 _ rfl
    have f6' := hs3.thaw 6
    rw [Nat.zero_add, List.nil_append] at hs3
    rw [Nat.zero_add]
    have hs4 : MW w (w1.setCell ⟨bx, 6, none⟩ (.slice A3 m c3)) (w.heap.size + 1) bx #[.int .i16 x0, .int .i16 x1, .int .i16 x2, .int .i16 x3, .slice none 0 0, .slice CA cn cc, .slice A3 m c3] none 0 0 [] CA cn cc (pr.take 30) A3 m c3 (ps.take m) := hs3.set 6 (.slice A3 m c3)
    have Hs4 := Lib.hid hs4
    clear hs2 hs3 hs hown1 hg1 c6 hs4
    go_wp2
    have hs := Hs4.out
    clear Hs4 c6' f6'
    generalize w1.setCell _ _ = V1 at *
    have hsl := hs0.len
    have HSl := Lib.hid hsl
    have HSB := Lib.hid hsB
    have HPB := Lib.hid hpB
    have HPs := Lib.hid hps
    obtain ⟨i2, hi2, hz02, hz12, hz22⟩ := info_parts Try.u16info
    clear hsl
    clear hq hps hs0 hsB hp hpB HRow
    go_loopw [11, 31] (fun at' i' wr => ∃ (k : Nat) (at_ : Int) (EA : Option Addr) (n ec : Nat) (es : List Int), k ≤ sn ∧ i' = .int .i64 k ∧ at' = .int .i64 at_ ∧ Hid (k ≤ 40 → 0 ≤ at_ ∧ at_ ≤ 9 * k) ∧ Hid (n ≤ 40 ∧ n ≤ k ∧ es.length = n ∧ ∀ x ∈ es, 0 ≤ x ∧ x < 65536) ∧ MW w wr (w.heap.size + 1) bx #[.int .i16 x0, .int .i16 x1, .int .i16 x2, .int .i16 x3, .slice EA n ec, .slice CA cn cc, .slice A3 m c3] EA n ec es CA cn cc (pr.take 30) A3 m c3 (ps.take m)) (fun _ i' _ => sn - (intOf i').toNat)
    case atStart => exact ⟨0, 0, none, 0, 0, [], Nat.zero_le _, rfl, rfl, (fun _ => ⟨by omega, by omega⟩ : _), (⟨by omega, by omega, rfl, by simp⟩ : _), hs⟩
    case round =>
      clear hs
      obtain ⟨k, at_, EA, n, ec, es, hk, rfl, rfl, Hat, Hes, hs⟩ := hrel
      have hsz := hs.bel.size
      obtain ⟨e0, e1, e2, e3⟩ := Hes.out
      by_cases hlt : k < sn
      · obtain ⟨b, hb⟩ := get_some (zs := ss) (k := k) (by rw [HSl.out]; exact hlt)
        obtain ⟨u0, u1⟩ := HSB.out b (List.mem_of_getElem? hb)
        obtain ⟨g, off, rfl, hg, hc⟩ := (HS.out _ hs.bel).at (cellsOf_get (k := .u8) hb)
        clear hb
        by_cases hi : k < 40
        · obtain ⟨t0, t1⟩ := Hat.out (by omega)
          by_cases hlt2 : at_ + (1 + b % 9) < m
          · have He3 := Lib.hid e3
            clear e3 e2
            have c4 := hs.cell 4 _ rfl
            have hA := (Below.refl wr.heap.size wr).alloc (Nat.le_refl _) (.cells #[.int .u16 (at_ + (1 + b % 9) - 1)] 54)
            have hs2 := hs.below hA
            have hrow := row_one wr .u16 (at_ + (1 + b % 9) - 1) 54
            clear hA hs
            go_wp2_with (at_builtin; refine wpList_append_row rfl (.tmp 50) (.tmp 54) _ rfl 54 .u16 w.heap.size i2 2 Try.underlying27 hi2 hz02 hz12 hz22 EA n ec _ rfl hs2.ea (some ⟨wr.heap.size, 0, none⟩) 1 1 [at_ + (1 + b % 9) - 1] rfl hrow (by omega) (by omega) (by simp; omega) ?_; intro A5 c5 w5 hown5 hg5; have hs3 := hs2.appE hown5 hg5; have c4' := hs3.cell 4 _ rfl; have f4' := hs3.thaw 4)
            have hs4 : MW w (w5.setCell ⟨bx, 4, none⟩ (.slice A5 (n + 1) c5)) (w.heap.size + 1) bx #[.int .i16 x0, .int .i16 x1, .int .i16 x2, .int .i16 x3, .slice A5 (n + 1) c5, .slice CA cn cc, .slice A3 m c3] A5 (n + 1) c5 (es ++ [at_ + (1 + b % 9) - 1]) CA cn cc (pr.take 30) A3 m c3 (ps.take m) := hs3.set 4 (.slice A5 (n + 1) c5)
            clear hs2 hs3 hown5 hg5 c4' f4' c4 hrow
            go_roundw
            case rel => exact ⟨k + 1, at_ + (1 + b % 9), A5, n + 1, c5, es ++ [at_ + (1 + b % 9) - 1], by omega, by go_num, rfl, (fun _ => ⟨by omega, by omega⟩ : _), (⟨by omega, by omega, by have := Hes.out.2.2.1; simp [this], mem_snoc_bd He3.out (by omega) (by omega)⟩ : _), hs4⟩
            case measure => simp [intOf]; omega
          · go_wp2
            go_roundw
            case rel => exact ⟨k + 1, at_ + (1 + b % 9), EA, n, ec, es, by omega, by go_num, rfl, (fun _ => ⟨by omega, by omega⟩ : _), (⟨by omega, by omega, e2, e3⟩ : _), hs⟩
            case measure => simp [intOf]; omega
        · go_wp2
          go_roundw
          case rel => exact ⟨k + 1, _, EA, n, ec, es, by omega, by go_num, rfl, (fun h => absurd h (by omega) : _), (⟨by omega, by omega, e2, e3⟩ : _), hs⟩
          case measure => simp [intOf]; omega
      · obtain rfl : k = sn := by omega
        clear Hat hlt
        have He3 := Lib.hid e3
        have c4 := hs.cell 4 _ rfl
        by_cases hm3 : m = 0
        · have hm4 : ¬ (0 < (m : Int)) := by omega
          have Hm3 := Lib.hid hm3
          clear hm3
          have kr : wr.heap[w.heap.size + 1]? = some (.cells #[.int .i16 0, .int .i16 0, .int .i16 0, .int .i16 0, .slice none 0 0, .slice none 0 0, .slice none 0 0] 29 (0, 0)) := hs.out
          obtain ⟨z0, z1, z2, z3, z4, z5, z6⟩ := cells7 hs.box
          have HSf := Lib.hid hs
          clear hs c4
          go_wp2_with (with_reducible refine wpList_store_row rfl 29 (.tmp 8) (.tmp 85) rfl (w.heap.size + 1) #[.int .i16 x0, .int .i16 x1, .int .i16 x2, .int .i16 x3, .slice EA (n) ec, .slice CA cn cc, .slice A3 m c3] rfl rfl 29 #[.int .i16 0, .int .i16 0, .int .i16 0, .int .i16 0, .slice none 0 0, .slice none 0 0, .slice none 0 0] kr (gl7 _ _ _ _ _ _ _ _ _ _ _ _ _).1 (gl7 _ _ _ _ _ _ _ _ _ _ _ _ _).2.1 (gl7 _ _ _ _ _ _ _ _ _ _ _ _ _).2.2 ?_)
          have KR := Lib.hid (setRow_heap (wr) (w.heap.size + 1) _ #[.int .i16 x0, .int .i16 x1, .int .i16 x2, .int .i16 x3, .slice EA (n) ec, .slice CA cn cc, .slice A3 m c3] 29 (0, 0) kr)
          have HBl := Lib.hid (below_rowO (B := w.heap.size) (by omega : w.heap.size ≤ w.heap.size + 1) #[.int .i16 x0, .int .i16 x1, .int .i16 x2, .int .i16 x3, .slice EA (n) ec, .slice CA cn cc, .slice A3 m c3] HSf.out.bel)
          have hpn := HSf.out.pa.len
          have HRows : Hid (GlV.rows ((wr).setRow (w.heap.size + 1) #[.int .i16 x0, .int .i16 x1, .int .i16 x2, .int .i16 x3, .slice EA (n) ec, .slice CA cn cc, .slice A3 m c3]) ⟨⟨x0, x1, x2, x3, es, pr.take 30, ps.take m⟩, EA, n, ec, CA, cn, cc, A3, m, c3⟩) := ⟨HSf.out.ea.row.keep (by simp) (fun g e _ => setRow_other _ _ _ _ (own_neS HSf.out.ea kr (by decide) g e)), HSf.out.pa.row.keep (by simp) (fun g e _ => setRow_other _ _ _ _ (own_neS HSf.out.pa kr (by decide) g e)), (HSf.out.qa.row encSp_len).keep (by simp) (fun g e _ => setRow_other _ _ _ _ (ownS_ne HSf.out.qa kr (by decide) g e))⟩
          have hcn : cn ≤ 30 := by rw [← hpn, List.length_take]; omega
          have HM : RetMade w [x0, x1, x2, x3] ps pr (.returned (GlV.val ⟨⟨x0, x1, x2, x3, es, pr.take 30, ps.take m⟩, EA, n, ec, CA, cn, cc, A3, m, c3⟩)) ((wr).setRow (w.heap.size + 1) #[.int .i16 x0, .int .i16 x1, .int .i16 x2, .int .i16 x3, .slice EA (n) ec, .slice CA cn cc, .slice A3 m c3]) :=
            ⟨⟨⟨x0, x1, x2, x3, es, pr.take 30, ps.take m⟩, EA, n, ec, CA, cn, cc, A3, m, c3⟩, rfl, HRows.out, ⟨hbx, He3.out, fun x hx => HPB.out x (List.mem_of_mem_take hx), fun x hx => HPs.out x (List.mem_of_mem_take hx)⟩, ⟨by show n ≤ 10000; omega, by show cn ≤ 10000; omega, by show m ≤ 10000; omega⟩, rfl, HPm.out, rfl, by show n ≤ 41; omega, hm1, hcn, HBl.out, HSf.out.qa.cap⟩
          exact bodyPost_ret (v := GlV.val ⟨⟨x0, x1, x2, x3, es, pr.take 30, ps.take m⟩, EA, n, ec, CA, cn, cc, A3, m, c3⟩) (results_cell_row Try.results16 _ _ (w.heap.size + 1) 29 _ (0, 0) _ rfl KR.out Try.underlying29 rfl (glSize rfl)) rfl HM
        · have hm4 : 0 < (m : Int) := by omega
          by_cases hn0 : n = 0
          · subst hn0
            have hA := (Below.refl wr.heap.size wr).alloc (Nat.le_refl _) (.cells #[.int .u16 ((m : Int) - 1)] 54)
            have hs2 := hs.below hA
            have hrow := row_one wr .u16 ((m : Int) - 1) 54
            clear hA hs
            go_wp2_with (first | (at_builtin; refine wpList_append_row rfl (.tmp 78) (.tmp 82) _ rfl 54 .u16 w.heap.size i2 2 Try.underlying27 hi2 hz02 hz12 hz22 EA 0 ec _ rfl hs2.ea (some ⟨wr.heap.size, 0, none⟩) 1 1 [(m : Int) - 1] rfl hrow (by omega) (by omega) (by simp; omega) ?_; intro A5 c5 w5 hown5 hg5; have hs3 := hs2.appE hown5 hg5; have c4' := hs3.cell 4 _ rfl; have f4' := hs3.thaw 4; have hs4 : MW w (w5.setCell ⟨bx, 4, none⟩ (.slice A5 (0 + 1) c5)) (w.heap.size + 1) bx #[.int .i16 x0, .int .i16 x1, .int .i16 x2, .int .i16 x3, .slice A5 (0 + 1) c5, .slice CA cn cc, .slice A3 m c3] A5 (0 + 1) c5 (es ++ [(m : Int) - 1]) CA cn cc (pr.take 30) A3 m c3 (ps.take m) := hs3.set 4 (.slice A5 (0 + 1) c5); have HSf := Lib.hid hs4; have kr : (w5.setCell ⟨bx, 4, none⟩ (.slice A5 (0 + 1) c5)).heap[w.heap.size + 1]? = some (.cells #[.int .i16 0, .int .i16 0, .int .i16 0, .int .i16 0, .slice none 0 0, .slice none 0 0, .slice none 0 0] 29 (0, 0)) := hs4.out; obtain ⟨z0, z1, z2, z3, z4, z5, z6⟩ := cells7 hs4.box; clear hs4 hs3 hs2 hown5 hg5 hrow) | (with_reducible refine wpList_store_row rfl 29 (.tmp 8) (.tmp 85) rfl (w.heap.size + 1) #[.int .i16 x0, .int .i16 x1, .int .i16 x2, .int .i16 x3, .slice A5 (0 + 1) c5, .slice CA cn cc, .slice A3 m c3] rfl rfl 29 #[.int .i16 0, .int .i16 0, .int .i16 0, .int .i16 0, .slice none 0 0, .slice none 0 0, .slice none 0 0] kr (gl7 _ _ _ _ _ _ _ _ _ _ _ _ _).1 (gl7 _ _ _ _ _ _ _ _ _ _ _ _ _).2.1 (gl7 _ _ _ _ _ _ _ _ _ _ _ _ _).2.2 ?_))
            have KR := Lib.hid (setRow_heap (w5.setCell ⟨bx, 4, none⟩ (.slice A5 (0 + 1) c5)) (w.heap.size + 1) _ #[.int .i16 x0, .int .i16 x1, .int .i16 x2, .int .i16 x3, .slice A5 (0 + 1) c5, .slice CA cn cc, .slice A3 m c3] 29 (0, 0) kr)
            have HBl := Lib.hid (below_rowO (B := w.heap.size) (by omega : w.heap.size ≤ w.heap.size + 1) #[.int .i16 x0, .int .i16 x1, .int .i16 x2, .int .i16 x3, .slice A5 (0 + 1) c5, .slice CA cn cc, .slice A3 m c3] HSf.out.bel)
            have hpn := HSf.out.pa.len
            have HRows : Hid (GlV.rows ((w5.setCell ⟨bx, 4, none⟩ (.slice A5 (0 + 1) c5)).setRow (w.heap.size + 1) #[.int .i16 x0, .int .i16 x1, .int .i16 x2, .int .i16 x3, .slice A5 (0 + 1) c5, .slice CA cn cc, .slice A3 m c3]) ⟨⟨x0, x1, x2, x3, es ++ [(m : Int) - 1], pr.take 30, ps.take m⟩, A5, 0 + 1, c5, CA, cn, cc, A3, m, c3⟩) := ⟨HSf.out.ea.row.keep (by simp) (fun g e _ => setRow_other _ _ _ _ (own_neS HSf.out.ea kr (by decide) g e)), HSf.out.pa.row.keep (by simp) (fun g e _ => setRow_other _ _ _ _ (own_neS HSf.out.pa kr (by decide) g e)), (HSf.out.qa.row encSp_len).keep (by simp) (fun g e _ => setRow_other _ _ _ _ (ownS_ne HSf.out.qa kr (by decide) g e))⟩
            have hcn : cn ≤ 30 := by rw [← hpn, List.length_take]; omega
            have HM : RetMade w [x0, x1, x2, x3] ps pr (.returned (GlV.val ⟨⟨x0, x1, x2, x3, es ++ [(m : Int) - 1], pr.take 30, ps.take m⟩, A5, 0 + 1, c5, CA, cn, cc, A3, m, c3⟩)) ((w5.setCell ⟨bx, 4, none⟩ (.slice A5 (0 + 1) c5)).setRow (w.heap.size + 1) #[.int .i16 x0, .int .i16 x1, .int .i16 x2, .int .i16 x3, .slice A5 (0 + 1) c5, .slice CA cn cc, .slice A3 m c3]) :=
              ⟨⟨⟨x0, x1, x2, x3, es ++ [(m : Int) - 1], pr.take 30, ps.take m⟩, A5, 0 + 1, c5, CA, cn, cc, A3, m, c3⟩, rfl, HRows.out, ⟨hbx, mem_snoc_bd He3.out (by omega) (by omega), fun x hx => HPB.out x (List.mem_of_mem_take hx), fun x hx => HPs.out x (List.mem_of_mem_take hx)⟩, ⟨by show 0 + 1 ≤ 10000; omega, by show cn ≤ 10000; omega, by show m ≤ 10000; omega⟩, rfl, HPm.out, rfl, by show 0 + 1 ≤ 41; omega, hm1, hcn, HBl.out, HSf.out.qa.cap⟩
            exact bodyPost_ret (v := GlV.val ⟨⟨x0, x1, x2, x3, es ++ [(m : Int) - 1], pr.take 30, ps.take m⟩, A5, 0 + 1, c5, CA, cn, cc, A3, m, c3⟩) (results_cell_row Try.results16 _ _ (w.heap.size + 1) 29 _ (0, 0) _ rfl KR.out Try.underlying29 rfl (glSize rfl)) rfl HM
          · obtain ⟨y, hy⟩ : ∃ y, es[n - 1]? = some y := ⟨es[n - 1]'(by omega), List.getElem?_eq_getElem (by omega)⟩
            obtain ⟨y0, y1⟩ := e3 y (List.mem_of_getElem? hy)
            obtain ⟨ge, oe, rfl, hge, hce⟩ := hs.ea.row.at (cellsOf_get (k := .u16) hy)
            have hi0 : (0 : Int) ≤ (n : Int) - 1 := by omega
            have hi1 : (n : Int) - 1 < (n : Int) := by omega
            have hi2' : ((n : Int) - 1).toNat = n - 1 := by omega
            have hnn : ¬ ((n : Int) = 0) := by omega
            clear e3 hy
            by_cases hlt3 : y < (m : Int) - 1
            · skip
              have hA := (Below.refl wr.heap.size wr).alloc (Nat.le_refl _) (.cells #[.int .u16 ((m : Int) - 1)] 54)
              have hs2 := hs.below hA
              have hrow := row_one wr .u16 ((m : Int) - 1) 54
              clear hA hs
              go_wp2_with (first | (at_builtin; refine wpList_append_row rfl (.tmp 78) (.tmp 82) _ rfl 54 .u16 w.heap.size i2 2 Try.underlying27 hi2 hz02 hz12 hz22 (some ⟨ge, oe, none⟩) n ec _ rfl hs2.ea (some ⟨wr.heap.size, 0, none⟩) 1 1 [(m : Int) - 1] rfl hrow (by omega) (by omega) (by simp; omega) ?_; intro A5 c5 w5 hown5 hg5; have hs3 := hs2.appE hown5 hg5; have c4' := hs3.cell 4 _ rfl; have f4' := hs3.thaw 4; have hs4 : MW w (w5.setCell ⟨bx, 4, none⟩ (.slice A5 (n + 1) c5)) (w.heap.size + 1) bx #[.int .i16 x0, .int .i16 x1, .int .i16 x2, .int .i16 x3, .slice A5 (n + 1) c5, .slice CA cn cc, .slice A3 m c3] A5 (n + 1) c5 (es ++ [(m : Int) - 1]) CA cn cc (pr.take 30) A3 m c3 (ps.take m) := hs3.set 4 (.slice A5 (n + 1) c5); have HSf := Lib.hid hs4; have kr : (w5.setCell ⟨bx, 4, none⟩ (.slice A5 (n + 1) c5)).heap[w.heap.size + 1]? = some (.cells #[.int .i16 0, .int .i16 0, .int .i16 0, .int .i16 0, .slice none 0 0, .slice none 0 0, .slice none 0 0] 29 (0, 0)) := hs4.out; obtain ⟨z0, z1, z2, z3, z4, z5, z6⟩ := cells7 hs4.box; clear hs4 hs3 hs2 hown5 hg5 hrow) | (with_reducible refine wpList_store_row rfl 29 (.tmp 8) (.tmp 85) rfl (w.heap.size + 1) #[.int .i16 x0, .int .i16 x1, .int .i16 x2, .int .i16 x3, .slice A5 (n + 1) c5, .slice CA cn cc, .slice A3 m c3] rfl rfl 29 #[.int .i16 0, .int .i16 0, .int .i16 0, .int .i16 0, .slice none 0 0, .slice none 0 0, .slice none 0 0] kr (gl7 _ _ _ _ _ _ _ _ _ _ _ _ _).1 (gl7 _ _ _ _ _ _ _ _ _ _ _ _ _).2.1 (gl7 _ _ _ _ _ _ _ _ _ _ _ _ _).2.2 ?_))
              have KR := Lib.hid (setRow_heap (w5.setCell ⟨bx, 4, none⟩ (.slice A5 (n + 1) c5)) (w.heap.size + 1) _ #[.int .i16 x0, .int .i16 x1, .int .i16 x2, .int .i16 x3, .slice A5 (n + 1) c5, .slice CA cn cc, .slice A3 m c3] 29 (0, 0) kr)
              have HBl := Lib.hid (below_rowO (B := w.heap.size) (by omega : w.heap.size ≤ w.heap.size + 1) #[.int .i16 x0, .int .i16 x1, .int .i16 x2, .int .i16 x3, .slice A5 (n + 1) c5, .slice CA cn cc, .slice A3 m c3] HSf.out.bel)
              have hpn := HSf.out.pa.len
              have HRows : Hid (GlV.rows ((w5.setCell ⟨bx, 4, none⟩ (.slice A5 (n + 1) c5)).setRow (w.heap.size + 1) #[.int .i16 x0, .int .i16 x1, .int .i16 x2, .int .i16 x3, .slice A5 (n + 1) c5, .slice CA cn cc, .slice A3 m c3]) ⟨⟨x0, x1, x2, x3, es ++ [(m : Int) - 1], pr.take 30, ps.take m⟩, A5, n + 1, c5, CA, cn, cc, A3, m, c3⟩) := ⟨HSf.out.ea.row.keep (by simp) (fun g e _ => setRow_other _ _ _ _ (own_neS HSf.out.ea kr (by decide) g e)), HSf.out.pa.row.keep (by simp) (fun g e _ => setRow_other _ _ _ _ (own_neS HSf.out.pa kr (by decide) g e)), (HSf.out.qa.row encSp_len).keep (by simp) (fun g e _ => setRow_other _ _ _ _ (ownS_ne HSf.out.qa kr (by decide) g e))⟩
              have hcn : cn ≤ 30 := by rw [← hpn, List.length_take]; omega
              have HM : RetMade w [x0, x1, x2, x3] ps pr (.returned (GlV.val ⟨⟨x0, x1, x2, x3, es ++ [(m : Int) - 1], pr.take 30, ps.take m⟩, A5, n + 1, c5, CA, cn, cc, A3, m, c3⟩)) ((w5.setCell ⟨bx, 4, none⟩ (.slice A5 (n + 1) c5)).setRow (w.heap.size + 1) #[.int .i16 x0, .int .i16 x1, .int .i16 x2, .int .i16 x3, .slice A5 (n + 1) c5, .slice CA cn cc, .slice A3 m c3]) :=
                ⟨⟨⟨x0, x1, x2, x3, es ++ [(m : Int) - 1], pr.take 30, ps.take m⟩, A5, n + 1, c5, CA, cn, cc, A3, m, c3⟩, rfl, HRows.out, ⟨hbx, mem_snoc_bd He3.out (by omega) (by omega), fun x hx => HPB.out x (List.mem_of_mem_take hx), fun x hx => HPs.out x (List.mem_of_mem_take hx)⟩, ⟨by show n + 1 ≤ 10000; omega, by show cn ≤ 10000; omega, by show m ≤ 10000; omega⟩, rfl, HPm.out, rfl, by show n + 1 ≤ 41; omega, hm1, hcn, HBl.out, HSf.out.qa.cap⟩
              exact bodyPost_ret (v := GlV.val ⟨⟨x0, x1, x2, x3, es ++ [(m : Int) - 1], pr.take 30, ps.take m⟩, A5, n + 1, c5, CA, cn, cc, A3, m, c3⟩) (results_cell_row Try.results16 _ _ (w.heap.size + 1) 29 _ (0, 0) _ rfl KR.out Try.underlying29 rfl (glSize rfl)) rfl HM
            · skip
              have kr : wr.heap[w.heap.size + 1]? = some (.cells #[.int .i16 0, .int .i16 0, .int .i16 0, .int .i16 0, .slice none 0 0, .slice none 0 0, .slice none 0 0] 29 (0, 0)) := hs.out
              obtain ⟨z0, z1, z2, z3, z4, z5, z6⟩ := cells7 hs.box
              have HSf := Lib.hid hs
              clear hs c4
              go_wp2_with (with_reducible refine wpList_store_row rfl 29 (.tmp 8) (.tmp 85) rfl (w.heap.size + 1) #[.int .i16 x0, .int .i16 x1, .int .i16 x2, .int .i16 x3, .slice (some ⟨ge, oe, none⟩) (n) ec, .slice CA cn cc, .slice A3 m c3] rfl rfl 29 #[.int .i16 0, .int .i16 0, .int .i16 0, .int .i16 0, .slice none 0 0, .slice none 0 0, .slice none 0 0] kr (gl7 _ _ _ _ _ _ _ _ _ _ _ _ _).1 (gl7 _ _ _ _ _ _ _ _ _ _ _ _ _).2.1 (gl7 _ _ _ _ _ _ _ _ _ _ _ _ _).2.2 ?_)
              have KR := Lib.hid (setRow_heap (wr) (w.heap.size + 1) _ #[.int .i16 x0, .int .i16 x1, .int .i16 x2, .int .i16 x3, .slice (some ⟨ge, oe, none⟩) (n) ec, .slice CA cn cc, .slice A3 m c3] 29 (0, 0) kr)
              have HBl := Lib.hid (below_rowO (B := w.heap.size) (by omega : w.heap.size ≤ w.heap.size + 1) #[.int .i16 x0, .int .i16 x1, .int .i16 x2, .int .i16 x3, .slice (some ⟨ge, oe, none⟩) (n) ec, .slice CA cn cc, .slice A3 m c3] HSf.out.bel)
              have hpn := HSf.out.pa.len
              have HRows : Hid (GlV.rows ((wr).setRow (w.heap.size + 1) #[.int .i16 x0, .int .i16 x1, .int .i16 x2, .int .i16 x3, .slice (some ⟨ge, oe, none⟩) (n) ec, .slice CA cn cc, .slice A3 m c3]) ⟨⟨x0, x1, x2, x3, es, pr.take 30, ps.take m⟩, (some ⟨ge, oe, none⟩), n, ec, CA, cn, cc, A3, m, c3⟩) := ⟨HSf.out.ea.row.keep (by simp) (fun g e _ => setRow_other _ _ _ _ (own_neS HSf.out.ea kr (by decide) g e)), HSf.out.pa.row.keep (by simp) (fun g e _ => setRow_other _ _ _ _ (own_neS HSf.out.pa kr (by decide) g e)), (HSf.out.qa.row encSp_len).keep (by simp) (fun g e _ => setRow_other _ _ _ _ (ownS_ne HSf.out.qa kr (by decide) g e))⟩
              have hcn : cn ≤ 30 := by rw [← hpn, List.length_take]; omega
              have HM : RetMade w [x0, x1, x2, x3] ps pr (.returned (GlV.val ⟨⟨x0, x1, x2, x3, es, pr.take 30, ps.take m⟩, (some ⟨ge, oe, none⟩), n, ec, CA, cn, cc, A3, m, c3⟩)) ((wr).setRow (w.heap.size + 1) #[.int .i16 x0, .int .i16 x1, .int .i16 x2, .int .i16 x3, .slice (some ⟨ge, oe, none⟩) (n) ec, .slice CA cn cc, .slice A3 m c3]) :=
                ⟨⟨⟨x0, x1, x2, x3, es, pr.take 30, ps.take m⟩, (some ⟨ge, oe, none⟩), n, ec, CA, cn, cc, A3, m, c3⟩, rfl, HRows.out, ⟨hbx, He3.out, fun x hx => HPB.out x (List.mem_of_mem_take hx), fun x hx => HPs.out x (List.mem_of_mem_take hx)⟩, ⟨by show n ≤ 10000; omega, by show cn ≤ 10000; omega, by show m ≤ 10000; omega⟩, rfl, HPm.out, rfl, by show n ≤ 41; omega, hm1, hcn, HBl.out, HSf.out.qa.cap⟩
              exact bodyPost_ret (v := GlV.val ⟨⟨x0, x1, x2, x3, es, pr.take 30, ps.take m⟩, (some ⟨ge, oe, none⟩), n, ec, CA, cn, cc, A3, m, c3⟩) (results_cell_row Try.results16 _ _ (w.heap.size + 1) 29 _ (0, 0) _ rfl KR.out Try.underlying29 rfl (glSize rfl)) rfl HM

end Go.Proofs.Ytlcnonhebppeiaa
