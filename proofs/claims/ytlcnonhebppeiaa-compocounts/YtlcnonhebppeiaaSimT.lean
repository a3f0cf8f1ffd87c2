/- simple: Parse, as a contract over this seat's translation. -/
import Derived.Test.YtlcnonhebppeiaaSimS
import Derived.StillTailTactics
namespace Go.Proofs.Ytlcnonhebppeiaa
open Go.RowKit
set_option linter.unusedVariables false

theorem oTold_eq {zs : List Int} {s : FS} (h : oGood zs s) (he : oEnd zs s ≤ zs.length) : oTold zs s = oGl zs (n2at zs 0).toNat s := by
  obtain ⟨_, _, h3, _⟩ := h
  unfold oFs at h3
  obtain ⟨h4, h5⟩ := fAll_some _ _ _ (Nat.sub_le _ _) (Nat.zero_le _) h3
  have h6 := oXe_le zs s
  simp only at h5
  unfold oTold oGl told
  rw [h4, if_pos (by rw [List.length_drop]; unfold oA at h5; omega)]
theorem oParse_some {zs : List Int} {s : FS} (h : oGood zs s) (he : oEnd zs s ≤ zs.length) : oParse zs = some (oTold zs s, oEnd zs s) := by
  rw [oTold_eq h he]
  obtain ⟨h1, h2, h3, h4⟩ := h
  unfold oParse oNum
  rw [if_neg (by omega), if_pos h2, h3]
  rw [show oTake zs _ (some s) = oPut zs _ s from rfl]
  unfold oPut
  rw [h4, decide_eq_true he]
  rfl
theorem oParse_no1 {zs : List Int} (h : ∀ s, ¬ oGood zs s) : oParse zs = none := by
  unfold oParse
  split
  · rfl
  · rename_i h1
    unfold oNum
    split
    · rename_i h2
      cases h3 : oFs zs (n2at zs 0).toNat with
      | none => rfl
      | some s =>
        rw [show oTake zs _ (some s) = oPut zs _ s from rfl]
        unfold oPut
        cases h4 : oPk zs s with
        | false => rfl
        | true => exact absurd ⟨by omega, h2, h3, h4⟩ (h s)
    · rfl
theorem oParse_no2 {zs : List Int} {s : FS} (h : oGood zs s) (he : zs.length < oEnd zs s) : oParse zs = none := by
  obtain ⟨h1, h2, h3, h4⟩ := h
  unfold oParse oNum
  rw [if_neg (by omega), if_pos h2, h3]
  rw [show oTake zs _ (some s) = oPut zs _ s from rfl]
  unfold oPut
  rw [h4, decide_eq_false (by omega)]
  rfl

/-- Three results: a struct in memory, and two plain values. -/
theorem results_three {P : Program} {fn : Func} {p q r : Tmp} {ty : TypeId} (h : fn.results = #[.cell p ty, .tmp q, .tmp r]) (tmps : Array Value) (w : World) (g : Nat) (t : TypeId) (cs : Array Value) (fr : Nat × Nat) (d : TypeDesc) {v u : Value}
    (hp : tmps.getD p undef = .pointer (some ⟨g, 0, none⟩)) (hq : tmps.getD q undef = v) (hr : tmps.getD r undef = u) (hg : w.heap[g]? = some (.cells cs t fr))
    (hu : P.underlying ty = some d) (hd : (match d with | .struct _ | .array _ _ => true | _ => false) = true) (hi : (P.info? ty).map (·.size) = some cs.size) :
    (results fn tmps).run P w = .ok (.tuple #[.agg cs, v, u]) w := by
  have hp' : tmps[p]?.getD undef = .pointer (some ⟨g, 0, none⟩) := by simpa using hp
  have hq' : tmps[q]?.getD undef = v := by simpa using hq
  have hr' : tmps[r]?.getD undef = u := by simpa using hr
  simp [results, h, hp', hq', hr', asAddr, run_loadVar_row w g t ty cs fr d hg hu hd hi]

/-- What Parse leaves. -/
def RetOP (w : World) (zs : List Int) (e : Ending) (w' : World) : Prop :=
  Below w.heap.size w w' ∧ ((oParse zs = none ∧ e = .returned (.tuple #[glV0.val, .int .i64 0, .int .i64 2])) ∨
    (∃ g a v, oParse zs = some (g, a) ∧ e = .returned (.tuple #[GlV.val v, .int .i64 (a : Nat), .int .i64 0]) ∧ GlV.rows w' v ∧ v.g = g))

theorem below_rowO {w0 w : World} {B g : Nat} (hg : B ≤ g) (cs : Array Value) (h : Below B w0 w) : Below B w0 (w.setRow g cs) :=
  h.trans ⟨rfl, rfl, rfl, by simp, fun k hk => setRow_other w g k cs (by omega)⟩

set_option maxRecDepth 100000 in
set_option maxHeartbeats 4000000 in
theorem oparse_any (A : Option Addr) (n c : Nat) (zs : List Int) (w : World) (hr : Row w A n (cellsOf .u8 zs)) (hB : Bytes zs) (hn : n ≤ 100000) (hc : n ≤ c) :
    Calls Try.prog 23 #[.slice A n c] w (RetOP w zs) := by
  have hA := (Below.refl w.heap.size w).alloc (Nat.le_refl _) (.cells glZ 29)
  have hk := heap_alloc_new w (.cells glZ 29)
  have HN := Lib.hid (new_any A n c zs _ (hr.below hA) (by omega))
  have hl := hr.len
  have Hl : Hid (zs.length = n) := hl
  have HB := Lib.hid hB
  have hml : zs.length ≤ 1000000 := by omega
  clear hr hB hl
  unfold glZ at hA hk HN
  have hn1 : (n : Int) ≤ 524297 := by omega
  go_enter Try.func23, Try.ntmps23
  go_wp2_with fail
  with_reducible refine HN.out.mono ?_
  rintro e w1 ⟨b, rfl, hrd, hb1⟩
  have hk1 := kept_block hk hb1
  have hbw := hA.trans (hb1.mono hA.size)
  have hrq := RdQ.new hrd
  have hfr := hrd.from_
  have hbne : w.heap.size ≠ b := by simp at hfr; omega
  have hbb : w.heap.size ≤ b := by simp at hfr; omega
  have HR := Lib.hid (oread_any hrq HB.out hml)
  clear hk hA hb1 hrd HN hfr
  go_wp2_with fail
  with_reducible refine HR.out.mono ?_
  rintro e w2 ⟨hg2, ⟨hno, v, j, rfl, hrd⟩ | ⟨s, v, hgood, rfl, hrows, hap, hv, hrd⟩⟩
  · have hk2 := (hg2.block _ (lt_of_block hk1) (by intro e; cases e; exact hbne rfl)).trans hk1
    have hb2 := hbw.grown hg2 hbw.size (fun k e => by cases e; exact hbb)
    have HX := Lib.hid (oParse_no1 hno)
    unfold GlV.val GlV.cells
    obtain ⟨⟨x0, x1, x2, x3, es, pr, ps⟩, EA, en, ec, PA, pn, pc, SA, sn, sc⟩ := v
    simp only
    have hA3 := (Below.refl w2.heap.size w2).alloc (Nat.le_refl _) (.cells #[.int .i16 x0, .int .i16 x1, .int .i16 x2, .int .i16 x3, .slice EA en ec, .slice PA pn pc, .slice SA sn sc] 29)
    have hk3 := kept_block hk2 hA3
    have hb3 := hb2.trans (hA3.mono hb2.size)
    have hnew := heap_alloc_new w2 (.cells glZ 29)
    unfold glZ at hnew
    have KR := Lib.hid (setRow_heap _ w.heap.size _ glZ 29 (0, 0) hk3)
    have HBl := Lib.hid (below_rowO (Nat.le_refl _) glZ hb3)
    unfold glZ at KR HBl
    clear hno hrd hg2 hk1 hk2 hb2 hA3 hb3 hbw HR
    go_wp2_with (first
      | (with_reducible refine wpList_store_row rfl 29 (.tmp 6) (.tmp 17) rfl w2.heap.size #[.int .i16 x0, .int .i16 x1, .int .i16 x2, .int .i16 x3, .slice EA en ec, .slice PA pn pc, .slice SA sn sc] rfl rfl 29 #[.int .i16 0, .int .i16 0, .int .i16 0, .int .i16 0, .slice none 0 0, .slice none 0 0, .slice none 0 0] hnew (gl7 _ _ _ _ _ _ _ _ _ _ _ _ _).1 (gl7 _ _ _ _ _ _ _ _ _ _ _ _ _).2.1 (gl7 _ _ _ _ _ _ _ _ _ _ _ _ _).2.2 ?_; rw [World.setRow_alloc_new])
      | (with_reducible refine wpList_store_row rfl 29 (.tmp 2) (.tmp 25) rfl w.heap.size #[.int .i16 0, .int .i16 0, .int .i16 0, .int .i16 0, .slice none 0 0, .slice none 0 0, .slice none 0 0] rfl rfl 29 #[.int .i16 0, .int .i16 0, .int .i16 0, .int .i16 0, .slice none 0 0, .slice none 0 0, .slice none 0 0] hk3 (gl7 _ _ _ _ _ _ _ _ _ _ _ _ _).1 (gl7 _ _ _ _ _ _ _ _ _ _ _ _ _).2.1 (gl7 _ _ _ _ _ _ _ _ _ _ _ _ _).2.2 ?_))
    exact bodyPost_ret (v := .tuple #[glV0.val, .int .i64 0, .int .i64 2]) (results_three Try.results23 _ _ w.heap.size 29 _ (0, 0) _ rfl rfl rfl KR.out Try.underlying29 rfl (glSize rfl)) rfl ⟨HBl.out, .inl ⟨HX.out, rfl⟩⟩
  · have hk2 := (hg2.block _ (lt_of_block hk1) (by intro e; cases e; exact hbne rfl)).trans hk1
    have hb2 := hbw.grown hg2 hbw.size (fun k e => by cases e; exact hbb)
    have HV := Lib.hid hv
    have Hrows := Lib.hid hrows
    have Hap := Lib.hid hap
    unfold GlV.val GlV.cells
    obtain ⟨⟨x0, x1, x2, x3, es, pr, ps⟩, EA, en, ec, PA, pn, pc, SA, sn, sc⟩ := v
    simp only
    have hA3 := (Below.refl w2.heap.size w2).alloc (Nat.le_refl _) (.cells #[.int .i16 x0, .int .i16 x1, .int .i16 x2, .int .i16 x3, .slice EA en ec, .slice PA pn pc, .slice SA sn sc] 29)
    have hk3 := kept_block hk2 hA3
    have hb3 := hb2.trans (hA3.mono hb2.size)
    have hnew := heap_alloc_new w2 (.cells glZ 29)
    have hnew3 := heap_alloc_new w2 (.cells #[.int .i16 x0, .int .i16 x1, .int .i16 x2, .int .i16 x3, .slice EA en ec, .slice PA pn pc, .slice SA sn sc] 29)
    have hrows3 := Hrows.out.below hA3
    have hap3 := Hap.out.below hA3
    have HBad := Lib.hid (rdq_badB (hrd.below hA3))
    have hrd3 := hrd.below hA3
    have hne2 : w.heap.size ≠ w2.heap.size := by have := lt_of_block hk2; omega
    have hw2 : w.heap.size < w2.heap.size := lt_of_block hk2
    unfold glZ at hnew
    have KR := Lib.hid (setRow_heap _ w.heap.size _ glZ 29 (0, 0) hk3)
    have HBl := Lib.hid (below_rowO (Nat.le_refl _) glZ hb3)
    unfold glZ at KR HBl
    clear hrows hap hv hrd hg2 hk1 hk2 hb2 hA3 hbw HR
    go_wp2_with (with_reducible refine wpList_store_row rfl 29 (.tmp 6) (.tmp 17) rfl w2.heap.size #[.int .i16 x0, .int .i16 x1, .int .i16 x2, .int .i16 x3, .slice EA en ec, .slice PA pn pc, .slice SA sn sc] rfl rfl 29 #[.int .i16 0, .int .i16 0, .int .i16 0, .int .i16 0, .slice none 0 0, .slice none 0 0, .slice none 0 0] hnew (gl7 _ _ _ _ _ _ _ _ _ _ _ _ _).1 (gl7 _ _ _ _ _ _ _ _ _ _ _ _ _).2.1 (gl7 _ _ _ _ _ _ _ _ _ _ _ _ _).2.2 ?_; rw [World.setRow_alloc_new])
    with_reducible refine HBad.out.mono ?_
    rintro e w4 ⟨rfl, rfl⟩
    clear hnew
    by_cases hlen : zs.length < oEnd zs s
    · have HX := Lib.hid (oParse_no2 hgood hlen)
      rw [decide_eq_true hlen]
      clear hgood hlen HV Hrows hrows3 Hap hap3 hnew3 hrd3 HBad
      generalize w2.alloc _ = V at *
      go_wp2_with (with_reducible refine wpList_store_row rfl 29 (.tmp 2) (.tmp 25) rfl w.heap.size #[.int .i16 0, .int .i16 0, .int .i16 0, .int .i16 0, .slice none 0 0, .slice none 0 0, .slice none 0 0] rfl rfl 29 #[.int .i16 0, .int .i16 0, .int .i16 0, .int .i16 0, .slice none 0 0, .slice none 0 0, .slice none 0 0] hk3 (gl7 _ _ _ _ _ _ _ _ _ _ _ _ _).1 (gl7 _ _ _ _ _ _ _ _ _ _ _ _ _).2.1 (gl7 _ _ _ _ _ _ _ _ _ _ _ _ _).2.2 ?_)
      exact bodyPost_ret (v := .tuple #[glV0.val, .int .i64 0, .int .i64 2]) (results_three Try.results23 _ _ w.heap.size 29 _ (0, 0) _ rfl rfl rfl KR.out Try.underlying29 rfl (glSize rfl)) rfl ⟨HBl.out, .inl ⟨HX.out, rfl⟩⟩
    · have HX := Lib.hid (oParse_some hgood (by omega))
      have HAt : Hid (∀ W, RdQ W (w.alloc (.cells #[.int .i16 0, .int .i16 0, .int .i16 0, .int .i16 0, .slice none 0 0, .slice none 0 0, .slice none 0 0] 29)).heap.size b zs (oEnd zs s) → Calls Try.prog 64 #[.pointer (some ⟨b, 0, none⟩)] W fun e w' => e = .returned (.int .i64 ((oEnd zs s : Nat) : Int)) ∧ w' = W) := fun W h => (rdq_at h (by omega)).mono fun e w' ⟨h1, h2⟩ => ⟨h1, h2.symm⟩
      have HAt2 := Lib.hid (HAt.out _ hrd3.drew)
      rw [decide_eq_false hlen]
      generalize w2.alloc _ = V at *
      have hk4 : V.drew.heap[w.heap.size]? = some (.cells #[.int .i16 0, .int .i16 0, .int .i16 0, .int .i16 0, .slice none 0 0, .slice none 0 0, .slice none 0 0] 29 (0, 0)) := hk3
      have KR2 := Lib.hid (setRow_heap V.drew w.heap.size #[.int .i16 0, .int .i16 0, .int .i16 0, .int .i16 0, .slice none 0 0, .slice none 0 0, .slice none 0 0] #[.int .i16 x0, .int .i16 x1, .int .i16 x2, .int .i16 x3, .slice EA en ec, .slice PA pn pc, .slice SA sn sc] 29 (0, 0) hk4)
      have HBl2 := Lib.hid (below_rowO (Nat.le_refl _) #[.int .i16 x0, .int .i16 x1, .int .i16 x2, .int .i16 x3, .slice EA en ec, .slice PA pn pc, .slice SA sn sc] hb3.drew)
      have HRows : Hid (GlV.rows (V.drew.setRow w.heap.size #[.int .i16 x0, .int .i16 x1, .int .i16 x2, .int .i16 x3, .slice EA en ec, .slice PA pn pc, .slice SA sn sc]) ⟨⟨x0, x1, x2, x3, es, pr, ps⟩, EA, en, ec, PA, pn, pc, SA, sn, sc⟩) := GlV.rows.row (w := V.drew) ⟨hrows3.es, hrows3.pr, hrows3.ps⟩ hap3 hk4 _
      obtain ⟨b0, b1, b2, b3, b4, b5, b6⟩ := cells7 (show V.drew.heap[w2.heap.size]? = some (.cells #[.int .i16 x0, .int .i16 x1, .int .i16 x2, .int .i16 x3, .slice EA en ec, .slice PA pn pc, .slice SA sn sc] 29 (0, 0)) from hnew3)
      clear hgood hlen hk3 hb3 KR HBl hnew3 hrd3 HAt HBad Hrows hrows3 Hap hap3
      go_upto_region 5 with fail
      refine wp_region_still_tail 3 (by kernel_rfl) (by kernel_rfl) ?_
      simp only [List.take_succ_cons, List.take_zero, List.drop_succ_cons, List.drop_zero]
      repeat still_step
      still_call HAt2.out
      refine wpStill_nil ?_
      refine wpList_store_row rfl 29 (.tmp 2) (.tmp 26) rfl w.heap.size #[.int .i16 x0, .int .i16 x1, .int .i16 x2, .int .i16 x3, .slice EA en ec, .slice PA pn pc, .slice SA sn sc] rfl rfl 29 #[.int .i16 0, .int .i16 0, .int .i16 0, .int .i16 0, .slice none 0 0, .slice none 0 0, .slice none 0 0] hk4 (gl7 _ _ _ _ _ _ _ _ _ _ _ _ _).1 (gl7 _ _ _ _ _ _ _ _ _ _ _ _ _).2.1 (gl7 _ _ _ _ _ _ _ _ _ _ _ _ _).2.2 ?_
      go_wp2
      exact bodyPost_ret (v := .tuple #[.agg #[.int .i16 x0, .int .i16 x1, .int .i16 x2, .int .i16 x3, .slice EA en ec, .slice PA pn pc, .slice SA sn sc], .int .i64 (oEnd zs s : Nat), .int .i64 0]) (results_three Try.results23 _ _ w.heap.size 29 _ (0, 0) _ rfl rfl rfl KR2.out Try.underlying29 rfl (glSize rfl)) rfl ⟨HBl2.out, .inr ⟨_, _, _, HX.out, rfl, HRows.out, HV.out⟩⟩

end Go.Proofs.Ytlcnonhebppeiaa
