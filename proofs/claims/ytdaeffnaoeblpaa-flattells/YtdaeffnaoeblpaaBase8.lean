/- What the laws of this seat lean on: SimT ComQ SimX ComX SimV SimV2. -/
import Derived.StillTailTactics
import Derived.Test.YtdaeffnaoeblpaaBase4
import Derived.Test.YtdaeffnaoeblpaaBase5
import Derived.Test.YtdaeffnaoeblpaaBase6
import Derived.Test.YtdaeffnaoeblpaaBase7

/- simple: Parse, as a contract over this seat's translation. -/
namespace Go.Proofs.Ytdaeffnaoeblpaa
open Go.RowKit
set_option linter.unusedVariables false

theorem oTold_eq {zs : List Int} {s : FS} (h : oGood zs s) (he : oEnd zs s ≤ zs.length) : oTold zs s = oGl zs (n2at zs 0).toNat s := by
  obtain ⟨_, _, h3, _⟩ := h
  unfold oFs at h3
  obtain ⟨h4, h5⟩ := fAll_some _ _ _ (Nat.sub_le _ _) (Nat.zero_le _) h3
  have h6 := oXe_le zs s
  simp only at h5
  unfold oTold oGl told
  rw [h4, if_pos (by rw [List.length_drop]; unfold oA at h5; omega)]
theorem oParse_some {zs : List Int} {s : FS} (h : oGood zs s) (he : oEnd zs s ≤ zs.length) : oParse zs = some (oTold zs s, oEnd zs s) := by
  rw [oTold_eq h he]
  obtain ⟨h1, h2, h3, h4⟩ := h
  unfold oParse oNum
  rw [if_neg (by omega), if_pos h2, h3]
  rw [show oTake zs _ (some s) = oPut zs _ s from rfl]
  unfold oPut
  rw [h4, decide_eq_true he]
  rfl
theorem oParse_no1 {zs : List Int} (h : ∀ s, ¬ oGood zs s) : oParse zs = none := by
  unfold oParse
  split
  · rfl
  · rename_i h1
    unfold oNum
    split
    · rename_i h2
      cases h3 : oFs zs (n2at zs 0).toNat with
      | none => rfl
      | some s =>
        rw [show oTake zs _ (some s) = oPut zs _ s from rfl]
        unfold oPut
        cases h4 : oPk zs s with
        | false => rfl
        | true => exact absurd ⟨by omega, h2, h3, h4⟩ (h s)
    · rfl
theorem oParse_no2 {zs : List Int} {s : FS} (h : oGood zs s) (he : zs.length < oEnd zs s) : oParse zs = none := by
  obtain ⟨h1, h2, h3, h4⟩ := h
  unfold oParse oNum
  rw [if_neg (by omega), if_pos h2, h3]
  rw [show oTake zs _ (some s) = oPut zs _ s from rfl]
  unfold oPut
  rw [h4, decide_eq_false (by omega)]
  rfl

/-- Three results: a struct in memory, and two plain values. -/
theorem results_three {P : Program} {fn : Func} {p q r : Tmp} {ty : TypeId} (h : fn.results = #[.cell p ty, .tmp q, .tmp r]) (tmps : Array Value) (w : World) (g : Nat) (t : TypeId) (cs : Array Value) (fr : Nat × Nat) (d : TypeDesc) {v u : Value}
    (hp : tmps.getD p undef = .pointer (some ⟨g, 0, none⟩)) (hq : tmps.getD q undef = v) (hr : tmps.getD r undef = u) (hg : w.heap[g]? = some (.cells cs t fr))
    (hu : P.underlying ty = some d) (hd : (match d with | .struct _ | .array _ _ => true | _ => false) = true) (hi : (P.info? ty).map (·.size) = some cs.size) :
    (results fn tmps).run P w = .ok (.tuple #[.agg cs, v, u]) w := by
  have hp' : tmps[p]?.getD undef = .pointer (some ⟨g, 0, none⟩) := by simpa using hp
  have hq' : tmps[q]?.getD undef = v := by simpa using hq
  have hr' : tmps[r]?.getD undef = u := by simpa using hr
  simp [results, h, hp', hq', hr', asAddr, run_loadVar_row w g t ty cs fr d hg hu hd hi]

/-- What Parse leaves. -/
def RetOP (w : World) (zs : List Int) (e : Ending) (w' : World) : Prop :=
  Below w.heap.size w w' ∧ ((oParse zs = none ∧ e = .returned (.tuple #[glV0.val, .int .i64 0, .int .i64 2])) ∨
    (∃ g a v, oParse zs = some (g, a) ∧ e = .returned (.tuple #[GlV.val v, .int .i64 (a : Nat), .int .i64 0]) ∧ GlV.rows w' v ∧ v.g = g))
/-- The same, and that the points' slice reaches no further than its block. -/
def RetOPc (w : World) (zs : List Int) (e : Ending) (w' : World) : Prop :=
  Below w.heap.size w w' ∧ ((oParse zs = none ∧ e = .returned (.tuple #[glV0.val, .int .i64 0, .int .i64 2])) ∨
    (∃ g a v, oParse zs = some (g, a) ∧ e = .returned (.tuple #[GlV.val v, .int .i64 (a : Nat), .int .i64 0]) ∧ GlV.rows w' v ∧ v.g = g ∧ v.sn ≤ v.sc))

theorem below_rowO {w0 w : World} {B g : Nat} (hg : B ≤ g) (cs : Array Value) (h : Below B w0 w) : Below B w0 (w.setRow g cs) :=
  h.trans ⟨rfl, rfl, rfl, by simp, fun k hk => setRow_other w g k cs (by omega)⟩

set_option maxRecDepth 100000 in
set_option maxHeartbeats 4000000 in
theorem oparse_anyC (A : Option Addr) (n c : Nat) (zs : List Int) (w : World) (hr : Row w A n (cellsOf .u8 zs)) (hB : Bytes zs) (hn : n ≤ 100000) (hc : n ≤ c) :
    Calls Try.prog 120 #[.slice A n c] w (RetOPc w zs) := by
  have hA := (Below.refl w.heap.size w).alloc (Nat.le_refl _) (.cells glZ 44)
  have hk := heap_alloc_new w (.cells glZ 44)
  have HN := Lib.hid (new_any A n c zs _ (hr.below hA) (by omega))
  have hl := hr.len
  have Hl : Hid (zs.length = n) := hl
  have HB := Lib.hid hB
  have hml : zs.length ≤ 1000000 := by omega
  clear hr hB hl
  unfold glZ at hA hk HN
  have hn1 : (n : Int) ≤ 524297 := by omega
  go_enter Try.func120, Try.ntmps120
  go_wp2_with fail
  with_reducible refine HN.out.mono ?_
  rintro e w1 ⟨b, rfl, hrd, hb1⟩
  have hk1 := kept_block hk hb1
  have hbw := hA.trans (hb1.mono hA.size)
  have hrq := RdQ.new hrd
  have hfr := hrd.from_
  have hbne : w.heap.size ≠ b := by simp at hfr; omega
  have hbb : w.heap.size ≤ b := by simp at hfr; omega
  have HR := Lib.hid (oread_any hrq HB.out hml)
  clear hk hA hb1 hrd HN hfr
  go_wp2_with fail
  with_reducible refine HR.out.mono ?_
  rintro e w2 ⟨hg2, ⟨hno, v, j, rfl, hrd⟩ | ⟨s, v, hgood, rfl, hrows, hap, hv, hrd, hcap⟩⟩
  · have hk2 := (hg2.block _ (lt_of_block hk1) (by intro e; cases e; exact hbne rfl)).trans hk1
    have hb2 := hbw.grown hg2 hbw.size (fun k e => by cases e; exact hbb)
    have HX := Lib.hid (oParse_no1 hno)
    unfold GlV.val GlV.cells
    obtain ⟨⟨x0, x1, x2, x3, es, pr, ps⟩, EA, en, ec, PA, pn, pc, SA, sn, sc⟩ := v
    simp only
    have hA3 := (Below.refl w2.heap.size w2).alloc (Nat.le_refl _) (.cells #[.int .i16 x0, .int .i16 x1, .int .i16 x2, .int .i16 x3, .slice EA en ec, .slice PA pn pc, .slice SA sn sc] 44)
    have hk3 := kept_block hk2 hA3
    have hb3 := hb2.trans (hA3.mono hb2.size)
    have hnew := heap_alloc_new w2 (.cells glZ 44)
    unfold glZ at hnew
    have KR := Lib.hid (setRow_heap _ w.heap.size _ glZ 44 (0, 0) hk3)
    have HBl := Lib.hid (below_rowO (Nat.le_refl _) glZ hb3)
    unfold glZ at KR HBl
    clear hno hrd hg2 hk1 hk2 hb2 hA3 hb3 hbw HR
    go_wp2_with (first
      | (with_reducible refine wpList_store_row rfl 44 (.tmp 6) (.tmp 17) rfl w2.heap.size #[.int .i16 x0, .int .i16 x1, .int .i16 x2, .int .i16 x3, .slice EA en ec, .slice PA pn pc, .slice SA sn sc] rfl rfl 44 #[.int .i16 0, .int .i16 0, .int .i16 0, .int .i16 0, .slice none 0 0, .slice none 0 0, .slice none 0 0] hnew (gl7 _ _ _ _ _ _ _ _ _ _ _ _ _).1 (gl7 _ _ _ _ _ _ _ _ _ _ _ _ _).2.1 (gl7 _ _ _ _ _ _ _ _ _ _ _ _ _).2.2 ?_; rw [World.setRow_alloc_new])
      | (with_reducible refine wpList_store_row rfl 44 (.tmp 2) (.tmp 25) rfl w.heap.size #[.int .i16 0, .int .i16 0, .int .i16 0, .int .i16 0, .slice none 0 0, .slice none 0 0, .slice none 0 0] rfl rfl 44 #[.int .i16 0, .int .i16 0, .int .i16 0, .int .i16 0, .slice none 0 0, .slice none 0 0, .slice none 0 0] hk3 (gl7 _ _ _ _ _ _ _ _ _ _ _ _ _).1 (gl7 _ _ _ _ _ _ _ _ _ _ _ _ _).2.1 (gl7 _ _ _ _ _ _ _ _ _ _ _ _ _).2.2 ?_))
    exact bodyPost_ret (v := .tuple #[glV0.val, .int .i64 0, .int .i64 2]) (results_three Try.results120 _ _ w.heap.size 44 _ (0, 0) _ rfl rfl rfl KR.out Try.underlying44 rfl (glSize rfl)) rfl ⟨HBl.out, .inl ⟨HX.out, rfl⟩⟩
  · have hk2 := (hg2.block _ (lt_of_block hk1) (by intro e; cases e; exact hbne rfl)).trans hk1
    have hb2 := hbw.grown hg2 hbw.size (fun k e => by cases e; exact hbb)
    have HV := Lib.hid hv
    have HCp := Lib.hid hcap
    clear hcap
    have Hrows := Lib.hid hrows
    have Hap := Lib.hid hap
    unfold GlV.val GlV.cells
    obtain ⟨⟨x0, x1, x2, x3, es, pr, ps⟩, EA, en, ec, PA, pn, pc, SA, sn, sc⟩ := v
    simp only
    have hA3 := (Below.refl w2.heap.size w2).alloc (Nat.le_refl _) (.cells #[.int .i16 x0, .int .i16 x1, .int .i16 x2, .int .i16 x3, .slice EA en ec, .slice PA pn pc, .slice SA sn sc] 44)
    have hk3 := kept_block hk2 hA3
    have hb3 := hb2.trans (hA3.mono hb2.size)
    have hnew := heap_alloc_new w2 (.cells glZ 44)
    have hnew3 := heap_alloc_new w2 (.cells #[.int .i16 x0, .int .i16 x1, .int .i16 x2, .int .i16 x3, .slice EA en ec, .slice PA pn pc, .slice SA sn sc] 44)
    have hrows3 := Hrows.out.below hA3
    have hap3 := Hap.out.below hA3
    have HBad := Lib.hid (rdq_badB (hrd.below hA3))
    have hrd3 := hrd.below hA3
    have hne2 : w.heap.size ≠ w2.heap.size := by have := lt_of_block hk2; omega
    have hw2 : w.heap.size < w2.heap.size := lt_of_block hk2
    unfold glZ at hnew
    have KR := Lib.hid (setRow_heap _ w.heap.size _ glZ 44 (0, 0) hk3)
    have HBl := Lib.hid (below_rowO (Nat.le_refl _) glZ hb3)
    unfold glZ at KR HBl
    clear hrows hap hv hrd hg2 hk1 hk2 hb2 hA3 hbw HR
    go_wp2_with (with_reducible refine wpList_store_row rfl 44 (.tmp 6) (.tmp 17) rfl w2.heap.size #[.int .i16 x0, .int .i16 x1, .int .i16 x2, .int .i16 x3, .slice EA en ec, .slice PA pn pc, .slice SA sn sc] rfl rfl 44 #[.int .i16 0, .int .i16 0, .int .i16 0, .int .i16 0, .slice none 0 0, .slice none 0 0, .slice none 0 0] hnew (gl7 _ _ _ _ _ _ _ _ _ _ _ _ _).1 (gl7 _ _ _ _ _ _ _ _ _ _ _ _ _).2.1 (gl7 _ _ _ _ _ _ _ _ _ _ _ _ _).2.2 ?_; rw [World.setRow_alloc_new])
    with_reducible refine HBad.out.mono ?_
    rintro e w4 ⟨rfl, rfl⟩
    clear hnew
    by_cases hlen : zs.length < oEnd zs s
    · have HX := Lib.hid (oParse_no2 hgood hlen)
      rw [decide_eq_true hlen]
      clear hgood hlen HV Hrows hrows3 Hap hap3 hnew3 hrd3 HBad
      generalize w2.alloc _ = V at *
      go_wp2_with (with_reducible refine wpList_store_row rfl 44 (.tmp 2) (.tmp 25) rfl w.heap.size #[.int .i16 0, .int .i16 0, .int .i16 0, .int .i16 0, .slice none 0 0, .slice none 0 0, .slice none 0 0] rfl rfl 44 #[.int .i16 0, .int .i16 0, .int .i16 0, .int .i16 0, .slice none 0 0, .slice none 0 0, .slice none 0 0] hk3 (gl7 _ _ _ _ _ _ _ _ _ _ _ _ _).1 (gl7 _ _ _ _ _ _ _ _ _ _ _ _ _).2.1 (gl7 _ _ _ _ _ _ _ _ _ _ _ _ _).2.2 ?_)
      exact bodyPost_ret (v := .tuple #[glV0.val, .int .i64 0, .int .i64 2]) (results_three Try.results120 _ _ w.heap.size 44 _ (0, 0) _ rfl rfl rfl KR.out Try.underlying44 rfl (glSize rfl)) rfl ⟨HBl.out, .inl ⟨HX.out, rfl⟩⟩
    · have HX := Lib.hid (oParse_some hgood (by omega))
      have HAt : Hid (∀ W, RdQ W (w.alloc (.cells #[.int .i16 0, .int .i16 0, .int .i16 0, .int .i16 0, .slice none 0 0, .slice none 0 0, .slice none 0 0] 44)).heap.size b zs (oEnd zs s) → Calls Try.prog 156 #[.pointer (some ⟨b, 0, none⟩)] W fun e w' => e = .returned (.int .i64 ((oEnd zs s : Nat) : Int)) ∧ w' = W) := fun W h => (rdq_at h (by omega)).mono fun e w' ⟨h1, h2⟩ => ⟨h1, h2.symm⟩
      have HAt2 := Lib.hid (HAt.out _ hrd3.drew)
      rw [decide_eq_false hlen]
      generalize w2.alloc _ = V at *
      have hk4 : V.drew.heap[w.heap.size]? = some (.cells #[.int .i16 0, .int .i16 0, .int .i16 0, .int .i16 0, .slice none 0 0, .slice none 0 0, .slice none 0 0] 44 (0, 0)) := hk3
      have KR2 := Lib.hid (setRow_heap V.drew w.heap.size #[.int .i16 0, .int .i16 0, .int .i16 0, .int .i16 0, .slice none 0 0, .slice none 0 0, .slice none 0 0] #[.int .i16 x0, .int .i16 x1, .int .i16 x2, .int .i16 x3, .slice EA en ec, .slice PA pn pc, .slice SA sn sc] 44 (0, 0) hk4)
      have HBl2 := Lib.hid (below_rowO (Nat.le_refl _) #[.int .i16 x0, .int .i16 x1, .int .i16 x2, .int .i16 x3, .slice EA en ec, .slice PA pn pc, .slice SA sn sc] hb3.drew)
      have HRows : Hid (GlV.rows (V.drew.setRow w.heap.size #[.int .i16 x0, .int .i16 x1, .int .i16 x2, .int .i16 x3, .slice EA en ec, .slice PA pn pc, .slice SA sn sc]) ⟨⟨x0, x1, x2, x3, es, pr, ps⟩, EA, en, ec, PA, pn, pc, SA, sn, sc⟩) := GlV.rows.row (w := V.drew) ⟨hrows3.es, hrows3.pr, hrows3.ps⟩ hap3 hk4 _
      obtain ⟨b0, b1, b2, b3, b4, b5, b6⟩ := cells7 (show V.drew.heap[w2.heap.size]? = some (.cells #[.int .i16 x0, .int .i16 x1, .int .i16 x2, .int .i16 x3, .slice EA en ec, .slice PA pn pc, .slice SA sn sc] 44 (0, 0)) from hnew3)
      clear hgood hlen hk3 hb3 KR HBl hnew3 hrd3 HAt HBad Hrows hrows3 Hap hap3
      go_upto_region 5 with fail
      refine wp_region_still_tail 3 (by kernel_rfl) (by kernel_rfl) ?_
      simp only [List.take_succ_cons, List.take_zero, List.drop_succ_cons, List.drop_zero]
      repeat still_step
      still_call HAt2.out
      refine wpStill_nil ?_
      refine wpList_store_row rfl 44 (.tmp 2) (.tmp 26) rfl w.heap.size #[.int .i16 x0, .int .i16 x1, .int .i16 x2, .int .i16 x3, .slice EA en ec, .slice PA pn pc, .slice SA sn sc] rfl rfl 44 #[.int .i16 0, .int .i16 0, .int .i16 0, .int .i16 0, .slice none 0 0, .slice none 0 0, .slice none 0 0] hk4 (gl7 _ _ _ _ _ _ _ _ _ _ _ _ _).1 (gl7 _ _ _ _ _ _ _ _ _ _ _ _ _).2.1 (gl7 _ _ _ _ _ _ _ _ _ _ _ _ _).2.2 ?_
      go_wp2
      exact bodyPost_ret (v := .tuple #[.agg #[.int .i16 x0, .int .i16 x1, .int .i16 x2, .int .i16 x3, .slice EA en ec, .slice PA pn pc, .slice SA sn sc], .int .i64 (oEnd zs s : Nat), .int .i64 0]) (results_three Try.results120 _ _ w.heap.size 44 _ (0, 0) _ rfl rfl rfl KR2.out Try.underlying44 rfl (glSize rfl)) rfl ⟨HBl2.out, .inr ⟨_, _, _, HX.out, rfl, HRows.out, HV.out, HCp.out⟩⟩

theorem oparse_any (A : Option Addr) (n c : Nat) (zs : List Int) (w : World) (hr : Row w A n (cellsOf .u8 zs)) (hB : Bytes zs) (hn : n ≤ 100000) (hc : n ≤ c) :
    Calls Try.prog 120 #[.slice A n c] w (RetOP w zs) :=
  (oparse_anyC A n c zs w hr hB hn hc).mono fun e w' h => ⟨h.1, h.2.imp id fun ⟨g, a, v, h1, h2, h3, h4, _⟩ => ⟨g, a, v, h1, h2, h3, h4⟩⟩

end Go.Proofs.Ytdaeffnaoeblpaa

/- compo: Parse, as a contract over this seat's translation. -/
namespace Go.Proofs.Ytdaeffnaoeblpaa
open Go.RowKit
set_option linter.unusedVariables false
set_option linter.unusedSimpArgs false

/-- Is there a glyph, by what is read? -/
def cOk (zs : List Int) : Bool := decide (n2at zs 0 = 65535) && decide (cgEnd zs 2 ≤ zs.length) && cRight (cgRd zs 2)
def cg0 : CgV := ⟨⟨0, 0, 0, 0, [], []⟩, none, 0, 0, none, 0, 0⟩
def RetCP (w : World) (zs : List Int) (e : Ending) (w' : World) : Prop :=
  Below w.heap.size w w' ∧ ((cOk zs = false ∧ e = .returned (.tuple #[cg0.val, .int .i64 0, .int .i64 2])) ∨
    (cOk zs = true ∧ ∃ v : CgV, e = .returned (.tuple #[v.val, .int .i64 (cgEnd zs 2 : Nat), .int .i64 0]) ∧ v.rows w' ∧ v.g = cgRd zs 2 ∧ v.g.ok ∧ v.q ≤ 201))
/-- The same, and that the lists lie in blocks of parts or of bytes. -/
def RetCPc (w : World) (zs : List Int) (e : Ending) (w' : World) : Prop :=
  Below w.heap.size w w' ∧ ((cOk zs = false ∧ e = .returned (.tuple #[cg0.val, .int .i64 0, .int .i64 2])) ∨
    (cOk zs = true ∧ ∃ v : CgV, e = .returned (.tuple #[v.val, .int .i64 (cgEnd zs 2 : Nat), .int .i64 0]) ∧ v.rows w' ∧ v.g = cgRd zs 2 ∧ v.g.ok ∧ v.q ≤ 201 ∧ v.apart w'))

structure RQo (w wr : World) (os : Array Value) (v : CgV) : Prop where
  bel : Below w.heap.size w wr
  out : wr.heap[w.heap.size]? = some (.cells os 49 (0, 0))
  rows : v.rows wr
  apart : v.apart wr
theorem RQo.set {w wr : World} {os : Array Value} {v : CgV} (h : RQo w wr os v) (q : Nat) (x : Value) : RQo w (wr.setCell ⟨w.heap.size, q, none⟩ x) (os.setIfInBounds q x) v := by
  have hne : ∀ g, (blockOf v.QA = some g ∨ blockOf v.PA = some g) → g ≠ w.heap.size := by
    rintro g hg rfl
    obtain ⟨cur, t, hc, ht⟩ := h.apart _ hg
    rw [h.out] at hc
    simp at hc
    exact ht.1 hc.2.symm
  refine ⟨h.bel.setCell (p := ⟨w.heap.size, q, none⟩) (Nat.le_refl _) x, set_block h.out q x, ⟨h.rows.ps.keep (by simp [World.setCell]) (fun g e _ => Below.heap_setCell wr _ x _ (hne g (.inl e))), h.rows.pr.keep (by simp [World.setCell]) (fun g e _ => Below.heap_setCell wr _ x _ (hne g (.inr e)))⟩, ?_⟩
  intro g hg
  obtain ⟨cur, t, hc, ht⟩ := h.apart g hg
  exact ⟨cur, t, (Below.heap_setCell wr _ x _ (hne g hg)).trans hc, ht⟩
theorem RQo.below {w wr w' : World} {os : Array Value} {v : CgV} (h : RQo w wr os v) (hb : Below wr.heap.size wr w') : RQo w w' os v :=
  ⟨h.bel.trans (hb.mono h.bel.size), kept_block h.out hb, h.rows.below hb, fun g hg => by
    obtain ⟨cur, t, hc, ht⟩ := h.apart g hg
    exact ⟨cur, t, kept_block hc hb, ht⟩⟩

theorem cut_bytesQ {zs : List Int} (h : Bytes zs) (k : Nat) : Bytes (zs.take k) := fun x hx => h x (List.mem_of_mem_take hx)
theorem told_lenQ (zs : List Int) (m : Nat) : (told zs m).length ≤ zs.length := by
  unfold told
  split
  · rw [List.length_take]; omega
  · simp

set_option maxRecDepth 100000 in
set_option maxHeartbeats 4000000 in
theorem cparse_anyC (A : Option Addr) (n c : Nat) (zs : List Int) (w : World) (hr : Row w A n (cellsOf .u8 zs)) (hB : Bytes zs) (hn : n ≤ 68747) (hc : n ≤ c) :
    Calls Try.prog 118 #[.slice A n c] w (RetCPc w zs) := by
  have hA := (Below.refl w.heap.size w).alloc (Nat.le_refl _) (.cells cgZ 49)
  have hk := heap_alloc_new w (.cells cgZ 49)
  have hl0 := hr.len
  have HB := Lib.hid hB
  have hml : zs.length ≤ 68747 := by omega
  have HN := Lib.hid (new_any A n c zs _ (hr.below hA) (by omega))
  have hn1 : (n : Int) ≤ 68747 := by omega
  clear hr hB hl0
  unfold cgZ at hA hk HN
  go_enter Try.func118, Try.ntmps118
  go_wp2_with fail
  with_reducible refine HN.out.mono ?_
  rintro e w1 ⟨b, rfl, hrd, hb1⟩
  have hk1 := kept_block hk hb1
  have hbw := hA.trans (hb1.mono hA.size)
  have hrq := RdQ.new hrd
  have hfr := hrd.from_
  have hbne : w.heap.size ≠ b := by simp at hfr; omega
  have hbb : w.heap.size ≤ b := by simp at hfr; omega
  have HU := Lib.hid (rdq_u16 hrq HB.out (by omega))
  clear hk hA hb1 hrd HN hfr hrq
  go_wp2_with fail
  with_reducible refine HU.out.mono ?_
  rintro e w2 ⟨rfl, h2, g2⟩
  rw [Nat.zero_add] at h2
  have hk2 := (g2.block _ (lt_of_block hk1) (by intro e; cases e; exact hbne rfl)).trans hk1
  have hb2 := hbw.grown g2 hbw.size (fun k e => by cases e; exact hbb)
  have HR := Lib.hid (cread_any h2 HB.out (by omega))
  clear hk1 hbw HU h2 g2
  go_wp2_with fail
  with_reducible refine HR.out.mono ?_
  rintro e w3 ⟨g3, hrd3, v, rfl, hrows, hap, hv, hvo, hvq⟩
  have hk3 := (g3.block _ (lt_of_block hk2) (by intro e; cases e; exact hbne rfl)).trans hk2
  have hb3 := hb2.grown g3 hb2.size (fun k e => by cases e; exact hbb)
  have hso0 : RQo w w3 #[.int .i16 0, .int .i16 0, .int .i16 0, .int .i16 0, .slice none 0 0, .slice none 0 0] v := ⟨hb3, hk3, hrows, hap⟩
  have hA4 := (Below.refl w3.heap.size w3).alloc (Nat.le_refl _) (.cells v.cells 49)
  have hso1 := hso0.below hA4
  have hnew := heap_alloc_new w3 (.cells v.cells 49)
  have hrd4 := hrd3.below hA4
  have hpl : v.pn = v.g.pr.length := hrows.pr.len.symm
  clear hk2 hb2 HR g3 hk3 hb3 hrows hap hso0 hA4 hrd3
  have HV := Lib.hid hv
  have HVo := Lib.hid hvo
  have HVq := Lib.hid hvq
  have hpn : v.pn ≤ 1000000 := by
    rw [hpl, hv]
    show (if codeB _ then told _ _ else []).length ≤ _
    split
    · have := told_lenQ (zs.drop ((pAll zs (2 + 8)).at_ + 2)) (n2at zs (pAll zs (2 + 8)).at_).toNat
      simp only [List.length_drop] at this
      omega
    · simp
  have HRt := Lib.hid (cright_any v _ hso1.rows (by omega) hpn hvo)
  have HBad := Lib.hid (rdq_badB hrd4)
  have HEq : Hid (cRight v.g = cRight (cgRd zs 2)) := by show _ = _; rw [hv]
  clear hv hvo hvq hpl hpn
  obtain ⟨⟨x0, x1, x2, x3, ps, pr⟩, QA, q, qc, PA, pn, pc⟩ := v
  simp only [CgV.val, CgV.cells] at *
  by_cases hmk : n2at zs 0 = 65535
  · rw [hmk]
    go_wp2_with fail
    with_reducible refine HBad.out.mono ?_
    rintro e w4 ⟨rfl, rfl⟩
    by_cases hlen : zs.length < cgEnd zs 2
    · rw [decide_eq_true hlen]
      have HX : Hid (cOk zs = false) := by show _ = _; unfold cOk; rw [decide_eq_false (show ¬ cgEnd zs 2 ≤ zs.length by omega), Bool.and_false]; rfl
      go_upto_region 5 with fail
      have hso := hso1
      clear hso1 hnew hrd4 HRt HBad HEq
      generalize w3.alloc _ = V at *
      have hsf := ((((((hso.set 0 (.int .i16 0)).set 1 (.int .i16 0)).set 2 (.int .i16 0)).set 3 (.int .i16 0)).set 4 (.slice none 0 0)).set 5 (.slice none 0 0))
      simp only [List.setIfInBounds_toArray, List.set_cons_zero, List.set_cons_succ] at hsf
      have HO := Lib.hid hsf.out
      have HBl := Lib.hid hsf.bel
      have HRw := Lib.hid hsf.rows
      obtain ⟨p0, p1, p2, p3, p4, p5⟩ := cells6 hso.out
      have pf := fun o => thawed hso.out o
      clear hsf
      go_wp2_with fail
      exact bodyPost_ret (v := .tuple #[.agg #[.int .i16 0, .int .i16 0, .int .i16 0, .int .i16 0, .slice none 0 0, .slice none 0 0], .int .i64 0, .int .i64 2]) (results_three Try.results118 _ _ w.heap.size 49 _ (0, 0) _ rfl rfl rfl HO.out Try.underlying49 rfl Try.cgsize) rfl ⟨HBl.out, .inl ⟨HX.out, rfl⟩⟩

    · rw [decide_eq_false hlen]
      obtain ⟨c0, c1, c2, c3, c4, c5⟩ := cells6 hnew
      go_wp2_with fail
      with_reducible refine HRt.out.mono ?_
      rintro e w5 ⟨rfl, hb5⟩
      have hso5 := hso1.below hb5
      have hrd5 := hrd4.below hb5
      have hnew5 := kept_block hnew hb5
      clear c0 c1 c2 c3 c4 c5 hso1 hrd4 hnew hb5 HRt HBad
      rw [HEq.out]
      cases hcr : cRight (cgRd zs 2) with
      | false =>
        have HX : Hid (cOk zs = false) := by show _ = _; unfold cOk; rw [hcr, Bool.and_false]
        go_upto_region 5 with fail
        have hso := hso5
        clear hso5 hnew5 hrd5 HEq
        have hsf := ((((((hso.set 0 (.int .i16 0)).set 1 (.int .i16 0)).set 2 (.int .i16 0)).set 3 (.int .i16 0)).set 4 (.slice none 0 0)).set 5 (.slice none 0 0))
        simp only [List.setIfInBounds_toArray, List.set_cons_zero, List.set_cons_succ] at hsf
        have HO := Lib.hid hsf.out
        have HBl := Lib.hid hsf.bel
        have HRw := Lib.hid hsf.rows
        have HApt := Lib.hid hsf.apart
        obtain ⟨p0, p1, p2, p3, p4, p5⟩ := cells6 hso.out
        have pf := fun o => thawed hso.out o
        clear hsf
        go_wp2_with fail
        exact bodyPost_ret (v := .tuple #[.agg #[.int .i16 0, .int .i16 0, .int .i16 0, .int .i16 0, .slice none 0 0, .slice none 0 0], .int .i64 0, .int .i64 2]) (results_three Try.results118 _ _ w.heap.size 49 _ (0, 0) _ rfl rfl rfl HO.out Try.underlying49 rfl Try.cgsize) rfl ⟨HBl.out, .inl ⟨HX.out, rfl⟩⟩

      | true =>
        have HX : Hid (cOk zs = true) := by show _ = _; unfold cOk; rw [hcr, decide_eq_true hmk, decide_eq_true (show cgEnd zs 2 ≤ zs.length by omega)]; rfl
        have HAt : Hid (Calls Try.prog 156 #[.pointer (some ⟨b, 0, none⟩)] w5.drew fun e w' => e = .returned (.int .i64 ((cgEnd zs 2 : Nat) : Int)) ∧ w' = w5.drew) := (rdq_at hrd5.drew (by omega)).mono fun e w' ⟨h, h2⟩ => ⟨h, h2.symm⟩
        go_upto_region 6 with fail
        have hso := hso5.below (Below.refl w5.heap.size w5).drew
        have hnew6 := kept_block hnew5 (Below.refl w5.heap.size w5).drew
        obtain ⟨c0, c1, c2, c3, c4, c5⟩ := cells6 hnew6
        clear hso5 hnew5 hrd5 HEq hnew6
        have hsf := ((((((hso.set 0 (.int .i16 x0)).set 1 (.int .i16 x1)).set 2 (.int .i16 x2)).set 3 (.int .i16 x3)).set 4 (.slice QA q qc)).set 5 (.slice PA pn pc))
        simp only [List.setIfInBounds_toArray, List.set_cons_zero, List.set_cons_succ] at hsf
        have HO := Lib.hid hsf.out
        have HBl := Lib.hid hsf.bel
        have HRw := Lib.hid hsf.rows
        have HApt := Lib.hid hsf.apart
        obtain ⟨p0, p1, p2, p3, p4, p5⟩ := cells6 hso.out
        have pf := fun o => thawed hso.out o
        clear hsf
        refine wp_region_still_tail 3 (by kernel_rfl) (by kernel_rfl) ?_
        simp only [List.take_succ_cons, List.take_zero, List.drop_succ_cons, List.drop_zero]
        repeat still_step
        still_call HAt.out
        refine wpStill_nil ?_
        clear HAt
        change wpList _ _ _ _ _ w5.drew
        generalize w5.drew = V at *
        go_wp2_with fail
        exact bodyPost_ret (v := .tuple #[.agg #[.int .i16 x0, .int .i16 x1, .int .i16 x2, .int .i16 x3, .slice QA q qc, .slice PA pn pc], .int .i64 (cgEnd zs 2 : Nat), .int .i64 0]) (results_three Try.results118 _ _ w.heap.size 49 _ (0, 0) _ rfl rfl rfl HO.out Try.underlying49 rfl Try.cgsize) rfl ⟨HBl.out, .inr ⟨HX.out, _, rfl, HRw.out, HV.out, HVo.out, HVq.out, HApt.out⟩⟩

  · have r1 : (n2at zs 0 == 65535) = false := by simp [hmk]
    have HX : Hid (cOk zs = false) := by show _ = _; unfold cOk; rw [decide_eq_false hmk]; rfl
    go_upto_region 5 with fail
    have hso := hso1
    clear hso1 hnew hrd4 HRt HBad HEq
    generalize w3.alloc _ = V at *
    have hsf := ((((((hso.set 0 (.int .i16 0)).set 1 (.int .i16 0)).set 2 (.int .i16 0)).set 3 (.int .i16 0)).set 4 (.slice none 0 0)).set 5 (.slice none 0 0))
    simp only [List.setIfInBounds_toArray, List.set_cons_zero, List.set_cons_succ] at hsf
    have HO := Lib.hid hsf.out
    have HBl := Lib.hid hsf.bel
    have HRw := Lib.hid hsf.rows
    obtain ⟨p0, p1, p2, p3, p4, p5⟩ := cells6 hso.out
    have pf := fun o => thawed hso.out o
    clear hsf
    go_wp2_with fail
    exact bodyPost_ret (v := .tuple #[.agg #[.int .i16 0, .int .i16 0, .int .i16 0, .int .i16 0, .slice none 0 0, .slice none 0 0], .int .i64 0, .int .i64 2]) (results_three Try.results118 _ _ w.heap.size 49 _ (0, 0) _ rfl rfl rfl HO.out Try.underlying49 rfl Try.cgsize) rfl ⟨HBl.out, .inl ⟨HX.out, rfl⟩⟩

theorem cparse_any (A : Option Addr) (n c : Nat) (zs : List Int) (w : World) (hr : Row w A n (cellsOf .u8 zs)) (hB : Bytes zs) (hn : n ≤ 68747) (hc : n ≤ c) :
    Calls Try.prog 118 #[.slice A n c] w (RetCP w zs) :=
  (cparse_anyC A n c zs w hr hB hn hc).mono fun e w' h => ⟨h.1, h.2.imp id fun ⟨h1, v, h2, h3, h4, h5, h6, _⟩ => ⟨h1, v, h2, h3, h4, h5, h6⟩⟩

end Go.Proofs.Ytdaeffnaoeblpaa

/- simple: Bytes, as a contract over this seat's translation. -/
namespace Go.Proofs.Ytdaeffnaoeblpaa
open Go.RowKit
set_option linter.unusedVariables false

/-- A new Writer behind a struct that was boxed first, calls between. -/
theorem stB_lateO {w W : World} {cs : Array Value} {t : TypeId} (h8 : t ≠ 5) (hw : t ≠ 114) (hk : W.heap[w.heap.size]? = some (.cells cs t (0, 0))) (hb : Below w.heap.size w W) : StB w (W.alloc (.cells #[.slice none 0 0] 114)) W.heap.size [] w.heap.size cs t :=
  ⟨(wr_new W).mono hb.size, hb.alloc hb.size _, (Below.heap_alloc _ _ _ (lt_of_block hk)).trans hk, h8, hw⟩
theorem StB.turnedN {w wr w' : World} {b bt : Nat} {zs ys : List Int} {cs : Array Value} {t : TypeId} (h : StB w wr b zs bt cs t) (h1 : Wr w' w.heap.size b ys) (ht : TurnedN wr w' b) : StB w w' b ys bt cs t := h.turned h1 ht.t
theorem StB.older {w wr : World} {b bt : Nat} {zs : List Int} {cs : Array Value} {t : TypeId} (h : StB w wr b zs bt cs t) {A : Option Addr} {n : Nat} {xs : List Value} (hr : Row w A n xs) : Row wr A n xs := hr.below h.bel

def oBytes (g : Gl) : List Int := if oRight g then oB g else []

/-- A Writer, an outline in a block of its own, its changes, and its flags. -/
structure OF (w wr : World) (bw : Nat) (zs : List Int) (cs : Array Value) (XA : Option Addr) (sn xc : Nat) (cx : List Int) (YA : Option Addr) (yc : Nat) (cy : List Int) (gp : Nat) (fl : List Int) : Prop where
  st : StB w wr bw zs w.heap.size cs 44
  rx : Own 3 .i64 wr w.heap.size XA sn xc cx
  ry : Own 3 .i64 wr w.heap.size YA sn yc cy
  fl : OwnB wr w.heap.size (some ⟨gp, 0, none⟩) sn sn fl
  far : ¬ WrS wr bw gp
theorem OF.below {w wr w' : World} {bw : Nat} {zs : List Int} {cs : Array Value} {XA : Option Addr} {sn xc : Nat} {cx : List Int} {YA : Option Addr} {yc : Nat} {cy : List Int} {gp : Nat} {fl : List Int} (h : OF w wr bw zs cs XA sn xc cx YA yc cy gp fl) (hb : Below wr.heap.size wr w') : OF w w' bw zs cs XA sn xc cx YA yc cy gp fl :=
  ⟨h.st.below hb, h.rx.below hb, h.ry.below hb, h.fl.below hb, fun hh => h.far (wrs_below hb h.st.wr_.from_.2 hh)⟩
theorem OF.drew {w wr : World} {bw : Nat} {zs : List Int} {cs : Array Value} {XA : Option Addr} {sn xc : Nat} {cx : List Int} {YA : Option Addr} {yc : Nat} {cy : List Int} {gp : Nat} {fl : List Int} (h : OF w wr bw zs cs XA sn xc cx YA yc cy gp fl) : OF w wr.drew bw zs cs XA sn xc cx YA yc cy gp fl :=
  h.below (Below.refl _ _).drew
theorem own_ne {t t' : TypeId} {k k' : IntKind} {w : World} {B B' g n c n' c' : Nat} {A : Option Addr} {zs ys : List Int} (h : Own t k w B A n c zs) (h' : Own t' k' w B' (some ⟨g, 0, none⟩) n' c' ys) (ht : t ≠ t') : ∀ q, blockOf A = some q → q ≠ g := by
  intro q hq
  rintro rfl
  rcases h.shape with ⟨rfl, _⟩ | ⟨g', cur, rfl, _, _, hh, _⟩
  · simp [blockOf] at hq
  · simp [blockOf] at hq
    subst hq
    obtain ⟨cur', hc'⟩ := h'.block
    rw [hh] at hc'
    simp at hc'
    exact ht hc'.2
theorem OF.set {w wr : World} {bw : Nat} {zs : List Int} {cs : Array Value} {XA : Option Addr} {sn xc : Nat} {cx : List Int} {YA : Option Addr} {yc : Nat} {cy : List Int} {gp : Nat} {fl : List Int} (h : OF w wr bw zs cs XA sn xc cx YA yc cy gp fl) (k : Nat) (x : Int) : OF w (wr.setCell ⟨gp, k, none⟩ (.int .u8 x)) bw zs cs XA sn xc cx YA yc cy gp (fl.set k x) := by
  have hfar := h.far
  obtain ⟨cur, hcur⟩ := h.fl.block
  have hbt : w.heap.size ≠ gp := by
    intro e
    have := h.st.box
    rw [e, hcur] at this
    simp at this
  have hbw : bw ≠ gp := fun e => hfar (.inl e.symm)
  refine ⟨⟨h.st.wr_.keep (fun k hk => Below.heap_setCell wr _ _ _ (by rintro rfl; exact hfar hk)), h.st.bel.setCell (p := ⟨gp, k, none⟩) (h.fl.from_ gp rfl).1 _, (Below.heap_setCell wr _ _ _ hbt).trans h.st.box, h.st.n8, h.st.nw⟩,
    h.rx.keep (fun q e => Below.heap_setCell wr _ _ _ (own_ne h.rx h.fl (by decide) q e)), h.ry.keep (fun q e => Below.heap_setCell wr _ _ _ (own_ne h.ry h.fl (by decide) q e)), h.fl.set k x, ?_⟩
  rintro (e | ⟨A, n, c, hb, e⟩)
  · exact hbw e.symm
  · rw [Below.heap_setCell wr _ _ _ hbw] at hb
    exact hfar (.inr ⟨A, n, c, hb, e⟩)

theorem oRight_parts {g : Gl} (h : oRight g = true) : (g.es.length ≤ 32767 ∧ g.pr.length ≤ 65535 ∧ riseN g.es g.es.length = true ∧ g.ps.length = cntE g.es) ∧ (∀ d ∈ chs (xsOf g.ps), -32768 ≤ d ∧ d ≤ 32767) ∧ (∀ d ∈ chs (ysOf g.ps), -32768 ≤ d ∧ d ≤ 32767) := by
  unfold oRight fitL at h
  simp at h
  obtain ⟨⟨⟨⟨⟨h1, h2⟩, h3⟩, h4⟩, h5⟩, h6⟩ := h
  exact ⟨⟨h1, h2, h3, h4⟩, fun d hd => fitsB_true (h5 d hd), fun d hd => fitsB_true (h6 d hd)⟩

theorem obytes_no (v : GlV) (w : World) (hr : v.rows w) (hf : v.few) (ho : v.g.ok) (hn : oRight v.g = false) : Calls Try.prog 21 #[v.val] w (RetB w []) := by
  have hA := (Below.refl w.heap.size w).alloc (Nat.le_refl _) (.cells v.cells 44)
  have HR := Lib.hid (oright_any v _ (hr.below hA) hf ho)
  rw [hn] at HR
  clear hr hf ho hn
  unfold GlV.val at *
  unfold GlV.cells at *
  obtain ⟨⟨x0, x1, x2, x3, es, pr, ps⟩, EA, en, ec, PA, pn, pc, SA, sn, sc⟩ := v
  simp only at *
  go_enter Try.func21, Try.ntmps21
  go_wp2_with fail
  with_reducible refine HR.out.mono ?_
  rintro e w1 ⟨rfl, hb1⟩
  go_wp2
  go_ret
  exact ⟨none, 0, 0, rfl, Own.nil _ _ _ _, hA.trans (hb1.mono hA.size)⟩

set_option maxRecDepth 100000 in
set_option maxHeartbeats 8000000 in
theorem obytes_yes (v : GlV) (w : World) (hr : v.rows w) (hf : v.few) (ho : v.g.ok) (hn : oRight v.g = true) : Calls Try.prog 21 #[v.val] w (RetB w (oB v.g)) := by
  obtain ⟨i0, hi, hz0, hz1, hz2⟩ := info_parts Try.u8info
  have hA := (Below.refl w.heap.size w).alloc (Nat.le_refl _) (.cells v.cells 44)
  have hk := heap_alloc_new w (.cells v.cells 44)
  have HR := Lib.hid (oright_any v _ (hr.below hA) hf ho)
  rw [hn] at HR
  obtain ⟨_, hcx, hcy⟩ := oRight_parts hn
  have HCx := Lib.hid hcx
  have HCy := Lib.hid hcy
  obtain ⟨f0, f1, f2⟩ := hf
  have HE : Hid (v.g.es.length = v.en) := hr.es.len
  have HP : Hid (v.g.pr.length = v.pn) := hr.pr.len
  have HS : Hid (v.g.ps.length = v.sn) := hr.ps.len
  have Hre := Lib.hid hr.es
  have Hrp := Lib.hid hr.pr
  have Hrs := Lib.hid hr.ps
  have HX : Hid (∀ W, Below w.heap.size w W → Calls Try.prog 51 #[v.val, .func (.func 52) #[] #[]] W (RetN 3 .i64 W (chs (xsOf v.g.ps)))) := fun W hW => ochX v W (hr.below hW) (by omega) ho
  have HY : Hid (∀ W, Below w.heap.size w W → Calls Try.prog 51 #[v.val, .func (.func 53) #[] #[]] W (RetN 3 .i64 W (chs (ysOf v.g.ps)))) := fun W hW => ochY v W (hr.below hW) (by omega) ho
  have HXl : Hid ((chs (xsOf v.g.ps)).length = v.sn) := by show _ = _; rw [chs_len, xsOf_len, HS.out]
  have HYl : Hid ((chs (ysOf v.g.ps)).length = v.sn) := by show _ = _; rw [chs_len, ysOf_len, HS.out]
  have HEs := Lib.hid ho.es
  have HOk := Lib.hid ho
  have HB : Hid (oB v.g = ((((((b2 v.g.es.length ++ boxB v.g.box) ++ endB v.g.es) ++ b2 v.g.pr.length) ++ v.g.pr) ++ rle (fls v.g.ps)) ++ cbs (chs (xsOf v.g.ps))) ++ cbs (chs (ysOf v.g.ps))) := rfl
  have Hbx : Hid (v.g.box = [v.g.x0, v.g.x1, v.g.x2, v.g.x3]) := rfl
  clear ho hr hcx hcy hn
  unfold GlV.val at *
  unfold GlV.cells at *
  obtain ⟨⟨x0, x1, x2, x3, es, pr, ps⟩, EA, en, ec, PA, pn, pc, SA, sn, sc⟩ := v
  simp only at *
  rw [HB.out, HE.out, HP.out]
  rw [show Gl.box ⟨x0, x1, x2, x3, es, pr, ps⟩ = [x0, x1, x2, x3] from rfl]
  clear HB Hbx
  go_enter Try.func21, Try.ntmps21
  go_wp2_with fail
  generalize w.alloc _ = V at *
  with_reducible refine HR.out.mono ?_
  rintro e w1 ⟨rfl, hb1⟩
  have hk1 := kept_block hk hb1
  have hB1 := hA.trans (hb1.mono hA.size)
  have hs := stB_lateO (by decide) (by decide) hk1 hB1
  clear hk hA hb1 hk1 hB1 HR
  have c4 := hs.cell 4 _ rfl
  have e4 : (en : Int) % 65536 = (en : Int) := by omega
  have HW := Lib.hid (wi16N_any _ _ [] (en : Int) _ hs.wr_ (by simp))
  rw [e4] at HW
  clear e4
  go_wp2_with fail
  generalize w1.heap.size = bw at *
  with_reducible refine HW.out.mono ?_
  rintro e w2 ⟨rfl, h2, t2⟩
  rw [List.nil_append] at h2
  replace hs := hs.turnedN h2 t2
  clear h2 t2 HW c4
  have c0 := hs.cell 0 _ rfl
  have c1 := hs.cell 1 _ rfl
  have c2 := hs.cell 2 _ rfl
  have c3 := hs.cell 3 _ rfl
  go_wp2
  clear c0 c1 c2 c3
  go_loopw [23] (fun i wr => ∃ k : Nat, k ≤ 4 ∧ i = .int .i64 k ∧ StB w wr bw (b2 en ++ boxB ([x0, x1, x2, x3].take k)) w.heap.size #[.int .i16 x0, .int .i16 x1, .int .i16 x2, .int .i16 x3, .slice EA en ec, .slice PA pn pc, .slice SA sn sc] 44) (fun i _ => 4 - (intOf i).toNat)
  case atStart => exact ⟨0, Nat.zero_le _, rfl, by simpa [boxB] using hs⟩
  case round =>
    clear hs
    obtain ⟨k, hk, rfl, hs⟩ := hrel
    by_cases hlt : k < 4
    · have hlen : (b2 en ++ boxB ([x0, x1, x2, x3].take k)).length ≤ 100 := by
        rw [List.length_append, boxB_len, List.length_take]
        simp [b2]
        omega
      obtain ⟨x, hx⟩ := get_some (zs := [x0, x1, x2, x3]) (k := k) hlt
      have HS2 := Lib.hid (boxB_snoc hx)
      have hix := run_index_arr (P := Try.prog) wr 41 36 4 #[.int .i16 x0, .int .i16 x1, .int .i16 x2, .int .i16 x3] k (.int .i16 x) Try.underlying41 (by simp [go_sem]) (by simp [go_sem]) hlt (by
        have h := cellsOf_get (k := .i16) hx
        simpa [cellsOf] using h)
      have HW := Lib.hid (wi16N_any _ bw _ x _ hs.wr_ (by omega))
      clear hx hlen
      go_wp2_with fail
      with_reducible refine HW.out.mono ?_
      rintro e w4 ⟨rfl, h4, t4⟩
      have hs4 := hs.turnedN h4 t4
      rw [List.append_assoc, ← HS2.out] at hs4
      clear t4 h4 hs hix HW
      go_wp2
      go_roundw
      case rel => exact ⟨k + 1, by omega, by go_num, hs4⟩
      case measure => simp [intOf]; omega
    · rw [show [x0, x1, x2, x3].take k = [x0, x1, x2, x3] from List.take_of_length_le (by simp; omega)] at hs
      have hlen : (b2 en ++ boxB [x0, x1, x2, x3]).length = 10 := by simp [b2, boxB]
      generalize b2 en ++ boxB [x0, x1, x2, x3] = Z1 at *
      have Hlen := Lib.hid hlen
      clear hlen
      have c4 := hs.cell 4 _ rfl
      go_wp2
      clear c4 hlt hk
      go_loopw [32] (fun i wr => ∃ k : Nat, k ≤ en ∧ i = .int .i64 k ∧ StB w wr bw (Z1 ++ endB (es.take k)) w.heap.size #[.int .i16 x0, .int .i16 x1, .int .i16 x2, .int .i16 x3, .slice EA en ec, .slice PA pn pc, .slice SA sn sc] 44) (fun i _ => en - (intOf i).toNat)
      case atStart => exact ⟨0, Nat.zero_le _, rfl, by simpa [endB] using hs⟩
      case round =>
        clear hs
        obtain ⟨k, hk, rfl, hs⟩ := hrel
        have hlen : (Z1 ++ endB (es.take k)).length ≤ 100000 := by
          rw [List.length_append, endB_len, List.length_take, Hlen.out]
          omega
        by_cases hlt : k < en
        · obtain ⟨x, hx⟩ := get_some (zs := es) (k := k) (by have := HE.out; omega)
          obtain ⟨g, off, rfl, hg, hc⟩ := (hs.older Hre.out).at (cellsOf_get (k := .u16) hx)
          have HS2 := Lib.hid (endB_snoc hx)
          obtain ⟨u0, u1⟩ := HEs.out x (List.mem_of_getElem? hx)
          have HW := Lib.hid (wu16N_any _ bw _ x _ hs.wr_ (by omega) u0 u1)
          clear hx hlen
          go_wp2_with fail
          with_reducible refine HW.out.mono ?_
          rintro e w4 ⟨rfl, h4, t4⟩
          have hs4 := hs.turnedN h4 t4
          rw [List.append_assoc, ← HS2.out] at hs4
          clear t4 h4 hs hc HW
          go_wp2
          go_roundw
          case rel => exact ⟨k + 1, by omega, by go_num, hs4⟩
          case measure => simp [intOf]; omega
        · rw [show es.take k = es from List.take_of_length_le (by have := HE.out; omega)] at hs hlen
          generalize Z1 ++ endB es = Z2 at *
          have Hlen2 := Lib.hid hlen
          clear hlen Hlen
          replace hs := hs.drew
          have hpv := hs.older Hrp.out
          have hpw : IntKind.u16.wrap (pn : Int) = (pn : Int) := by rw [IntKind.wrap_u16]; omega
          go_upto_region 15 with fail
          go_region_held3 (fun w' => w'.cell? ⟨w.heap.size, 5, none⟩ = some (.slice PA pn pc))
            (first | exact hs.cell 5 _ rfl)
            (first
              | (go_at_call 55; refine (wu16N_any _ bw _ (pn : Int) _ hs.wr_ (by have := Hlen2.out; omega) (by omega) (by omega)).mono ?_; rintro e w5 ⟨rfl, h5, t5⟩; replace hs := hs.turnedN h5 t5; clear h5 t5)
              | (go_at_call 59; refine (wput_any _ bw _ _ _ _ pr _ hs.wr_ (hs.older Hrp.out) (by have := Hlen2.out; rw [List.length_append]; simp [b2]; omega)).mono ?_; rintro e w5 ⟨rfl, h5, t5⟩; replace hs := hs.turned h5 t5; clear h5 t5))
          clear hpv hpw
          have hZ3 : (Z2 ++ b2 (pn : Int) ++ pr).length ≤ 200000 := by
            have := Hlen2.out
            rw [List.length_append, List.length_append, HP.out]
            simp [b2]
            omega
          generalize Z2 ++ b2 (pn : Int) ++ pr = Z3 at *
          have Hlen3 := Lib.hid hZ3
          clear hZ3 Hlen2
          replace hs := hs.drew
          go_upto_region 16 with fail
          go_region_held3 (fun w' => w'.cell? ⟨w.heap.size, 0, none⟩ = some (.int .i16 x0) ∧ w'.cell? ⟨w.heap.size, 1, none⟩ = some (.int .i16 x1) ∧ w'.cell? ⟨w.heap.size, 2, none⟩ = some (.int .i16 x2) ∧ w'.cell? ⟨w.heap.size, 3, none⟩ = some (.int .i16 x3) ∧ w'.cell? ⟨w.heap.size, 4, none⟩ = some (.slice EA en ec) ∧ w'.cell? ⟨w.heap.size, 5, none⟩ = some (.slice PA pn pc) ∧ w'.cell? ⟨w.heap.size, 6, none⟩ = some (.slice SA sn sc))
            (first | exact cells7 hs.box)
            (first
              | ((go_at_call 51; (with_reducible refine (HX.out _ hs.bel).mono ?_); rintro e w6 ⟨XA, xn, xc, rfl, hox, hb6⟩; replace hox := hox.mono hs.bel.size; replace hs := hs.below hb6; clear hb6))
              | ((go_at_call 51; (with_reducible refine (HY.out _ hs.bel).mono ?_); rintro e w7 ⟨YA, yn, yc, rfl, hoy, hb7⟩; replace hoy := hoy.mono hs.bel.size; replace hox := hox.below hb7; replace hs := hs.below hb7; clear hb7)))
          obtain rfl : sn = xn := by have := hox.len; rw [HXl.out] at this; exact this
          obtain rfl : sn = yn := by have := hoy.len; rw [HYl.out] at this; exact this
          have c6 := hs.cell 6 _ rfl
          go_wp2_with (at_make; refine wpList_make_ints rfl (.tmp 53) (.tmp 53) _ rfl 5 .u8 w.heap.size i0 1 Try.underlying42 hi hz0 hz1 hz2 _ _ sn sn rfl rfl (by omega) (by omega) (Nat.le_refl _) (by omega) (by omega) hs.bel.size ?_; intro w8 hown8 hg8; have hb8 := below_of_grown hg8 (Nat.le_refl _) (fun k e => by cases e); have c6' := (hs.below hb8).cell 6 _ rfl)
          have hof : OF w w8 bw Z3 #[.int .i16 x0, .int .i16 x1, .int .i16 x2, .int .i16 x3, .slice EA en ec, .slice PA pn pc, .slice SA sn sc] XA sn xc (chs (xsOf ps)) YA yc (chs (ysOf ps)) w7.heap.size (flK ps 0 ++ List.replicate (sn - 0) 0) :=
            ⟨hs.below hb8, hox.below hb8, hoy.below hb8, hown8, fun hh => by have := (hs.wr_.owns _ (wrs_below hb8 hs.wr_.from_.2 hh)).2; omega⟩
          clear hs hox hoy hown8 hg8 hb8 c6' c6 hi hz0 hz1 hz2 hlt hk
          generalize w7.heap.size = gp at *
          go_loopw [58] (fun i wr => ∃ k : Nat, k ≤ sn ∧ i = .int .i64 k ∧ OF w wr bw Z3 #[.int .i16 x0, .int .i16 x1, .int .i16 x2, .int .i16 x3, .slice EA en ec, .slice PA pn pc, .slice SA sn sc] XA sn xc (chs (xsOf ps)) YA yc (chs (ysOf ps)) gp (flK ps k ++ List.replicate (sn - k) 0)) (fun i _ => sn - (intOf i).toNat)
          case atStart => exact ⟨0, Nat.zero_le _, rfl, hof⟩
          case round =>
            clear hof
            obtain ⟨k, hk, rfl, hs⟩ := hrel
            by_cases hlt : k < sn
            · obtain ⟨p, hp⟩ : ∃ p, ps[k]? = some p := ⟨ps[k]'(by have := HS.out; omega), List.getElem?_eq_getElem (by have := HS.out; omega)⟩
              have hcx := chs_get (xsOf ps) (i := k) (by rw [xsOf_len, HS.out]; exact hlt)
              have hcy := chs_get (ysOf ps) (i := k) (by rw [ysOf_len, HS.out]; exact hlt)
              have hfa : flA ps k = bitsV (chA (xsOf ps) k) 2 16 + bitsV (chA (ysOf ps) k) 4 32 + (if p.2.2 then 1 else 0) := by
                unfold flA flagOf
                rw [List.getD_eq_getElem?_getD, hp]
                rfl
              have HST := Lib.hid (flK_set ps k sn hlt)
              have HFA := Lib.hid hfa
              obtain ⟨z, hz⟩ : ∃ z, (flK ps k ++ List.replicate (sn - k) 0)[k]? = some z := ⟨_, List.getElem?_eq_getElem (by simp [flK_len]; omega)⟩
              obtain ⟨g, off, rfl, hg, q0, q1, q2⟩ := atSp (Hrs.out.below hs.st.bel) hp
              obtain ⟨px, py, po⟩ := p
              simp only at q0 q1 q2 HFA
              have hA2 := (Below.refl wr.heap.size wr).alloc (Nat.le_refl _) (.cells #[.int .i16 px, .int .i16 py, .bool po] 54)
              have hs2 := (hs.below hA2).drew
              have hk2 : (wr.alloc (.cells #[.int .i16 px, .int .i16 py, .bool po] 54)).drew.heap[wr.heap.size]? = some (.cells #[.int .i16 px, .int .i16 py, .bool po] 54 (0, 0)) := heap_alloc_new wr _
              obtain ⟨gx, ox, eXA, _, hqx⟩ := hs2.rx.row.at (cellsOf_get (k := .i64) hcx)
              obtain ⟨gy, oy, eYA, _, hqy⟩ := hs2.ry.row.at (cellsOf_get (k := .i64) hcy)
              obtain ⟨gf, of, eFA, _, hqf⟩ := hs2.fl.row.at (cellsOf_get (k := .u8) hz)
              simp only [Option.some.injEq, Addr.mk.injEq, and_true] at eFA
              obtain ⟨rfl, rfl⟩ := eFA
              rw [Nat.zero_add] at hqf
              subst eXA eYA
              have f0 := hs2.fl.thaw k
              have hgn : g ≠ wr.heap.size := by omega
              have hgp1 : gp ≠ wr.heap.size := by have := (hs.fl.from_ gp rfl).2; omega
              have hgp2 : wr.heap.size ≠ gp := fun e => hgp1 e.symm
              have hbo := bits_or (chA (xsOf ps) k) (chA (ysOf ps) k)
              have hbo1 := bits_or1 (chA (xsOf ps) k) (chA (ysOf ps) k)
              obtain ⟨b0, b1, b2, b3, b4, b5⟩ := bitsV_lt (chA (xsOf ps) k) (chA (ysOf ps) k)
              have HBx : Hid (∀ W, Calls Try.prog 61 #[.int .i64 (chA (xsOf ps) k), .int .u8 2, .int .u8 16] W fun e w' => e = .returned (.int .u8 (bitsV (chA (xsOf ps) k) 2 16)) ∧ w' = W) := fun W => (obits_any _ _ _ W (by decide +kernel)).mono fun e w' ⟨h1, h2⟩ => ⟨h1, h2.symm⟩
              have HBy : Hid (∀ W, Calls Try.prog 61 #[.int .i64 (chA (ysOf ps) k), .int .u8 4, .int .u8 32] W fun e w' => e = .returned (.int .u8 (bitsV (chA (ysOf ps) k) 4 32)) ∧ w' = W) := fun W => (obits_any _ _ _ W (by decide +kernel)).mono fun e w' ⟨h1, h2⟩ => ⟨h1, h2.symm⟩
              clear hs hp hcx hcy hfa hz hA2
              generalize chA (xsOf ps) k = dx at *
              generalize chA (ysOf ps) k = dy at *
              generalize bitsV dx 2 16 = fx at *
              generalize bitsV dy 4 32 = fy at *
              go_upto_region 21 with fail
              generalize (wr.alloc (.cells #[.int .i16 px, .int .i16 py, .bool po] 54)) = U at *
              have x2 : U.cell? ⟨wr.heap.size, 2, none⟩ = some (.bool po) := cell_of_row _ _ 2 _ _ _ hk2
              have hqf' : U.cell? ⟨gp, k, none⟩ = some (.int .u8 z) := hqf
              have f0' : U.frozen? ⟨gp, k, none⟩ = false := f0
              have HS3 := Lib.hid (hs2.set k (fx + fy))
              clear hs2 hk2 q0 q1 q2
              refine wp_region_still_tail 14 (by kernel_rfl) (by kernel_rfl) ?_
              simp only [List.take_succ_cons, List.take_zero, List.drop_succ_cons, List.drop_zero]
              repeat still_step
              still_call (HBx.out _)
              repeat still_step
              still_call (HBy.out _)
              repeat still_step
              refine wpStill_nil ?_
              cases po
              · have hs4 := HS3.out
                have hst2 := HST.out
                rw [show flA ps k = fx + fy by rw [HFA.out]; simp] at hst2
                rw [hst2] at hs4
                have H4 := Lib.hid hs4
                clear hs4 HS3 hst2
                go_wp2
                go_roundw
                case rel => exact ⟨k + 1, by omega, by go_num, H4.out⟩
                case measure => simp [intOf]; omega
              · have hs4 := HS3.out.set k (fx + fy + 1)
                have hst2 := HST.out
                rw [show flA ps k = fx + fy + 1 by rw [HFA.out]; simp] at hst2
                rw [List.set_set, hst2] at hs4
                have H4 := Lib.hid hs4
                clear hs4 HS3 hst2
                go_wp2
                go_roundw
                case rel => exact ⟨k + 1, by omega, by go_num, H4.out⟩
                case measure => simp [intOf]; omega
            · have hE : flK ps k ++ List.replicate (sn - k) 0 = fls ps := by
                have := HS.out
                unfold fls
                rw [show k = ps.length by omega, show sn - ps.length = 0 by omega]
                simp
              rw [hE] at hs
              have hzl := Hlen3.out
              have hfl : (fls ps).length = sn := by unfold fls; rw [flK_len]; exact HS.out
              have hW := Lib.hid (owflags_any w.heap.size bw Z3 (some ⟨gp, 0, none⟩) sn sn (fls ps) wr hs.st.wr_ hs.fl.row (fun q e => by simp [blockOf] at e; subst e; exact hs.far) (Nat.le_refl _) (by omega) (by omega) (fls_in ps))
              have hrl := rle_len (fls ps)
              clear hE
              go_wp2_with fail
              with_reducible refine hW.out.mono ?_
              rintro e w10 ⟨rfl, h10, t10⟩
              have hs10 := hs.st.turnedN h10 t10
              have fx1 : ∀ q, blockOf XA = some q → ¬ WrS wr bw q := fun q e hh => by
                rcases hs.rx.shape with ⟨rfl, _⟩ | ⟨g', cur, rfl, _, _, hh', _⟩
                · simp [blockOf] at e
                · simp [blockOf] at e
                  subst e
                  exact hs.st.wr_.apart hh' (by decide) (by decide) hh
              have fy1 : ∀ q, blockOf YA = some q → ¬ WrS wr bw q := fun q e hh => by
                rcases hs.ry.shape with ⟨rfl, _⟩ | ⟨g', cur, rfl, _, _, hh', _⟩
                · simp [blockOf] at e
                · simp [blockOf] at e
                  subst e
                  exact hs.st.wr_.apart hh' (by decide) (by decide) hh
              have rx1 := t10.row hs.rx.row fx1
              have ry1 := t10.row hs.ry.row fy1
              have fx2 : ∀ q, blockOf XA = some q → ¬ WrS w10 bw q := fun q e => t10.far (hs.rx.from_ q e).2 (fx1 q e)
              have fy2 : ∀ q, blockOf YA = some q → q < w10.heap.size ∧ ¬ WrS w10 bw q := fun q e => ⟨Nat.lt_of_lt_of_le (hs.ry.from_ q e).2 t10.t.size, t10.far (hs.ry.from_ q e).2 (fy1 q e)⟩
              have hz10 : (Z3 ++ rle (fls ps)).length ≤ 300000 := by rw [List.length_append]; omega
              have hW2 := Lib.hid (owchanges_any w.heap.size bw _ XA sn xc (chs (xsOf ps)) w10 hs10.wr_ rx1 fx2 (by omega) (by omega) HCx.out)
              have Hry1 := Lib.hid ry1
              have Hfy2 := Lib.hid fy2
              clear hs h10 t10 fx1 fy1 rx1 fx2 ry1 fy2 hW
              go_wp2_with fail
              with_reducible refine hW2.out.mono ?_
              rintro e w11 ⟨rfl, h11, t11⟩
              have hs11 := hs10.turnedN h11 t11
              have ry2 := t11.row Hry1.out (fun q e => (Hfy2.out q e).2)
              have fy3 : ∀ q, blockOf YA = some q → ¬ WrS w11 bw q := fun q e => t11.far (Hfy2.out q e).1 (Hfy2.out q e).2
              have hxl := cbs_len (chs (xsOf ps))
              have hyl := cbs_len (chs (ysOf ps))
              rw [HXl.out] at hxl
              rw [HYl.out] at hyl
              have hz11 : (Z3 ++ rle (fls ps) ++ cbs (chs (xsOf ps))).length ≤ 400000 := by rw [List.length_append]; omega
              have hW3 := Lib.hid (owchanges_any w.heap.size bw _ YA sn yc (chs (ysOf ps)) w11 hs11.wr_ ry2 fy3 (by omega) (by omega) HCy.out)
              clear h11 t11 hs10 ry2 fy3 hW2 Hry1 Hfy2
              go_wp2_with fail
              with_reducible refine hW3.out.mono ?_
              rintro e w12 ⟨rfl, h12, t12⟩
              have hs12 := hs11.turnedN h12 t12
              have hW4 := Lib.hid (done_any w.heap.size bw _ w12 hs12.wr_ (by rw [List.length_append]; omega))
              clear h12 t12 hs11 hW3
              go_wp2_with fail
              with_reducible refine hW4.out.mono ?_
              rintro e w13 ⟨A13, n13, c13, rfl, ho13, hb13⟩
              have hbf := hs12.bel.trans (hb13.mono hs12.bel.size)
              have hof := ho13.mono hs12.bel.size
              clear hs12 ho13 hb13 hW4
              go_wp2
              go_ret
              exact ⟨A13, n13, c13, rfl, hof, hbf⟩

theorem obytes_any (v : GlV) (w : World) (hr : v.rows w) (hf : v.few) (ho : v.g.ok) : Calls Try.prog 21 #[v.val] w (RetB w (oBytes v.g)) := by
  unfold oBytes
  cases h : oRight v.g with
  | false => rw [if_neg (by decide)]; exact obytes_no v w hr hf ho h
  | true => rw [if_pos rfl]; exact obytes_yes v w hr hf ho h

end Go.Proofs.Ytdaeffnaoeblpaa

/- compo: Bytes, as a contract over this seat's translation. -/
namespace Go.Proofs.Ytdaeffnaoeblpaa
open Go.RowKit
set_option linter.unusedVariables false
set_option linter.unusedSimpArgs false

/-- The first parts' bytes. -/
def ptsB (ps : List Pt) (k : Nat) : List Int := (List.range k).flatMap fun i => match ps[i]? with
  | some p => ptB p (decide (i + 1 < ps.length))
  | none => []
theorem ptsB_succ {ps : List Pt} {k : Nat} {p : Pt} (h : ps[k]? = some p) : ptsB ps (k + 1) = ptsB ps k ++ ptB p (decide (k + 1 < ps.length)) := by simp [ptsB, List.range_succ, h]
theorem ptB_len (p : Pt) (go : Bool) : (ptB p go).length ≤ 16 := by
  have hm : (matL (knd p.f) p).length ≤ 4 := by unfold matL; split; simp; split; simp; split <;> simp
  have h2 : ∀ l : List Int, (l.flatMap fun v => b2 (v % 65536)).length = 2 * l.length := fun l => by
    induction l with
    | nil => rfl
    | cons x r ih => rw [List.flatMap_cons, List.length_append, ih, List.length_cons]; simp [b2]; omega
  have hx : (if fb p.f 1 then b2 (p.x % 65536) ++ b2 (p.y % 65536) else [p.x % 256, p.y % 256]).length ≤ 4 := by split <;> simp [b2]
  have hb : ∀ x, (b2 x).length = 2 := fun x => rfl
  unfold ptB
  rw [List.length_append, List.length_append, List.length_append, h2, hb, hb]
  omega
theorem ptsB_len (ps : List Pt) : ∀ k, (ptsB ps k).length ≤ 16 * k
  | 0 => by simp [ptsB]
  | k + 1 => by
    have ih := ptsB_len ps k
    have e : ptsB ps (k + 1) = ptsB ps k ++ (match ps[k]? with | some p => ptB p (decide (k + 1 < ps.length)) | none => []) := by simp [ptsB, List.range_succ]
    rw [e, List.length_append]
    cases h : ps[k]? with
    | none => simp; omega
    | some p => have := ptB_len p (decide (k + 1 < ps.length)); simp only; omega
def cB (g : Cg) : List Int := b2 65535 ++ boxB [g.x0, g.x1, g.x2, g.x3] ++ ptsB g.ps g.ps.length ++ (if codeB g.ps then b2 g.pr.length ++ g.pr else [])
def cBytes (g : Cg) : List Int := if cRight g then cB g else []
theorem cRight_parts {g : Cg} (h : cRight g = true) : 1 ≤ g.ps.length ∧ g.ps.length ≤ 200 ∧ g.pr.length ≤ 65535 ∧ partsOk g.ps g.ps.length = true := by
  unfold cRight at h
  simp only [Bool.and_eq_true, decide_eq_true_eq] at h
  exact ⟨h.1.1.1.1, h.1.1.1.2, h.1.1.2, h.1.2⟩
theorem partsOk_at {ps : List Pt} {n k : Nat} {p : Pt} (h : partsOk ps n = true) (hk : k < n) (hp : ps[k]? = some p) : ptRight p = true := by
  unfold partsOk at h
  rw [List.all_eq_true] at h
  have := h k (List.mem_range.2 hk)
  rw [hp] at this
  simp only [Bool.and_eq_true] at this
  exact this.1
theorem ptRight_parts {p : Pt} (h : ptRight p = true) : fb p.f 32 = false ∧ p.f < 8192 ∧ twoK p.f = false := by
  unfold ptRight strange at h
  simp only [Bool.and_eq_true, Bool.not_eq_true', Bool.or_eq_false_iff, decide_eq_false_iff_not] at h
  exact ⟨h.1.1.1.1.1.1.2, by omega, h.1.1.2⟩

theorem cbytes_no (v : CgV) (w : World) (hr : v.rows w) (hq1 : v.q ≤ 1000000) (hp1 : v.pn ≤ 1000000) (ho : v.g.ok) (hn : cRight v.g = false) : Calls Try.prog 20 #[v.val] w (RetB w []) := by
  have hA := (Below.refl w.heap.size w).alloc (Nat.le_refl _) (.cells v.cells 49)
  have hk := heap_alloc_new w (.cells v.cells 49)
  have HR := Lib.hid (cright_any v _ (hr.below hA) hq1 hp1 ho)
  rw [hn] at HR
  clear hr ho hn
  unfold CgV.val at *
  unfold CgV.cells at *
  obtain ⟨⟨x0, x1, x2, x3, ps, pr⟩, QA, q, qc, PA, pn, pc⟩ := v
  simp only at *
  obtain ⟨c0, c1, c2, c3, c4, c5⟩ := cells6 hk
  go_enter Try.func20, Try.ntmps20
  go_wp2_with fail
  with_reducible refine HR.out.mono ?_
  rintro e w1 ⟨rfl, hb1⟩
  go_wp2
  go_ret
  exact ⟨none, 0, 0, rfl, Own.nil _ _ _ _, hA.trans (hb1.mono hA.size)⟩

set_option maxRecDepth 100000 in
set_option maxHeartbeats 8000000 in
theorem cbytes_yes (v : CgV) (w : World) (hr : v.rows w) (hq1 : v.q ≤ 1000000) (hp1 : v.pn ≤ 1000000) (ho : v.g.ok) (hn : cRight v.g = true) : Calls Try.prog 20 #[v.val] w (RetB w (cB v.g)) := by
  have hA := (Below.refl w.heap.size w).alloc (Nat.le_refl _) (.cells v.cells 49)
  have hk := heap_alloc_new w (.cells v.cells 49)
  have HR := Lib.hid (cright_any v _ (hr.below hA) hq1 hp1 ho)
  rw [hn] at HR
  have HS : Hid (v.g.ps.length = v.q) := hr.ps.len
  have HP : Hid (v.g.pr.length = v.pn) := hr.pr.len
  have Hrs := Lib.hid hr.ps
  have Hrp := Lib.hid hr.pr
  have HOk := Lib.hid ho.ps
  obtain ⟨r1, r2, r3, r4⟩ := cRight_parts hn
  have HPo := Lib.hid r4
  rw [HS.out] at r1 r2 HPo
  rw [HP.out] at r3
  have HCc : Hid (∀ W, Below w.heap.size w W → Calls Try.prog 58 #[v.val] W (Ret W (.bool (codeB v.g.ps)))) := fun W hW => ccode_any v W (hr.below hW) r1 hq1 ho
  have HB : Hid (cB v.g = b2 65535 ++ boxB [v.g.x0, v.g.x1, v.g.x2, v.g.x3] ++ ptsB v.g.ps v.q ++ (if codeB v.g.ps then b2 v.pn ++ v.g.pr else [])) := by show _ = _; unfold cB; rw [HS.out, HP.out]
  generalize cB v.g = Zt at *
  clear ho hr hn r4
  unfold CgV.val at *
  unfold CgV.cells at *
  obtain ⟨⟨x0, x1, x2, x3, ps, pr⟩, QA, q, qc, PA, pn, pc⟩ := v
  simp only at *
  obtain ⟨c0, c1, c2, c3, c4, c5⟩ := cells6 hk
  go_enter Try.func20, Try.ntmps20
  go_wp2_with fail
  generalize w.alloc _ = V at *
  with_reducible refine HR.out.mono ?_
  rintro e w1 ⟨rfl, hb1⟩
  have hk1 := kept_block hk hb1
  have hB1 := hA.trans (hb1.mono hA.size)
  have hs := stB_lateO (by decide) (by decide) hk1 hB1
  clear hk hA hb1 hk1 hB1 HR c0 c1 c2 c3 c4 c5
  have HW := Lib.hid (wu16N_any _ _ [] 65535 _ hs.wr_ (by simp) (by omega) (by omega))
  go_wp2_with fail
  generalize w1.heap.size = bw at *
  with_reducible refine HW.out.mono ?_
  rintro e w2 ⟨rfl, h2, t2⟩
  rw [List.nil_append] at h2
  replace hs := hs.turnedN h2 t2
  clear h2 t2 HW
  have c0 := hs.cell 0 _ rfl
  have c1 := hs.cell 1 _ rfl
  have c2 := hs.cell 2 _ rfl
  have c3 := hs.cell 3 _ rfl
  go_wp2
  clear c0 c1 c2 c3
  go_loopw [15] (fun i wr => ∃ k : Nat, k ≤ 4 ∧ i = .int .i64 k ∧ StB w wr bw (b2 65535 ++ boxB ([x0, x1, x2, x3].take k)) w.heap.size #[.int .i16 x0, .int .i16 x1, .int .i16 x2, .int .i16 x3, .slice QA q qc, .slice PA pn pc] 49) (fun i _ => 4 - (intOf i).toNat)
  case atStart => exact ⟨0, Nat.zero_le _, rfl, by simpa [boxB] using hs⟩
  case round =>
    clear hs
    obtain ⟨k, hk, rfl, hs⟩ := hrel
    by_cases hlt : k < 4
    · have hlen : (b2 65535 ++ boxB ([x0, x1, x2, x3].take k)).length ≤ 100 := by
        rw [List.length_append, boxB_len, List.length_take]
        simp [b2]
        omega
      obtain ⟨x, hx⟩ := get_some (zs := [x0, x1, x2, x3]) (k := k) hlt
      have HS2 := Lib.hid (boxB_snoc hx)
      have hix := run_index_arr (P := Try.prog) wr 41 36 4 #[.int .i16 x0, .int .i16 x1, .int .i16 x2, .int .i16 x3] k (.int .i16 x) Try.underlying41 (by simp [go_sem]) (by simp [go_sem]) hlt (by
        have h := cellsOf_get (k := .i16) hx
        simpa [cellsOf] using h)
      have HW := Lib.hid (wi16N_any _ bw _ x _ hs.wr_ (by omega))
      clear hx hlen
      go_wp2_with fail
      with_reducible refine HW.out.mono ?_
      rintro e w4 ⟨rfl, h4, t4⟩
      have hs4 := hs.turnedN h4 t4
      rw [List.append_assoc, ← HS2.out] at hs4
      clear t4 h4 hs hix HW
      go_wp2
      go_roundw
      case rel => exact ⟨k + 1, by omega, by go_num, hs4⟩
      case measure => simp [intOf]; omega
    · rw [show [x0, x1, x2, x3].take k = [x0, x1, x2, x3] from List.take_of_length_le (by simp; omega)] at hs
      have hlen : (b2 65535 ++ boxB [x0, x1, x2, x3]).length = 10 := by simp [b2, boxB]
      generalize b2 65535 ++ boxB [x0, x1, x2, x3] = Z1 at *
      have Hlen := Lib.hid hlen
      clear hlen
      have c4 := hs.cell 4 _ rfl
      have w4 : IntKind.i64.wrap ((q : Int) - 1) = (q : Int) - 1 := IntWalk.i64_in _ (by omega)
      go_wp2
      clear c4 hlt hk
      go_loopw [28] (fun i wr => ∃ k : Nat, k ≤ q ∧ i = .int .i64 k ∧ StB w wr bw (Z1 ++ ptsB ps k) w.heap.size #[.int .i16 x0, .int .i16 x1, .int .i16 x2, .int .i16 x3, .slice QA q qc, .slice PA pn pc] 49) (fun i _ => q - (intOf i).toNat)
      case atStart => exact ⟨0, Nat.zero_le _, rfl, by simpa [ptsB] using hs⟩
      case round =>
        clear hs
        obtain ⟨k, hk, rfl, hs⟩ := hrel
        have hlen : (Z1 ++ ptsB ps k).length ≤ 100000 := by
          have := ptsB_len ps k
          rw [List.length_append, Hlen.out]
          omega
        by_cases hlt : k < q
        · obtain ⟨p, hp⟩ : ∃ p, ps[k]? = some p := ⟨ps[k]'(by have := HS.out; omega), List.getElem?_eq_getElem (by have := HS.out; omega)⟩
          have hpo := HOk.out p (List.mem_of_getElem? hp)
          obtain ⟨s1, s2, s3⟩ := ptRight_parts (partsOk_at HPo.out hlt hp)
          have HS2 := Lib.hid (ptsB_succ hp)
          rw [HS.out] at HS2
          obtain ⟨g, off, rfl, hg, d0, d1, d2, d3, d4, d5, d6, d7⟩ := atPt (Hrs.out.below hs.bel) hp
          have hA2 := (Below.refl wr.heap.size wr).alloc (Nat.le_refl _) (.cells p.cells 46)
          have hkp := heap_alloc_new wr (.cells p.cells 46)
          have hs2 := hs.below hA2
          have hgn : g ≠ wr.heap.size := by omega
          have HWr := Lib.hid (cwrite_any _ bw _ p (decide (k + 1 < q)) _ hs2.wr_ hpo s1 s2 s3 (by omega))
          have hdq : decide ((k : Int) < (q : Int) - 1) = decide (k + 1 < q) := by
            rw [Bool.eq_iff_iff, decide_eq_true_eq, decide_eq_true_eq]
            omega
          clear hp hpo hA2 hs s1 s2 s3
          unfold Pt.val at *
          unfold Pt.cells at *
          generalize ptB p (decide (k + 1 < q)) = pb at *
          obtain ⟨f, i, x, y, xx, xy, yx, yy⟩ := p
          simp only at *
          obtain ⟨m0, m1, m2, m3, m4, m5, m6, m7⟩ := cells8 hkp
          go_wp2_with fail
          clear d0 d1 d2 d3 d4 d5 d6 d7 m0 m1 m2 m3 m4 m5 m6 m7 hkp
          generalize wr.alloc _ = U at *
          try rw [hdq]
          refine HWr.out.mono ?_
          rintro e w5 ⟨rfl, h5, t5⟩
          have hs5 := hs2.turnedN h5 t5
          rw [List.append_assoc, ← HS2.out] at hs5
          clear h5 t5 hs2 HWr
          go_wp2
          go_roundw
          case rel => exact ⟨k + 1, by omega, by go_num, hs5⟩
          case measure => simp [intOf]; omega
        · obtain rfl : k = q := by omega
          generalize Z1 ++ ptsB ps k = Z2 at *
          have Hlen2 := Lib.hid hlen
          clear hlen Hlen
          have HC := Lib.hid (HCc.out wr hs.bel)
          obtain ⟨c0, c1, c2, c3, c4, c5⟩ := cells6 hs.box
          go_wp2_with fail
          with_reducible refine HC.out.mono ?_
          rintro e w5 ⟨rfl, hb5⟩
          replace hs := hs.below hb5
          clear c0 c1 c2 c3 c4 c5 HC hb5 HCc
          generalize codeB ps = cb at *
          cases cb with
          | false =>
            have hW4 := Lib.hid (done_any w.heap.size bw _ w5 hs.wr_ (by have := Hlen2.out; omega))
            go_wp2_with fail
            with_reducible refine hW4.out.mono ?_
            rintro e w6 ⟨A6, n6, c6, rfl, ho6, hb6⟩
            have hbf := hs.bel.trans (hb6.mono hs.bel.size)
            have hof := ho6.mono hs.bel.size
            clear hs ho6 hb6 hW4
            go_wp2
            go_ret
            exact ⟨A6, n6, c6, rfl, by rw [HB.out]; simpa using hof, hbf⟩
          | true =>
            replace hs := hs.drew
            have hpw : IntKind.u16.wrap (pn : Int) = (pn : Int) := by rw [IntKind.wrap_u16]; omega
            go_upto_region 17 with fail
            go_region_held3 (fun w' => w'.cell? ⟨w.heap.size, 5, none⟩ = some (.slice PA pn pc))
              (first | exact hs.cell 5 _ rfl)
              (first
                | (go_at_call 55; refine (wu16N_any _ bw _ (pn : Int) _ hs.wr_ (by have := Hlen2.out; omega) (by omega) (by omega)).mono ?_; rintro e w5 ⟨rfl, h5, t5⟩; replace hs := hs.turnedN h5 t5; clear h5 t5)
                | (go_at_call 59; refine (wput_any _ bw _ _ _ _ pr _ hs.wr_ (hs.older Hrp.out) (by have := Hlen2.out; rw [List.length_append]; simp [b2]; omega)).mono ?_; rintro e w5 ⟨rfl, h5, t5⟩; replace hs := hs.turned h5 t5; clear h5 t5))
            clear hpw
            have hW4 := Lib.hid (done_any w.heap.size bw _ _ hs.wr_ (by have := Hlen2.out; have := HP.out; rw [List.length_append, List.length_append]; simp [b2]; omega))
            go_wp2_with fail
            refine hW4.out.mono ?_
            rintro e w6 ⟨A6, n6, c6, rfl, ho6, hb6⟩
            have hbf := hs.bel.trans (hb6.mono hs.bel.size)
            have hof := ho6.mono hs.bel.size
            clear hs ho6 hb6 hW4
            go_wp2
            go_ret
            exact ⟨A6, n6, c6, rfl, by rw [HB.out]; simpa [List.append_assoc] using hof, hbf⟩

theorem cbytes_any (v : CgV) (w : World) (hr : v.rows w) (hq1 : v.q ≤ 1000000) (hp1 : v.pn ≤ 1000000) (ho : v.g.ok) : Calls Try.prog 20 #[v.val] w (RetB w (cBytes v.g)) := by
  unfold cBytes
  cases h : cRight v.g with
  | false => rw [if_neg (by decide)]; exact cbytes_no v w hr hq1 hp1 ho h
  | true => rw [if_pos rfl]; exact cbytes_yes v w hr hq1 hp1 ho h

end Go.Proofs.Ytdaeffnaoeblpaa

/- simple: what is written is read again; more behind it says nothing: plain lists. -/
namespace Go.Proofs.Ytdaeffnaoeblpaa
open Go.RowKit
set_option linter.unusedVariables false

theorem drop_len {A B : List Int} {i : Nat} (h : A.length = i) : (A ++ B).drop i = B := by subst h; simp
theorem n2at_mid {zs A C : List Int} {x : Int} {i : Nat} (h : zs = A ++ (b2 x ++ C)) (hA : A.length = i) (h0 : 0 ≤ x) (h1 : x < 65536) : n2at zs i = x := by
  refine n2at_of ?_ h0 h1
  rw [h, drop_len hA]
  rfl
theorem n1at_mid {zs A C : List Int} {x : Int} {i : Nat} (h : zs = A ++ (x :: C)) (hA : A.length = i) : n1at zs i = x := by
  refine n1at_get ?_
  subst hA
  rw [h]
  simp
theorem sgn_mod {x : Int} (h0 : -32768 ≤ x) (h1 : x ≤ 32767) : sgn (x % 65536) = x := by unfold sgn; split <;> omega

/-- What counts of a flag. -/
def core (v : Int) : Bool × Bool × Bool × Bool × Bool := (fb v 1, fb v 2, fb v 4, fb v 16, fb v 32)
theorem core8 {f : Int} (h : f ∈ flagsAll) : core (f + 8) = core f ∧ fb f 8 = false ∧ fb f 128 = false ∧ fb (f + 8) 8 = true ∧ fb (f + 8) 128 = false := by
  have : ∀ f ∈ flagsAll, core (f + 8) = core f ∧ fb f 8 = false ∧ fb f 128 = false ∧ fb (f + 8) 8 = true ∧ fb (f + 8) 128 = false := by decide +kernel
  exact this f h

theorem rle_dec (zs : List Int) (n : Nat) : ∀ (m : Nat) (r : List Int) (s : FS) (A C : List Int), r.length ≤ m → (∀ f ∈ r, f ∈ flagsAll) → zs = A ++ (rle r ++ C) → A.length = s.at_ → n = s.fl.length + r.length →
    ∃ t, fAll zs n s = some t ∧ t.fl.map core = s.fl.map core ++ r.map core ∧ t.at_ = s.at_ + (rle r).length := by
  intro m
  induction m with
  | zero =>
    intro r s A C hm hr hz hA hn
    obtain rfl : r = [] := List.eq_nil_of_length_eq_zero (by omega)
    exact ⟨s, fAll_done (by simp at hn; omega), by simp, by simp [rle_nil]⟩
  | succ m ih =>
    intro r s A C hm hr hz hA hn
    by_cases hne : r = []
    · subst hne
      exact ⟨s, fAll_done (by simp at hn; omega), by simp, by simp [rle_nil]⟩
    · have hp := rowOf_pos hne
      obtain ⟨hk1, hk2⟩ := rowOf_le r
      have htk := rowOf_take r
      have hst := rle_step hne
      have hrl : 0 < r.length := by omega
      have hf : r.headD 0 ∈ flagsAll := by
        refine hr _ ?_
        cases r with
        | nil => exact absurd rfl hne
        | cons x l => simp
      obtain ⟨e1, e2, e3, e4, e5⟩ := core8 hf
      unfold rleHead at hst
      generalize hk : rowOf r = k at *
      generalize hff : r.headD 0 = f at *
      have hsplit : r = List.replicate k f ++ r.drop k := by rw [← htk, List.take_append_drop]
      by_cases h1 : k = 1
      · rw [if_pos h1] at hst
        rw [hst] at hz ⊢
        have h1at : n1at zs s.at_ = f := n1at_mid (A := A) (C := rle (r.drop k) ++ C) (by rw [hz]; simp) hA
        have hM : fMore zs s.at_ = 0 := by unfold fMore; rw [h1at, e2]; rfl
        have hS : fSize zs s.at_ = 1 := by unfold fSize; rw [h1at, e2]; rfl
        have hok : fOk zs n s = true := by unfold fOk; rw [h1at, e3, hM]; simp; omega
        have hnx : fNext zs s = ⟨s.fl ++ [f], s.at_ + 1⟩ := by unfold fNext; rw [h1at, hM, hS]; rfl
        obtain ⟨t, ht1, ht2, ht3⟩ := ih (r.drop k) (fNext zs s) (A ++ [f]) C (by rw [List.length_drop]; omega) (fun x hx => hr x (List.mem_of_mem_drop hx)) (by rw [hz]; simp) (by rw [hnx]; simp [hA]) (by rw [hnx, List.length_drop]; simp; omega)
        refine ⟨t, by rw [fAll_step (by omega) hok]; exact ht1, ?_, ?_⟩
        · rw [ht2, hnx]
          conv => rhs; rw [hsplit, h1]
          rw [h1]
          simp
        · rw [ht3, hnx]
          simp
          omega
      · rw [if_neg h1] at hst
        rw [hst] at hz ⊢
        have h1at : n1at zs s.at_ = f + 8 := n1at_mid (A := A) (C := ((k : Int) - 1) :: (rle (r.drop k) ++ C)) (by rw [hz]; simp) hA
        have h2at : n1at zs (s.at_ + 1) = (k : Int) - 1 := n1at_mid (A := A ++ [f + 8]) (C := rle (r.drop k) ++ C) (by rw [hz]; simp) (by simp [hA])
        have hM : fMore zs s.at_ = k - 1 := by unfold fMore; rw [h1at, e4, h2at]; simp
        have hS : fSize zs s.at_ = 2 := by unfold fSize; rw [h1at, e4]; rfl
        have hok : fOk zs n s = true := by unfold fOk; rw [h1at, e5, hM]; simp; omega
        have hnx : fNext zs s = ⟨s.fl ++ List.replicate k (f + 8), s.at_ + 2⟩ := by unfold fNext; rw [h1at, hM, hS, show k - 1 + 1 = k by omega]
        obtain ⟨t, ht1, ht2, ht3⟩ := ih (r.drop k) (fNext zs s) (A ++ [f + 8, (k : Int) - 1]) C (by rw [List.length_drop]; omega) (fun x hx => hr x (List.mem_of_mem_drop hx)) (by rw [hz]; simp) (by rw [hnx]; simp [hA]) (by rw [hnx, List.length_drop]; simp; omega)
        refine ⟨t, by rw [fAll_step (by omega) hok]; exact ht1, ?_, ?_⟩
        · rw [ht2, hnx]
          conv => rhs; rw [hsplit]
          simp [e1]
        · rw [ht3, hnx]
          simp
          omega

/-- The bits that a flag has for a change. -/
def sbit (d : Int) : Bool := decide (d ≠ 0 ∧ -255 ≤ d ∧ d ≤ 255)
def pbit (d : Int) : Bool := decide (d = 0 ∨ (0 < d ∧ d ≤ 255))
theorem bitsV_x (d : Int) : (bitsV d 2 16, sbit d, pbit d) ∈ ([(16, false, true), (18, true, true), (2, true, false), (0, false, false)] : List (Int × Bool × Bool)) := by
  unfold bitsV sbit pbit
  by_cases h0 : d = 0
  · simp [h0]
  · by_cases h1 : -255 ≤ d ∧ d ≤ 255
    · by_cases h2 : 0 < d
      · simp [h0, h1, h2]
      · simp [h0, h1, h2]
    · have h3 : ¬ (0 < d ∧ d ≤ 255) := by omega
      simp [h0, h1]
      omega
theorem bitsV_y (d : Int) : (bitsV d 4 32, sbit d, pbit d) ∈ ([(32, false, true), (36, true, true), (4, true, false), (0, false, false)] : List (Int × Bool × Bool)) := by
  unfold bitsV sbit pbit
  by_cases h0 : d = 0
  · simp [h0]
  · by_cases h1 : -255 ≤ d ∧ d ≤ 255
    · by_cases h2 : 0 < d
      · simp [h0, h1, h2]
      · simp [h0, h1, h2]
    · have h3 : ¬ (0 < d ∧ d ≤ 255) := by omega
      simp [h0, h1]
      omega
theorem flag_core (dx dy : Int) (on : Bool) : core (flagOf dx dy on) = (on, sbit dx, sbit dy, pbit dx, pbit dy) := by
  have hx := bitsV_x dx
  have hy := bitsV_y dy
  unfold flagOf
  simp only [List.mem_cons, Prod.mk.injEq, List.not_mem_nil, or_false] at hx hy
  rcases hx with ⟨h1, h2, h3⟩ | ⟨h1, h2, h3⟩ | ⟨h1, h2, h3⟩ | ⟨h1, h2, h3⟩ <;> rcases hy with ⟨k1, k2, k3⟩ | ⟨k1, k2, k3⟩ | ⟨k1, k2, k3⟩ | ⟨k1, k2, k3⟩ <;> rw [h1, h2, h3, k1, k2, k3] <;> cases on <;> decide

theorem cwB_cb (d : Int) : cwB (sbit d) (pbit d) = (cb d).length := by
  unfold cb
  by_cases h0 : d = 0
  · simp [h0, sbit, pbit, cwB]
  · rw [if_neg h0]
    by_cases h1 : -255 ≤ d ∧ d ≤ 255
    · rw [if_pos h1]
      simp [h0, h1, sbit, cwB]
    · rw [if_neg h1]
      have : pbit d = false := by unfold pbit; rw [decide_eq_false_iff_not]; omega
      rw [this]
      simp [h0, h1, sbit, cwB, b2]
theorem cvB_cb {zs A C : List Int} {d : Int} {p : Nat} (h : zs = A ++ (cb d ++ C)) (hA : A.length = p) (h0 : -32768 ≤ d) (h1 : d ≤ 32767) : cvB zs (sbit d) (pbit d) p = d := by
  unfold cb at h
  by_cases hd : d = 0
  · simp [hd, sbit, pbit, cvB]
  · rw [if_neg hd] at h
    by_cases hs : -255 ≤ d ∧ d ≤ 255
    · rw [if_pos hs] at h
      have hv : n1at zs p = max d (-d) := n1at_mid (A := A) (C := C) (by rw [h]; simp) hA
      have hsb : sbit d = true := by unfold sbit; rw [decide_eq_true_eq]; exact ⟨hd, hs⟩
      unfold cvB
      rw [hsb, if_pos rfl, hv]
      by_cases hp : 0 < d
      · have : pbit d = true := by unfold pbit; rw [decide_eq_true_eq]; omega
        rw [this, if_pos rfl]
        omega
      · have : pbit d = false := by unfold pbit; rw [decide_eq_false_iff_not]; omega
        rw [this, if_neg (by decide)]
        omega
    · rw [if_neg hs] at h
      have hv : n2at zs p = d % 65536 := n2at_mid h hA (by omega) (by omega)
      have hsb : sbit d = false := by unfold sbit; rw [decide_eq_false_iff_not]; omega
      have hpb : pbit d = false := by unfold pbit; rw [decide_eq_false_iff_not]; omega
      unfold cvB
      rw [hsb, hpb, if_neg (by decide), if_neg (by decide), hv]
      exact sgn_mod h0 h1

theorem ahd_chA (xs : List Int) (k : Nat) : ahd xs (k + 1) = ahd xs k + chA xs k := by
  unfold ahd chA
  rw [if_neg (by omega), Nat.add_sub_cancel]
  split <;> omega
theorem pk_dec {zs : List Int} {sh pl : Int} {fl xs : List Int} {a : Nat} {A C : List Int} (hz : zs = A ++ (cbs (chs xs) ++ C)) (hA : A.length = a)
    (hb : ∀ i, i < xs.length → fb (fl.getD i 0) sh = sbit (chA xs i) ∧ fb (fl.getD i 0) pl = pbit (chA xs i)) (hd : ∀ d ∈ chs xs, -32768 ≤ d ∧ d ≤ 32767) :
    ∀ k, k ≤ xs.length → pkAt zs sh pl fl a k = (a + (cbs ((chs xs).take k)).length, ahd xs k) := by
  intro k
  induction k with
  | zero => intro _; simp [pkAt, cbs, ahd]
  | succ k ih =>
    intro hk
    have h := ih (by omega)
    obtain ⟨b1, b2⟩ := hb k (by omega)
    have hget := chs_get xs (i := k) (by omega)
    have hc := cbs_cut (chs xs) hget
    have hs := cbs_snoc hget
    obtain ⟨d0, d1⟩ := hd _ (List.mem_of_getElem? hget)
    unfold pkAt
    rw [h, hs, List.length_append, ← cwB_cb, ahd_chA]
    have hv : cv zs sh pl (fl.getD k 0) (a + (cbs ((chs xs).take k)).length) = chA xs k := by
      rw [← cvB_eq, b1, b2]
      exact cvB_cb (A := A ++ cbs ((chs xs).take k)) (C := cbs ((chs xs).drop (k + 1)) ++ C) (by rw [hz, hc]; simp) (by rw [List.length_append, hA]) d0 d1
    rw [← cwB_eq, b1, b2]
    simp only [hv]
    rw [Nat.add_assoc]

theorem ahd_get {xs : List Int} {k : Nat} {x : Int} (h : xs[k]? = some x) : ahd xs (k + 1) = x := by
  unfold ahd
  rw [if_neg (by omega), Nat.add_sub_cancel]
  simp [h]
theorem ahd_bd {xs : List Int} (h : ∀ x ∈ xs, -32768 ≤ x ∧ x ≤ 32767) (k : Nat) : -32768 ≤ ahd xs k ∧ ahd xs k ≤ 32767 := by
  unfold ahd
  split
  · omega
  · rw [List.getD_eq_getElem?_getD]
    cases h2 : xs[k - 1]? with
    | none => simp
    | some x => exact h x (List.mem_of_getElem? h2)
theorem pkOk_of {zs : List Int} {sh pl : Int} {fl xs : List Int} {a : Nat} (hx : ∀ x ∈ xs, -32768 ≤ x ∧ x ≤ 32767) (h : ∀ k, k ≤ xs.length → (pkAt zs sh pl fl a k).2 = ahd xs k) : pkOk zs sh pl fl a xs.length = true := by
  unfold pkOk
  rw [List.all_eq_true]
  intro i hi
  rw [h (i + 1) (by have := List.mem_range.1 hi; omega)]
  obtain ⟨h0, h1⟩ := ahd_bd hx (i + 1)
  exact fitsB_of h0 h1

theorem endB_cut (l : List Int) {k : Nat} {x : Int} (h : l[k]? = some x) : endB l = endB (l.take k) ++ (b2 x ++ endB (l.drop (k + 1))) := by
  obtain ⟨hk, rfl⟩ := List.getElem?_eq_some_iff.1 h
  conv => lhs; rw [← List.take_append_drop k l, List.drop_eq_getElem_cons hk]
  unfold endB
  rw [List.flatMap_append, List.flatMap_cons]

/-- What is written is read. -/
theorem oParse_oB (g : Gl) (ho : g.ok) (hr : oRight g = true) : oParse (oB g) = some (g, (oB g).length) := by
  obtain ⟨⟨r1, r2, r3, r4⟩, hcx, hcy⟩ := oRight_parts hr
  obtain ⟨x0, x1, x2, x3, es, pr, ps⟩ := g
  obtain ⟨hbx, hes, hpr, hps⟩ := ho
  simp only at r1 r2 r3 r4 hcx hcy hes hpr hps
  simp only [Gl.box] at hbx
  generalize hzs : oB ⟨x0, x1, x2, x3, es, pr, ps⟩ = zs
  have hz : zs = b2 es.length ++ (boxB [x0, x1, x2, x3] ++ (endB es ++ (b2 pr.length ++ (pr ++ (rle (fls ps) ++ (cbs (chs (xsOf ps)) ++ cbs (chs (ysOf ps)))))))) := by
    rw [← hzs]
    simp [oB, oFront, Gl.box]
  have hn : n2at zs 0 = (es.length : Int) := n2at_mid (A := []) hz rfl (by omega) (by omega)
  have hnt : (n2at zs 0).toNat = es.length := by omega
  have hb0 := hbx x0 (by simp)
  have hb1 := hbx x1 (by simp)
  have hb2 := hbx x2 (by simp)
  have hb3 := hbx x3 (by simp)
  have hB : boxB [x0, x1, x2, x3] = b2 (x0 % 65536) ++ (b2 (x1 % 65536) ++ (b2 (x2 % 65536) ++ b2 (x3 % 65536))) := by simp [boxB]
  have h2 : n2at zs 2 = x0 % 65536 := n2at_mid (A := b2 es.length) (C := _) (by rw [hz, hB]; simp; rfl) rfl (by omega) (by omega)
  have h4 : n2at zs 4 = x1 % 65536 := n2at_mid (A := b2 es.length ++ b2 (x0 % 65536)) (C := _) (by rw [hz, hB]; simp; rfl) rfl (by omega) (by omega)
  have h6 : n2at zs 6 = x2 % 65536 := n2at_mid (A := b2 es.length ++ (b2 (x0 % 65536) ++ b2 (x1 % 65536))) (C := _) (by rw [hz, hB]; simp; rfl) rfl (by omega) (by omega)
  have h8 : n2at zs 8 = x3 % 65536 := n2at_mid (A := b2 es.length ++ (b2 (x0 % 65536) ++ (b2 (x1 % 65536) ++ b2 (x2 % 65536)))) (C := _) (by rw [hz, hB]; simp; rfl) rfl (by omega) (by omega)
  have hE : oEs zs es.length = es := by
    apply List.ext_getElem?
    intro i
    by_cases hi : i < es.length
    · rw [oEs_get zs hi, List.getElem?_eq_getElem hi]
      have hg : es[i]? = some es[i] := List.getElem?_eq_getElem hi
      have hxx := hes _ (List.mem_of_getElem? hg)
      rw [n2at_mid (A := b2 es.length ++ (boxB [x0, x1, x2, x3] ++ endB (es.take i))) (C := _) (by rw [hz, endB_cut es hg]; simp; rfl) (by rw [List.length_append, List.length_append, boxB_len, endB_len, List.length_take]; simp [b2]; omega) hxx.1 hxx.2]
    · rw [List.getElem?_eq_none (by rw [oEs_len]; omega), List.getElem?_eq_none (by omega)]
  have hS : n2at zs (10 + 2 * es.length) = (pr.length : Int) := n2at_mid (A := b2 es.length ++ (boxB [x0, x1, x2, x3] ++ endB es)) (C := _) (by rw [hz]; simp; rfl) (by rw [List.length_append, List.length_append, boxB_len, endB_len]; simp [b2]; omega) (by omega) (by omega)
  have hSz : oSz zs es.length = pr.length := by unfold oSz; rw [hS]; omega
  have hP : (zs.drop (12 + 2 * es.length)).take pr.length = pr := by
    rw [show zs = (b2 es.length ++ (boxB [x0, x1, x2, x3] ++ (endB es ++ b2 pr.length))) ++ (pr ++ (rle (fls ps) ++ (cbs (chs (xsOf ps)) ++ cbs (chs (ysOf ps))))) by rw [hz]; simp, drop_len (by rw [List.length_append, List.length_append, List.length_append, boxB_len, endB_len]; simp [b2]; omega)]
    simp
  have hA : oA zs es.length = 12 + 2 * es.length + pr.length := by unfold oA; rw [hSz]
  obtain ⟨s, hs1, hs2, hs3⟩ := rle_dec zs (cntE es) (fls ps).length (fls ps) ⟨[], oA zs es.length⟩ (b2 es.length ++ (boxB [x0, x1, x2, x3] ++ (endB es ++ (b2 pr.length ++ pr)))) (cbs (chs (xsOf ps)) ++ cbs (chs (ysOf ps))) (Nat.le_refl _) (fls_in ps) (by rw [hz]; simp) (by rw [hA]; rw [List.length_append, List.length_append, List.length_append, List.length_append, boxB_len, endB_len]; simp [b2]; omega) (by unfold fls; rw [flK_len, ← r4]; simp)
  simp only [List.map_nil, List.nil_append] at hs2
  have hsl : s.fl.length = ps.length := by
    have := congrArg List.length hs2
    rw [List.length_map, List.length_map] at this
    rw [this]
    exact flK_len _ _
  have hcore : ∀ i, i < ps.length → core (s.fl.getD i 0) = ((ps.getD i (0, 0, false)).2.2, sbit (chA (xsOf ps) i), sbit (chA (ysOf ps) i), pbit (chA (xsOf ps) i), pbit (chA (ysOf ps) i)) := by
    intro i hi
    have h1 := congrArg (fun l : List _ => l[i]?) hs2
    simp only [List.getElem?_map] at h1
    rw [show (fls ps)[i]? = some (flA ps i) from flK_get ps hi] at h1
    have h2 : s.fl[i]? = some (s.fl.getD i 0) := by rw [List.getD_eq_getElem?_getD, List.getElem?_eq_getElem (by omega)]; rfl
    rw [h2] at h1
    simp only [Option.map_some, Option.some.injEq] at h1
    rw [h1]
    unfold flA
    exact flag_core _ _ _
  have hbits := fun i hi => (Prod.mk.inj (hcore i hi))
  have hX := pk_dec (zs := zs) (sh := 2) (pl := 16) (fl := s.fl) (xs := xsOf ps) (a := s.at_) (A := b2 es.length ++ (boxB [x0, x1, x2, x3] ++ (endB es ++ (b2 pr.length ++ (pr ++ rle (fls ps)))))) (C := cbs (chs (ysOf ps))) (by rw [hz]; simp) (by
    rw [hs3, hA]
    rw [List.length_append, List.length_append, List.length_append, List.length_append, List.length_append, boxB_len, endB_len]
    simp [b2]
    omega) (fun i hi => by
    rw [xsOf_len] at hi
    have h1 := hcore i hi
    simp only [core, Prod.mk.injEq] at h1
    exact ⟨h1.2.1, h1.2.2.2.1⟩) hcx
  have hXe : oXe zs s = s.at_ + (cbs (chs (xsOf ps))).length := by
    unfold oXe
    rw [hsl, ← xsOf_len ps, hX _ (Nat.le_refl _)]
    rw [List.take_of_length_le (by rw [chs_len]; exact Nat.le_refl _)]
  have hY := pk_dec (zs := zs) (sh := 4) (pl := 32) (fl := s.fl) (xs := ysOf ps) (a := oXe zs s) (A := b2 es.length ++ (boxB [x0, x1, x2, x3] ++ (endB es ++ (b2 pr.length ++ (pr ++ (rle (fls ps) ++ cbs (chs (xsOf ps)))))))) (C := []) (by rw [hz]; simp) (by
    rw [hXe, hs3, hA]
    rw [List.length_append, List.length_append, List.length_append, List.length_append, List.length_append, List.length_append, boxB_len, endB_len]
    simp [b2]
    omega) (fun i hi => by
    rw [ysOf_len] at hi
    have h1 := hcore i hi
    simp only [core, Prod.mk.injEq] at h1
    exact ⟨h1.2.2.1, h1.2.2.2.2⟩) hcy
  have hEn : oEnd zs s = zs.length := by
    unfold oEnd
    rw [hsl, ← ysOf_len ps, hY _ (Nat.le_refl _)]
    rw [List.take_of_length_le (by rw [chs_len]; exact Nat.le_refl _), hXe, hs3, hA, hz]
    simp only [List.length_append, boxB_len, endB_len]
    simp [b2]
    omega
  have hpsx : ∀ x ∈ xsOf ps, -32768 ≤ x ∧ x ≤ 32767 := by
    intro x hx
    simp only [xsOf, List.mem_map] at hx
    obtain ⟨p, hp, rfl⟩ := hx
    exact (hps p hp).1
  have hpsy : ∀ x ∈ ysOf ps, -32768 ≤ x ∧ x ≤ 32767 := by
    intro x hx
    simp only [ysOf, List.mem_map] at hx
    obtain ⟨p, hp, rfl⟩ := hx
    exact (hps p hp).2
  have hPk : oPk zs s = true := by
    unfold oPk
    have e1 := pkOk_of (zs := zs) (sh := 2) (pl := 16) (fl := s.fl) (a := s.at_) hpsx (fun k hk => by rw [hX k hk])
    have e2 := pkOk_of (zs := zs) (sh := 4) (pl := 32) (fl := s.fl) (a := oXe zs s) hpsy (fun k hk => by rw [hY k hk])
    rw [xsOf_len] at e1
    rw [ysOf_len] at e2
    rw [hsl, e1, e2]
    rfl
  have hgood : oGood zs s := ⟨by omega, by rw [hnt, hE]; exact r3, by rw [hnt]; unfold oFs; rw [hE]; exact hs1, hPk⟩
  have hPs : oPs zs s ps.length = ps := by
    apply List.ext_getElem?
    intro i
    by_cases hi : i < ps.length
    · have hg : ps[i]? = some ps[i] := List.getElem?_eq_getElem hi
      have hx : (xsOf ps)[i]? = some ps[i].1 := by simp [xsOf, hi]
      have hy : (ysOf ps)[i]? = some ps[i].2.1 := by simp [ysOf, hi]
      have h1 := hcore i hi
      simp only [core, Prod.mk.injEq] at h1
      rw [hg]
      unfold oPs
      rw [List.getElem?_map, List.getElem?_range hi, Option.map_some, hX (i + 1) (by rw [xsOf_len]; omega), hY (i + 1) (by rw [ysOf_len]; omega), ahd_get hx, ahd_get hy, h1.1]
      simp [hg]
    · rw [List.getElem?_eq_none (by rw [oPs_len]; omega), List.getElem?_eq_none (by omega)]
  rw [oParse_some hgood (by omega), hEn]
  rw [oTold_eq hgood (by omega)]
  unfold oGl
  rw [hnt, hE, hSz, hP, hsl, hPs, h2, h4, h6, h8, sgn_mod hb0.1 hb0.2, sgn_mod hb1.1 hb1.2, sgn_mod hb2.1 hb2.2, sgn_mod hb3.1 hb3.2]

end Go.Proofs.Ytdaeffnaoeblpaa

/- simple: more bytes behind an outline say nothing; of fewer there is none: plain lists. -/
namespace Go.Proofs.Ytdaeffnaoeblpaa
open Go.RowKit
set_option linter.unusedVariables false

theorem oParse_inv {zs : List Int} {g : Gl} {a : Nat} (h : oParse zs = some (g, a)) : ∃ s, oGood zs s ∧ oEnd zs s ≤ zs.length ∧ g = oTold zs s ∧ a = oEnd zs s := by
  by_cases hex : ∃ s, oGood zs s
  · obtain ⟨s, hs⟩ := hex
    by_cases he : oEnd zs s ≤ zs.length
    · rw [oParse_some hs he] at h
      cases h
      exact ⟨s, hs, he, rfl, rfl⟩
    · rw [oParse_no2 hs (by omega)] at h
      cases h
  · rw [oParse_no1 (fun s hs => hex ⟨s, hs⟩)] at h
    cases h

section
variable {zs ms : List Int}
theorem told_ext {i m : Nat} (h : i + m ≤ zs.length) : told ((zs ++ ms).drop i) m = told (zs.drop i) m := by
  unfold told
  rw [if_pos (by rw [List.length_drop, List.length_append]; omega), if_pos (by rw [List.length_drop]; omega), List.drop_append_of_le_length (by omega), List.take_append_of_le_length (by rw [List.length_drop]; omega)]
theorem n1at_ext {i : Nat} (h : i + 1 ≤ zs.length) : n1at (zs ++ ms) i = n1at zs i := by unfold n1at num; rw [told_ext h]
theorem n2at_ext {i : Nat} (h : i + 2 ≤ zs.length) : n2at (zs ++ ms) i = n2at zs i := by unfold n2at num; rw [told_ext h]

theorem fMore_ext {i : Nat} (h : i + fSize zs i ≤ zs.length) : fMore (zs ++ ms) i = fMore zs i ∧ fSize (zs ++ ms) i = fSize zs i ∧ n1at (zs ++ ms) i = n1at zs i := by
  have h1 : 1 ≤ fSize zs i := by unfold fSize; split <;> omega
  have e1 : n1at (zs ++ ms) i = n1at zs i := n1at_ext (by omega)
  refine ⟨?_, by unfold fSize; rw [e1], e1⟩
  unfold fMore
  rw [e1]
  unfold fSize at h
  split
  · rename_i h8
    rw [if_pos h8] at h
    rw [n1at_ext (by omega)]
  · rfl
theorem fAll_ext {n : Nat} : ∀ (k : Nat) (s t : FS), n - s.fl.length ≤ k → fAll zs n s = some t → s.fl.length ≤ n → t.at_ ≤ zs.length → fAll (zs ++ ms) n s = some t := by
  intro k
  induction k with
  | zero =>
    intro s t h ht hs hl
    rw [fAll_done (by omega)] at ht ⊢
    exact ht
  | succ k ih =>
    intro s t h ht hs hl
    by_cases hlt : s.fl.length < n
    · cases hk : fOk zs n s with
      | false => rw [fAll_not hlt hk] at ht; cases ht
      | true =>
        rw [fAll_step hlt hk] at ht
        have hz := fNext_len zs s
        have hle : s.fl.length + 1 + fMore zs s.at_ ≤ n := by unfold fOk at hk; simp at hk; omega
        have hat := (fAll_some n (fNext zs s) t (Nat.sub_le _ _) (by omega) ht).2
        obtain ⟨e1, e2, e3⟩ := fMore_ext (zs := zs) (ms := ms) (i := s.at_) (by show s.at_ + fSize zs s.at_ ≤ _; exact Nat.le_trans hat hl)
        have hn : fNext (zs ++ ms) s = fNext zs s := by unfold fNext; rw [e1, e2, e3]
        have hk2 : fOk (zs ++ ms) n s = true := by unfold fOk at hk ⊢; rw [e1, e3]; exact hk
        rw [fAll_step hlt hk2, hn]
        exact ih _ _ (by omega) ht (by omega) hl
    · rw [fAll_done (by omega)] at ht ⊢
      exact ht
theorem cv_ext {sh pl f : Int} {i : Nat} (h : i + cw sh pl f ≤ zs.length) : cv (zs ++ ms) sh pl f i = cv zs sh pl f i := by
  unfold cw at h
  unfold cv
  by_cases h1 : fb f sh = true
  · rw [if_pos h1] at h
    rw [if_pos h1, if_pos h1, n1at_ext h]
  · rw [if_neg h1] at h
    rw [if_neg h1, if_neg h1]
    by_cases h2 : fb f pl = true
    · rw [if_pos h2, if_pos h2]
    · rw [if_neg h2] at h
      rw [if_neg h2, if_neg h2, n2at_ext h]
theorem pkAt_ext {sh pl : Int} {fl : List Int} {a : Nat} : ∀ k, (pkAt zs sh pl fl a k).1 ≤ zs.length → pkAt (zs ++ ms) sh pl fl a k = pkAt zs sh pl fl a k := by
  intro k
  induction k with
  | zero => intro _; rfl
  | succ k ih =>
    intro h
    have h1 : (pkAt zs sh pl fl a k).1 + cw sh pl (fl.getD k 0) ≤ zs.length := h
    have e := ih (by omega)
    unfold pkAt
    rw [e, cv_ext h1]
theorem pk_all {sh pl : Int} {fl : List Int} {a n : Nat} (h : (pkAt zs sh pl fl a n).1 ≤ zs.length) : ∀ k, k ≤ n → pkAt (zs ++ ms) sh pl fl a k = pkAt zs sh pl fl a k := fun k hk => pkAt_ext k (by
  have := pkAt_mono (zs := zs) (sh := sh) (pl := pl) (fl := fl) (a := a) k (n - k)
  rw [show k + (n - k) = n by omega] at this
  omega)
theorem pkOk_ext {sh pl : Int} {fl : List Int} {a n : Nat} (h : (pkAt zs sh pl fl a n).1 ≤ zs.length) : pkOk (zs ++ ms) sh pl fl a n = pkOk zs sh pl fl a n := by
  unfold pkOk
  rw [Bool.eq_iff_iff, List.all_eq_true, List.all_eq_true]
  constructor
  · intro h2 i hi
    have := h2 i hi
    rwa [pk_all h (i + 1) (by have := List.mem_range.1 hi; omega)] at this
  · intro h2 i hi
    rw [pk_all h (i + 1) (by have := List.mem_range.1 hi; omega)]
    exact h2 i hi

/-- More bytes behind say nothing. -/
theorem oParse_ext {g : Gl} {a : Nat} (h : oParse zs = some (g, a)) : oParse (zs ++ ms) = some (g, a) ∧ a ≤ zs.length := by
  obtain ⟨s, hs, he, rfl, rfl⟩ := oParse_inv h
  refine ⟨?_, he⟩
  obtain ⟨g1, g2, g3, g4⟩ := hs
  have h3 := g3
  unfold oFs at h3
  obtain ⟨h4, h5⟩ := fAll_some _ _ _ (Nat.sub_le _ _) (Nat.zero_le _) h3
  obtain ⟨h6, h7⟩ := oXe_le zs s
  simp only at h5
  have hA : 12 + 2 * (n2at zs 0).toNat + oSz zs (n2at zs 0).toNat ≤ zs.length := by have : oA zs (n2at zs 0).toNat = 12 + 2 * (n2at zs 0).toNat + oSz zs (n2at zs 0).toNat := rfl; omega
  have e0 : n2at (zs ++ ms) 0 = n2at zs 0 := n2at_ext (by omega)
  have eE : oEs (zs ++ ms) (n2at zs 0).toNat = oEs zs (n2at zs 0).toNat := by
    unfold oEs
    apply List.map_congr_left
    intro i hi
    exact n2at_ext (by have := List.mem_range.1 hi; omega)
  have eS : oSz (zs ++ ms) (n2at zs 0).toNat = oSz zs (n2at zs 0).toNat := by unfold oSz; rw [n2at_ext (by omega)]
  have eA : oA (zs ++ ms) (n2at zs 0).toNat = oA zs (n2at zs 0).toNat := by unfold oA; rw [eS]
  have eF : oFs (zs ++ ms) (n2at zs 0).toNat = some s := by
    unfold oFs
    rw [eE, eA]
    exact fAll_ext _ _ _ (Nat.sub_le _ _) h3 (Nat.zero_le _) (by omega)
  have eX : ∀ k, k ≤ s.fl.length → pkAt (zs ++ ms) 2 16 s.fl s.at_ k = pkAt zs 2 16 s.fl s.at_ k := pk_all (by show oXe zs s ≤ _; omega)
  have eXe : oXe (zs ++ ms) s = oXe zs s := by unfold oXe; rw [eX _ (Nat.le_refl _)]
  have eY : ∀ k, k ≤ s.fl.length → pkAt (zs ++ ms) 4 32 s.fl (oXe zs s) k = pkAt zs 4 32 s.fl (oXe zs s) k := pk_all (by show oEnd zs s ≤ _; omega)
  have eEn : oEnd (zs ++ ms) s = oEnd zs s := by unfold oEnd; rw [eXe, eY _ (Nat.le_refl _)]
  have ePk : oPk (zs ++ ms) s = true := by
    unfold oPk at g4 ⊢
    rw [eXe, pkOk_ext (by show oXe zs s ≤ _; omega), pkOk_ext (by show oEnd zs s ≤ _; omega)]
    exact g4
  have hgood : oGood (zs ++ ms) s := ⟨by omega, by rw [e0, eE]; exact g2, by rw [e0]; exact eF, ePk⟩
  rw [oParse_some hgood (by rw [eEn, List.length_append]; omega), eEn]
  congr 1
  congr 1
  unfold oTold
  rw [e0, eE, eS, n2at_ext (by omega), n2at_ext (by omega), n2at_ext (by omega), n2at_ext (by omega), told_ext (by omega)]
  congr 1
  unfold oPs
  apply List.map_congr_left
  intro i hi
  have hi2 : i < s.fl.length := by rw [h4]; exact List.mem_range.1 hi
  rw [eX (i + 1) (by omega), eXe, eY (i + 1) (by omega)]
end

/-- Of fewer bytes there is no outline. -/
theorem oParse_cut {zs : List Int} {g : Gl} (h : oParse zs = some (g, zs.length)) {k : Nat} (hk : k < zs.length) : oParse (zs.take k) = none := by
  cases hc : oParse (zs.take k) with
  | none => rfl
  | some p =>
    obtain ⟨g2, a⟩ := p
    obtain ⟨h1, h2⟩ := oParse_ext (ms := zs.drop k) hc
    rw [List.take_append_drop, h] at h1
    simp only [Option.some.injEq, Prod.mk.injEq] at h1
    rw [List.length_take] at h2
    omega

end Go.Proofs.Ytdaeffnaoeblpaa
