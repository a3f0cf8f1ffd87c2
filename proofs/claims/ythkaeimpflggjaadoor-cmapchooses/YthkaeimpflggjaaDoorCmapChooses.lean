/- Of several records of a table cmap the first kind counts that the document names, and of one kind its first record: the law CmapChooses is true. No condition on the arguments; the variable punchcut/cmap.ranked holds what the program's own text lays there (the card ties it to the program). -/
import Derived.Test.YthkaeimpflggjaaDoorRows
import Derived.Test.YthkaeimpflggjaaDoorCards
import Derived.Test.YthkaeimpflggjaaDoorTie
import Derived.SevenTiedAt
import Derived.LaidMore
import Derived.Stop.Joined
import Derived.WalkKit
import Derived.ProofKit
import Derived.OpenShut
import Derived.ShutString
import Derived.ChangeOld
import Derived.Below
import Derived.Lib.SmallJoins
import Derived.Test.YthkaeimpflggjaaDoorBase2
import Derived.Test.YthkaeimpflggjaaDoorBase3
import Derived.Test.YthkaeimpflggjaaDoorBase6
import Derived.Test.YthkaeimpflggjaaDoorBase9

namespace Go.Proofs.YthkaeimpflggjaaDoor
open Go.RowKit
set_option linter.unusedVariables false

def cntF (D : Array Bool) : Nat := D.toList.count false
theorem cntF_set {D : Array Bool} {i : Nat} (h : D.getD i true = false) : cntF (D.setIfInBounds i true) + 1 = cntF D := by
  have hi : i < D.size := by
    rcases Nat.lt_or_ge i D.size with h1 | h1
    · exact h1
    · rw [Array.getD_eq_getD_getElem?, Array.getElem?_eq_none h1] at h
      cases h
  have hv : D.toList[i]'(by simpa using hi) = false := by
    rw [Array.getD_eq_getD_getElem?, Array.getElem?_eq_getElem hi] at h
    simpa using h
  have hp : 0 < D.toList.count false := List.count_pos_iff.2 (by rw [← hv]; exact List.getElem_mem _)
  unfold cntF
  rw [Array.toList_setIfInBounds, List.count_set (by simpa using hi), hv]
  simp only [beq_self_eq_true, if_true]
  rw [if_neg (by decide)]
  omega

theorem ready_some {md : Region.Mode} {ops : Array Oper} {D : Array Bool} (hz : D.size = ops.size) (hlt : ∀ (i : Nat) (o : Oper), ops[i]? = some o → ∀ e ∈ o.after, e.on < i) :
    ∀ n i, i ≤ n → D.getD i true = false → Region.ready md ops D ≠ [] := by
  intro n
  induction n with
  | zero =>
    intro i hi h
    obtain rfl : i = 0 := by omega
    have hs : 0 < D.size := by
      rcases Nat.lt_or_ge 0 D.size with h1 | h1
      · exact h1
      · rw [Array.getD_eq_getD_getElem?, Array.getElem?_eq_none h1] at h
        cases h
    have ho : ops[0]? = some (ops[0]'(by omega)) := Array.getElem?_eq_getElem _
    exact List.ne_nil_of_mem (mem_ready.2 ⟨h, _, ho, fun e he _ => absurd (hlt _ _ ho e he) (by omega)⟩)
  | succ n ih =>
    intro i hi h
    have hs : i < D.size := by
      rcases Nat.lt_or_ge i D.size with h1 | h1
      · exact h1
      · rw [Array.getD_eq_getD_getElem?, Array.getElem?_eq_none h1] at h
        cases h
    have ho : ops[i]? = some (ops[i]'(by omega)) := Array.getElem?_eq_getElem _
    by_cases hr : i ∈ Region.ready md ops D
    · exact List.ne_nil_of_mem hr
    · have : ¬ ∀ e ∈ (ops[i]'(by omega)).after, Region.binds md e = true → D.getD e.on false = true := fun hh => hr (mem_ready.2 ⟨h, _, ho, hh⟩)
      simp only [Classical.not_forall] at this
      obtain ⟨e, he, _, hf⟩ := this
      have hl := hlt _ _ ho e he
      refine ih e.on (by omega) ?_
      have he2 : e.on < D.size := by omega
      rw [Array.getD_eq_getD_getElem?, Array.getElem?_eq_getElem he2] at hf ⊢
      simpa using hf

theorem reg_inv {P : Program} {md : Region.Mode} {ops : Array Oper} {Q : Exit → Act → World → Prop} {S : World → Prop} (J : Array Bool → Act → World → Prop) (hlt : ∀ (i : Nat) (o : Oper), ops[i]? = some o → ∀ e ∈ o.after, e.on < i) (hz : ∀ D a w, J D a w → D.size = ops.size)
    (hs : ∀ D a w, J D a w → wpAnyH P md ops Q S (cntF D) D a w ∨ (∃ i, D.getD i true = false) ∧ ∀ i ∈ Region.ready md ops D, wpOp P ops Q i (fun a' w' => S w' ∧ J (D.setIfInBounds i true) a' w') a w) :
    ∀ n D a w, cntF D = n → J D a w → wpAnyH P md ops Q S n D a w := by
  intro n
  induction n with
  | zero =>
    intro D a w hc hJ
    rcases hs D a w hJ with h | ⟨⟨k, hk⟩, h⟩
    · rwa [hc] at h
    · have := cntF_set hk
      omega
  | succ n ih =>
    intro D a w hc hJ
    rcases hs D a w hJ with h | ⟨⟨k, hk⟩, h⟩
    · rwa [hc] at h
    · exact ⟨fun hr => absurd hr (ready_some (md := md) (hz D a w hJ) hlt k k (Nat.le_refl _) hk), fun i hi => wpOp_mono (fun a' w' hh => ⟨hh.1, ih _ _ _ (by have := cntF_set (mem_ready.1 hi).1; omega) hh.2⟩) (h i hi)⟩

/-- The same from the act at hand on. -/
theorem reg_inv_at {P : Program} {md : Region.Mode} {ops : Array Oper} {Q : Exit → Act → World → Prop} {S : World → Prop} {a0 : Act} {n : Nat} {D : Array Bool} {w : World} (J : Act → Array Bool → Act → World → Prop) (hc : cntF D = n) (h0 : J a0 D a0 w) (hlt : ∀ (i : Nat) (o : Oper), ops[i]? = some o → ∀ e ∈ o.after, e.on < i) (hz : ∀ D a w, J a0 D a w → D.size = ops.size)
    (hs : ∀ D a w, J a0 D a w → wpAnyH P md ops Q S (cntF D) D a w ∨ (∃ i, D.getD i true = false) ∧ ∀ i ∈ Region.ready md ops D, wpOp P ops Q i (fun a' w' => S w' ∧ J a0 (D.setIfInBounds i true) a' w') a w) : wpAnyH P md ops Q S n D a0 w :=
  reg_inv (J a0) hlt hz hs n D a0 w hc h0

/-- The same, the steps shown for any act to begin from. -/
theorem reg_inv_two {P : Program} {md : Region.Mode} {ops : Array Oper} {Q : Exit → Act → World → Prop} {S : World → Prop} {a0 : Act} {n : Nat} {D : Array Bool} {w : World} (J : Act → Array Bool → Act → World → Prop) (fin : Array Bool → Prop) (hc : cntF D = n) (h0 : J a0 D a0 w) (hlt : ∀ (i : Nat) (o : Oper), ops[i]? = some o → ∀ e ∈ o.after, e.on < i) (hz : ∀ D a w, J a0 D a w → D.size = ops.size)
    (hs : ∀ a1 D a w, J a1 D a w → ¬ fin D → (∃ i, D.getD i true = false) ∧ ∀ i ∈ Region.ready md ops D, wpOp P ops Q i (fun a' w' => S w' ∧ J a1 (D.setIfInBounds i true) a' w') a w)
    (hf : ∀ D a w, J a0 D a w → fin D → wpAnyH P md ops Q S (cntF D) D a w) : wpAnyH P md ops Q S n D a0 w :=
  reg_inv (J a0) hlt hz (fun D a w hJ => (Classical.em (fin D)).elim (fun h => .inl (hf D a w hJ h)) (fun h => .inr (hs a0 D a w hJ h))) n D a0 w hc h0

theorem put_self (a : Act) (t : Nat) : a.put (some t) (a.tmps.getD t undef) = a := by
  obtain ⟨ts, ds⟩ := a
  show (⟨ts.setIfInBounds t (ts.getD t undef), ds⟩ : Act) = ⟨ts, ds⟩
  congr 1
  refine Array.ext (by simp) fun i h1 h2 => ?_
  rw [Array.getElem_setIfInBounds]
  split
  · rename_i h
    subst h
    rw [Array.getD_eq_getD_getElem?, Array.getElem?_eq_getElem h2]
    rfl
  · rfl
theorem put_put (a : Act) (t : Nat) (x y : Value) : (a.put (some t) x).put (some t) y = a.put (some t) y := by
  obtain ⟨ts, ds⟩ := a
  show (⟨(ts.setIfInBounds t x).setIfInBounds t y, ds⟩ : Act) = ⟨ts.setIfInBounds t y, ds⟩
  rw [Array.setIfInBounds_setIfInBounds]
theorem put_swap (a : Act) {s t : Nat} (h : s ≠ t) (x y : Value) : (a.put (some s) x).put (some t) y = (a.put (some t) y).put (some s) x := by
  obtain ⟨ts, ds⟩ := a
  show (⟨(ts.setIfInBounds s x).setIfInBounds t y, ds⟩ : Act) = ⟨(ts.setIfInBounds t y).setIfInBounds s x, ds⟩
  rw [Array.setIfInBounds_comm _ _ h]
theorem put_size (a : Act) (t : Nat) (x : Value) : (a.put (some t) x).tmps.size = a.tmps.size := by
  show (a.tmps.setIfInBounds t x).size = _
  simp
theorem put_at (a : Act) (t : Nat) (x : Value) (h : t < a.tmps.size) : (a.put (some t) x).tmps.getD t undef = x := by
  show (a.tmps.setIfInBounds t x).getD t undef = x
  rw [Array.getD_eq_getD_getElem?, Array.getElem?_setIfInBounds_self_of_lt h]
  rfl
theorem put_far (a : Act) {s t : Nat} (h : s ≠ t) (x : Value) : (a.put (some s) x).tmps.getD t undef = a.tmps.getD t undef := by
  show (a.tmps.setIfInBounds s x).getD t undef = _
  rw [Array.getD_eq_getD_getElem?, Array.getD_eq_getD_getElem?, Array.getElem?_setIfInBounds_ne h]

def depsB (ops : Array Oper) : Bool := (List.range ops.size).all fun i => ((ops[i]?).map fun o => o.after.all fun e => decide (e.on < i)).getD true
theorem deps_of {ops : Array Oper} (h : depsB ops = true) : ∀ (i : Nat) (o : Oper), ops[i]? = some o → ∀ e ∈ o.after, e.on < i := by
  intro i o ho e he
  have hi : i < ops.size := (Array.getElem?_eq_some_iff.1 ho).1
  have := List.all_eq_true.1 h i (List.mem_range.2 hi)
  rw [ho] at this
  simp only [Option.map_some, Option.getD_some, Array.all_eq_true_iff_forall_mem, decide_eq_true_eq] at this
  exact this e he

end Go.Proofs.YthkaeimpflggjaaDoor

namespace Go.Proofs.YthkaeimpflggjaaDoor
open Go.RowKit
set_option linter.unusedVariables false

/-- The bytes so far, pairs and the kinds that came in. -/
structure ChC (w wr : World) (Ap : Option Addr) (np : Nat) (ps : List Int) (Ab : Option Addr) (nb : Nat) (bs : List Int) (B2 : Option Addr) (m : Nat) (l : List Pr) (A0 : Option Addr) (n0 : Nat) (z0 : List Int) : Prop where
  p : Row wr Ap np (cellsOf .u8 ps)
  b : Row wr Ab nb (cellsOf .u8 bs)
  x : RowS encQ 2 wr B2 m l
  k : Row wr A0 n0 (cellsOf .u8 z0)
  bel : Below w.heap.size w wr
theorem ChC.below {w wr w' : World} {Ap : Option Addr} {np : Nat} {ps : List Int} {Ab : Option Addr} {nb : Nat} {bs : List Int} {B2 : Option Addr} {m : Nat} {l : List Pr} {A0 : Option Addr} {n0 : Nat} {z0 : List Int} (h : ChC w wr Ap np ps Ab nb bs B2 m l A0 n0 z0) (hb : Below wr.heap.size wr w') : ChC w w' Ap np ps Ab nb bs B2 m l A0 n0 z0 := ⟨h.p.below hb, h.b.below hb, h.x.below hb, h.k.below hb, h.bel.trans (hb.mono h.bel.size)⟩

/-- A map in a box, its table and pairs. -/
structure LXC (w wr : World) (bx : Nat) (wd : Bool) (A1 : Option Addr) (n1 c1 : Nat) (A2 : Option Addr) (n2 c2 : Nat) (t : List Int) (A : Option Addr) (c g : Nat) (As : Option Addr) (ns : Nat) (Bq : Option Addr) (m : Nat) (l : List Pr) : Prop where
  b : BoxC w wr bx wd A1 n1 c1 A2 n2 c2 t A c g
  row : Row wr As ns (cellsOf .u8 t)
  x : RowS encQ 2 wr Bq m l
theorem LXC.below {w wr w' : World} {bx : Nat} {wd : Bool} {A1 : Option Addr} {n1 c1 : Nat} {A2 : Option Addr} {n2 c2 : Nat} {t : List Int} {A : Option Addr} {c g : Nat} {As : Option Addr} {ns : Nat} {Bq : Option Addr} {m : Nat} {l : List Pr} (h : LXC w wr bx wd A1 n1 c1 A2 n2 c2 t A c g As ns Bq m l) (hb : Below wr.heap.size wr w') : LXC w w' bx wd A1 n1 c1 A2 n2 c2 t A c g As ns Bq m l := ⟨h.b.below hb, h.row.below hb, h.x.below hb⟩
theorem atQC {w : World} {A : Option Addr} {n : Nat} {l : List Pr} {j : Nat} {p : Pr} (h : RowS encQ 2 w A n l) (hj : l[j]? = some p) :
    ∃ g off, A = some ⟨g, off, none⟩ ∧ g < w.heap.size ∧ w.cell? ⟨g, off + j * 2, none⟩ = some (.int .i64 p.code) ∧ w.cell? ⟨g, off + j * 2 + 1, none⟩ = some (.int .i64 p.glyph) := by
  obtain ⟨g, off, e, hg, hc⟩ := h.at encQ_len (by omega) hj
  exact ⟨g, off, e, hg, hc 0 _ rfl, hc 1 _ rfl⟩
theorem belowCellC {W w' : World} (hb : Below W.heap.size W w') {a : Addr} {v : Value} (h : W.cell? a = some v) : w'.cell? a = some v := (hb.cell (World.block_lt_of_cell? W _ h)).trans h

theorem tab_right {l : List Pr} {wd : Bool} (hg : PrG l) (h : risesF 65534 (-1) l = true) (hl : l.length ≤ 7000) : ∃ t, cHd wd ++ (if wd then gBytes (runsF folG l) else sTab ((sRuns l).map sgR)) = cHd wd ++ t ∧ Bytes t ∧ t.length ≤ 100000 ∧ 16 ≤ t.length := by
  have hris2 : risesF (cMost wd) (-1) l = true := by
    cases wd with
    | true => exact risesF_mono (m2 := 1114111) (show (65534 : Int) ≤ 1114111 by omega) h
    | false => exact h
  obtain ⟨e0, e1, e2, e3, e4, e5, e6⟩ := cOut_right (wd := wd) hg hris2 hl
  exact ⟨cTab l wd, by rw [e6], e2, e4, e5⟩

def put10 (a : Act) (v1 v2 v3 v4 v5 v6 v7 v10 v11 v14 : Value) : Act := ((((((((((a.put (some 72) v1).put (some 73) v2).put (some 74) v3).put (some 75) v4).put (some 76) v5).put (some 77) v6).put (some 78) v7).put (some 81) v10).put (some 82) v11).put (some 85) v14)
def Lit (w : World) (v : Value) (l : List Int) : Prop := ∃ A n c, v = .slice A n c ∧ Row w A n (cellsOf .u8 l)
theorem Lit.below {w w' : World} {v : Value} {l : List Int} (h : Lit w v l) (hb : Ext w w') : Lit w' v l := by
  obtain ⟨A, n, c, e, r⟩ := h
  exact ⟨A, n, c, e, r.below hb⟩
def kdR : Nat → List Int
  | 0 => [0, 3, 0, 10]
  | 1 => [0, 0, 0, 4]
  | 2 => [0, 3, 0, 1]
  | 3 => [0, 0, 0, 3]
  | 4 => [0, 1, 0, 0]
  | _ => [0, 3, 0, 0]
theorem kdR_len (j : Nat) : (kdR j).length = 4 := by
  unfold kdR
  split <;> rfl
theorem kdR_bytes (j : Nat) : Bytes (kdR j) := by
  unfold kdR
  split <;> (intro x hx; simp at hx; omega)

/-- What holds of the region's slots, of those that have come up. -/
structure TF (j : Nat) (at_ : Int) (w : World) (bb1 bb2 bb3 bb4 bb5 bb6 bb7 bb10 bb11 bb14 : Bool) (v1 v2 v3 v4 v5 v6 v7 v10 v11 v14 : Value) : Prop where
  f1 : bb1 = true → Lit w v1 (kdR 0)
  f2 : bb2 = true → Lit w v2 (kdR 1)
  f3 : bb3 = true → Lit w v3 (kdR 2)
  f4 : bb4 = true → Lit w v4 (kdR 3)
  f5 : bb5 = true → Lit w v5 (kdR 4)
  f6 : bb6 = true → Lit w v6 (kdR 5)
  f7 : bb7 = true → (bb1 = true ∧ bb2 = true ∧ bb3 = true ∧ bb4 = true ∧ bb5 = true ∧ bb6 = true) ∧ ∃ g, v7 = .slice (some ⟨g, 0, none⟩) 6 6 ∧ ∃ u, w.cell? ⟨g, j, none⟩ = some u ∧ Lit w u (kdR j)
  f10 : bb10 = true → bb7 = true ∧ ∃ ad u, v10 = .pointer (some ad) ∧ w.cell? ad = some u ∧ Lit w u (kdR j)
  f11 : bb11 = true → bb10 = true ∧ Lit w v11 (kdR j)
  f14 : bb14 = true → Lit w v14 (b4 at_)
theorem TF.below {j : Nat} {at_ : Int} {w w' : World} {bb1 bb2 bb3 bb4 bb5 bb6 bb7 bb10 bb11 bb14 : Bool} {v1 v2 v3 v4 v5 v6 v7 v10 v11 v14 : Value} (h : TF j at_ w bb1 bb2 bb3 bb4 bb5 bb6 bb7 bb10 bb11 bb14 v1 v2 v3 v4 v5 v6 v7 v10 v11 v14) (hb : Ext w w') : TF j at_ w' bb1 bb2 bb3 bb4 bb5 bb6 bb7 bb10 bb11 bb14 v1 v2 v3 v4 v5 v6 v7 v10 v11 v14 :=
  ⟨fun e => (h.f1 e).below hb, fun e => (h.f2 e).below hb, fun e => (h.f3 e).below hb, fun e => (h.f4 e).below hb, fun e => (h.f5 e).below hb, fun e => (h.f6 e).below hb,
    fun e => by obtain ⟨q, g, e1, u, hc, hl⟩ := h.f7 e; exact ⟨q, g, e1, u, hb.cell hc, hl.below hb⟩,
    fun e => by obtain ⟨q, ad, u, e1, hc, hl⟩ := h.f10 e; exact ⟨q, ad, u, e1, hb.cell hc, hl.below hb⟩,
    fun e => ⟨(h.f11 e).1, (h.f11 e).2.below hb⟩, fun e => (h.f14 e).below hb⟩
def TJ (W0 : World) (j : Nat) (at_ : Int) (a0 : Act) (D : Array Bool) (a : Act) (w : World) : Prop :=
  ∃ (bb1 bb2 bb3 bb4 bb5 bb6 bb7 bb10 bb11 bb14 : Bool) (v1 v2 v3 v4 v5 v6 v7 v10 v11 v14 : Value), D = #[true, bb1, bb2, bb3, bb4, bb5, bb6, bb7, true, true, bb10, bb11, true, true, bb14, false, false, false] ∧ a = put10 a0 v1 v2 v3 v4 v5 v6 v7 v10 v11 v14 ∧ 154 ≤ a0.tmps.size ∧ a0.tmps.getD 80 undef = .int .u8 j ∧ a0.tmps.getD 84 undef = .int .u32 at_ ∧ Ext W0 w ∧ TF j at_ w bb1 bb2 bb3 bb4 bb5 bb6 bb7 bb10 bb11 bb14 v1 v2 v3 v4 v5 v6 v7 v10 v11 v14

theorem put10_p1 (a : Act) (v1 v2 v3 v4 v5 v6 v7 v10 v11 v14 x : Value) : (put10 a v1 v2 v3 v4 v5 v6 v7 v10 v11 v14).put (some 72) x = put10 a x v2 v3 v4 v5 v6 v7 v10 v11 v14 := by
  unfold put10
  rw [put_swap _ (s := 85) (t := 72) (by decide), put_swap _ (s := 82) (t := 72) (by decide), put_swap _ (s := 81) (t := 72) (by decide), put_swap _ (s := 78) (t := 72) (by decide), put_swap _ (s := 77) (t := 72) (by decide), put_swap _ (s := 76) (t := 72) (by decide), put_swap _ (s := 75) (t := 72) (by decide), put_swap _ (s := 74) (t := 72) (by decide), put_swap _ (s := 73) (t := 72) (by decide), put_put]
theorem put10_g1 (a : Act) (v1 v2 v3 v4 v5 v6 v7 v10 v11 v14 : Value) (h : 154 ≤ a.tmps.size) : (put10 a v1 v2 v3 v4 v5 v6 v7 v10 v11 v14).tmps.getD 72 undef = v1 := by
  unfold put10
  rw [put_far _ (s := 85) (t := 72) (by decide), put_far _ (s := 82) (t := 72) (by decide), put_far _ (s := 81) (t := 72) (by decide), put_far _ (s := 78) (t := 72) (by decide), put_far _ (s := 77) (t := 72) (by decide), put_far _ (s := 76) (t := 72) (by decide), put_far _ (s := 75) (t := 72) (by decide), put_far _ (s := 74) (t := 72) (by decide), put_far _ (s := 73) (t := 72) (by decide), put_at _ _ _ (by (try simp only [put_size]); omega)]
theorem put10_p2 (a : Act) (v1 v2 v3 v4 v5 v6 v7 v10 v11 v14 x : Value) : (put10 a v1 v2 v3 v4 v5 v6 v7 v10 v11 v14).put (some 73) x = put10 a v1 x v3 v4 v5 v6 v7 v10 v11 v14 := by
  unfold put10
  rw [put_swap _ (s := 85) (t := 73) (by decide), put_swap _ (s := 82) (t := 73) (by decide), put_swap _ (s := 81) (t := 73) (by decide), put_swap _ (s := 78) (t := 73) (by decide), put_swap _ (s := 77) (t := 73) (by decide), put_swap _ (s := 76) (t := 73) (by decide), put_swap _ (s := 75) (t := 73) (by decide), put_swap _ (s := 74) (t := 73) (by decide), put_put]
theorem put10_g2 (a : Act) (v1 v2 v3 v4 v5 v6 v7 v10 v11 v14 : Value) (h : 154 ≤ a.tmps.size) : (put10 a v1 v2 v3 v4 v5 v6 v7 v10 v11 v14).tmps.getD 73 undef = v2 := by
  unfold put10
  rw [put_far _ (s := 85) (t := 73) (by decide), put_far _ (s := 82) (t := 73) (by decide), put_far _ (s := 81) (t := 73) (by decide), put_far _ (s := 78) (t := 73) (by decide), put_far _ (s := 77) (t := 73) (by decide), put_far _ (s := 76) (t := 73) (by decide), put_far _ (s := 75) (t := 73) (by decide), put_far _ (s := 74) (t := 73) (by decide), put_at _ _ _ (by (try simp only [put_size]); omega)]
theorem put10_p3 (a : Act) (v1 v2 v3 v4 v5 v6 v7 v10 v11 v14 x : Value) : (put10 a v1 v2 v3 v4 v5 v6 v7 v10 v11 v14).put (some 74) x = put10 a v1 v2 x v4 v5 v6 v7 v10 v11 v14 := by
  unfold put10
  rw [put_swap _ (s := 85) (t := 74) (by decide), put_swap _ (s := 82) (t := 74) (by decide), put_swap _ (s := 81) (t := 74) (by decide), put_swap _ (s := 78) (t := 74) (by decide), put_swap _ (s := 77) (t := 74) (by decide), put_swap _ (s := 76) (t := 74) (by decide), put_swap _ (s := 75) (t := 74) (by decide), put_put]
theorem put10_g3 (a : Act) (v1 v2 v3 v4 v5 v6 v7 v10 v11 v14 : Value) (h : 154 ≤ a.tmps.size) : (put10 a v1 v2 v3 v4 v5 v6 v7 v10 v11 v14).tmps.getD 74 undef = v3 := by
  unfold put10
  rw [put_far _ (s := 85) (t := 74) (by decide), put_far _ (s := 82) (t := 74) (by decide), put_far _ (s := 81) (t := 74) (by decide), put_far _ (s := 78) (t := 74) (by decide), put_far _ (s := 77) (t := 74) (by decide), put_far _ (s := 76) (t := 74) (by decide), put_far _ (s := 75) (t := 74) (by decide), put_at _ _ _ (by (try simp only [put_size]); omega)]
theorem put10_p4 (a : Act) (v1 v2 v3 v4 v5 v6 v7 v10 v11 v14 x : Value) : (put10 a v1 v2 v3 v4 v5 v6 v7 v10 v11 v14).put (some 75) x = put10 a v1 v2 v3 x v5 v6 v7 v10 v11 v14 := by
  unfold put10
  rw [put_swap _ (s := 85) (t := 75) (by decide), put_swap _ (s := 82) (t := 75) (by decide), put_swap _ (s := 81) (t := 75) (by decide), put_swap _ (s := 78) (t := 75) (by decide), put_swap _ (s := 77) (t := 75) (by decide), put_swap _ (s := 76) (t := 75) (by decide), put_put]
theorem put10_g4 (a : Act) (v1 v2 v3 v4 v5 v6 v7 v10 v11 v14 : Value) (h : 154 ≤ a.tmps.size) : (put10 a v1 v2 v3 v4 v5 v6 v7 v10 v11 v14).tmps.getD 75 undef = v4 := by
  unfold put10
  rw [put_far _ (s := 85) (t := 75) (by decide), put_far _ (s := 82) (t := 75) (by decide), put_far _ (s := 81) (t := 75) (by decide), put_far _ (s := 78) (t := 75) (by decide), put_far _ (s := 77) (t := 75) (by decide), put_far _ (s := 76) (t := 75) (by decide), put_at _ _ _ (by (try simp only [put_size]); omega)]
theorem put10_p5 (a : Act) (v1 v2 v3 v4 v5 v6 v7 v10 v11 v14 x : Value) : (put10 a v1 v2 v3 v4 v5 v6 v7 v10 v11 v14).put (some 76) x = put10 a v1 v2 v3 v4 x v6 v7 v10 v11 v14 := by
  unfold put10
  rw [put_swap _ (s := 85) (t := 76) (by decide), put_swap _ (s := 82) (t := 76) (by decide), put_swap _ (s := 81) (t := 76) (by decide), put_swap _ (s := 78) (t := 76) (by decide), put_swap _ (s := 77) (t := 76) (by decide), put_put]
theorem put10_g5 (a : Act) (v1 v2 v3 v4 v5 v6 v7 v10 v11 v14 : Value) (h : 154 ≤ a.tmps.size) : (put10 a v1 v2 v3 v4 v5 v6 v7 v10 v11 v14).tmps.getD 76 undef = v5 := by
  unfold put10
  rw [put_far _ (s := 85) (t := 76) (by decide), put_far _ (s := 82) (t := 76) (by decide), put_far _ (s := 81) (t := 76) (by decide), put_far _ (s := 78) (t := 76) (by decide), put_far _ (s := 77) (t := 76) (by decide), put_at _ _ _ (by (try simp only [put_size]); omega)]
theorem put10_p6 (a : Act) (v1 v2 v3 v4 v5 v6 v7 v10 v11 v14 x : Value) : (put10 a v1 v2 v3 v4 v5 v6 v7 v10 v11 v14).put (some 77) x = put10 a v1 v2 v3 v4 v5 x v7 v10 v11 v14 := by
  unfold put10
  rw [put_swap _ (s := 85) (t := 77) (by decide), put_swap _ (s := 82) (t := 77) (by decide), put_swap _ (s := 81) (t := 77) (by decide), put_swap _ (s := 78) (t := 77) (by decide), put_put]
theorem put10_g6 (a : Act) (v1 v2 v3 v4 v5 v6 v7 v10 v11 v14 : Value) (h : 154 ≤ a.tmps.size) : (put10 a v1 v2 v3 v4 v5 v6 v7 v10 v11 v14).tmps.getD 77 undef = v6 := by
  unfold put10
  rw [put_far _ (s := 85) (t := 77) (by decide), put_far _ (s := 82) (t := 77) (by decide), put_far _ (s := 81) (t := 77) (by decide), put_far _ (s := 78) (t := 77) (by decide), put_at _ _ _ (by (try simp only [put_size]); omega)]
theorem put10_p7 (a : Act) (v1 v2 v3 v4 v5 v6 v7 v10 v11 v14 x : Value) : (put10 a v1 v2 v3 v4 v5 v6 v7 v10 v11 v14).put (some 78) x = put10 a v1 v2 v3 v4 v5 v6 x v10 v11 v14 := by
  unfold put10
  rw [put_swap _ (s := 85) (t := 78) (by decide), put_swap _ (s := 82) (t := 78) (by decide), put_swap _ (s := 81) (t := 78) (by decide), put_put]
theorem put10_g7 (a : Act) (v1 v2 v3 v4 v5 v6 v7 v10 v11 v14 : Value) (h : 154 ≤ a.tmps.size) : (put10 a v1 v2 v3 v4 v5 v6 v7 v10 v11 v14).tmps.getD 78 undef = v7 := by
  unfold put10
  rw [put_far _ (s := 85) (t := 78) (by decide), put_far _ (s := 82) (t := 78) (by decide), put_far _ (s := 81) (t := 78) (by decide), put_at _ _ _ (by (try simp only [put_size]); omega)]
theorem put10_p10 (a : Act) (v1 v2 v3 v4 v5 v6 v7 v10 v11 v14 x : Value) : (put10 a v1 v2 v3 v4 v5 v6 v7 v10 v11 v14).put (some 81) x = put10 a v1 v2 v3 v4 v5 v6 v7 x v11 v14 := by
  unfold put10
  rw [put_swap _ (s := 85) (t := 81) (by decide), put_swap _ (s := 82) (t := 81) (by decide), put_put]
theorem put10_g10 (a : Act) (v1 v2 v3 v4 v5 v6 v7 v10 v11 v14 : Value) (h : 154 ≤ a.tmps.size) : (put10 a v1 v2 v3 v4 v5 v6 v7 v10 v11 v14).tmps.getD 81 undef = v10 := by
  unfold put10
  rw [put_far _ (s := 85) (t := 81) (by decide), put_far _ (s := 82) (t := 81) (by decide), put_at _ _ _ (by (try simp only [put_size]); omega)]
theorem put10_p11 (a : Act) (v1 v2 v3 v4 v5 v6 v7 v10 v11 v14 x : Value) : (put10 a v1 v2 v3 v4 v5 v6 v7 v10 v11 v14).put (some 82) x = put10 a v1 v2 v3 v4 v5 v6 v7 v10 x v14 := by
  unfold put10
  rw [put_swap _ (s := 85) (t := 82) (by decide), put_put]
theorem put10_g11 (a : Act) (v1 v2 v3 v4 v5 v6 v7 v10 v11 v14 : Value) (h : 154 ≤ a.tmps.size) : (put10 a v1 v2 v3 v4 v5 v6 v7 v10 v11 v14).tmps.getD 82 undef = v11 := by
  unfold put10
  rw [put_far _ (s := 85) (t := 82) (by decide), put_at _ _ _ (by (try simp only [put_size]); omega)]
theorem put10_p14 (a : Act) (v1 v2 v3 v4 v5 v6 v7 v10 v11 v14 x : Value) : (put10 a v1 v2 v3 v4 v5 v6 v7 v10 v11 v14).put (some 85) x = put10 a v1 v2 v3 v4 v5 v6 v7 v10 v11 x := by
  unfold put10
  rw [put_put]
theorem put10_g14 (a : Act) (v1 v2 v3 v4 v5 v6 v7 v10 v11 v14 : Value) (h : 154 ≤ a.tmps.size) : (put10 a v1 v2 v3 v4 v5 v6 v7 v10 v11 v14).tmps.getD 85 undef = v14 := by
  unfold put10
  rw [put_at _ _ _ (by (try simp only [put_size]); omega)]
theorem put10_t80 (a : Act) (v1 v2 v3 v4 v5 v6 v7 v10 v11 v14 : Value) : (put10 a v1 v2 v3 v4 v5 v6 v7 v10 v11 v14).tmps.getD 80 undef = a.tmps.getD 80 undef := by
  unfold put10
  rw [put_far _ (s := 85) (t := 80) (by decide), put_far _ (s := 82) (t := 80) (by decide), put_far _ (s := 81) (t := 80) (by decide), put_far _ (s := 78) (t := 80) (by decide), put_far _ (s := 77) (t := 80) (by decide), put_far _ (s := 76) (t := 80) (by decide), put_far _ (s := 75) (t := 80) (by decide), put_far _ (s := 74) (t := 80) (by decide), put_far _ (s := 73) (t := 80) (by decide), put_far _ (s := 72) (t := 80) (by decide)]
theorem put10_t84 (a : Act) (v1 v2 v3 v4 v5 v6 v7 v10 v11 v14 : Value) : (put10 a v1 v2 v3 v4 v5 v6 v7 v10 v11 v14).tmps.getD 84 undef = a.tmps.getD 84 undef := by
  unfold put10
  rw [put_far _ (s := 85) (t := 84) (by decide), put_far _ (s := 82) (t := 84) (by decide), put_far _ (s := 81) (t := 84) (by decide), put_far _ (s := 78) (t := 84) (by decide), put_far _ (s := 77) (t := 84) (by decide), put_far _ (s := 76) (t := 84) (by decide), put_far _ (s := 75) (t := 84) (by decide), put_far _ (s := 74) (t := 84) (by decide), put_far _ (s := 73) (t := 84) (by decide), put_far _ (s := 72) (t := 84) (by decide)]
theorem TJ.start {W0 w : World} {j : Nat} {at_ : Int} {a0 : Act} {D : Array Bool} (hD : D = #[true, false, false, false, false, false, false, false, true, true, false, false, true, true, false, false, false, false]) (hz : 154 ≤ a0.tmps.size) (h80 : a0.tmps.getD 80 undef = .int .u8 j) (h84 : a0.tmps.getD 84 undef = .int .u32 at_) (hx : Ext W0 w) : TJ W0 j at_ a0 D a0 w := by
  refine ⟨false, false, false, false, false, false, false, false, false, false, a0.tmps.getD 72 undef, a0.tmps.getD 73 undef, a0.tmps.getD 74 undef, a0.tmps.getD 75 undef, a0.tmps.getD 76 undef, a0.tmps.getD 77 undef, a0.tmps.getD 78 undef, a0.tmps.getD 81 undef, a0.tmps.getD 82 undef, a0.tmps.getD 85 undef, hD, ?_, hz, h80, h84, hx, ⟨(fun e => by cases e), (fun e => by cases e), (fun e => by cases e), (fun e => by cases e), (fun e => by cases e), (fun e => by cases e), (fun e => by cases e), (fun e => by cases e), (fun e => by cases e), (fun e => by cases e)⟩⟩
  unfold put10
  simp only [put_self]

def finD (D : Array Bool) : Prop := D.getD 11 false = true ∧ D.getD 14 false = true

set_option maxRecDepth 100000 in
set_option maxHeartbeats 8000000 in
theorem law_CmapChooses (A0 : Option Addr) (n0 c0 : Nat) (z0 : List Int) (A1 : Option Addr) (n1 c1 : Nat) (z1 : List Int) (A2 : Option Addr) (n2 c2 : Nat) (z2 : List Int) (code : Int) (w : World) (hR : Rk w) (hr0 : Row w A0 n0 (cellsOf .u8 z0)) (hB0 : Bytes z0) (hn0 : n0 ≤ 9223372036854775807) (hc0 : n0 ≤ c0)
    (hr1 : Row w A1 n1 (cellsOf .u16 z1)) (hW1 : Wf .u16 z1) (hn1 : n1 ≤ 9223372036854775807)
    (hr2 : Row w A2 n2 (cellsOf .u16 z2)) (hW2 : Wf .u16 z2) (hn2 : n2 ≤ 9223372036854775807) (k0 : -2147483648 ≤ code) (k1 : code ≤ 2147483647) :
    Calls Tryd.prog 5 #[.slice A0 n0 c0, .slice A1 n1 c1, .slice A2 n2 c2, .int .i32 code] w (True_ w) := by
  have HAw := Lib.hid (awake11_any w hR)
  have HRk := Lib.hid hR
  clear hR
  go_enter Tryd.func5, Tryd.ntmps5
  go_wp2_with fail
  with_reducible refine HAw.out.mono ?_
  rintro e w0 ⟨rfl, hb0⟩
  have HRi := Lib.hid (rising11_any A1 n1 c1 z1 A2 n2 c2 z2 w0 (hr1.below hb0) hW1 hn1 (hr2.below hb0) hW2 hn2)
  clear hr1 hW1 hn1 hr2 hW2 hn2 HAw
  go_wp2_with fail
  with_reducible refine HRi.out.mono ?_
  rintro e w1 ⟨l, B1, B2, d1, d2, m, rfl, hT, hm40, hPG, hris⟩
  have hb1 := hb0.trans (hT.bel.mono hb0.size)
  have hlen := hT.o1.len
  have hx := hT.o2.row encQ_len
  replace hr0 := hr0.below hb1
  have HokQ : Hid (OkQ5 l) := fun p hp => by
    have a1 := risesF_mem hris p hp
    have a2 := hPG p hp
    omega
  have HBx : Hid (∀ (wd : Bool) W, RowS encQ 2 W B2 m l → ∃ t, Bytes t ∧ t.length ≤ 100000 ∧ 16 ≤ t.length ∧ Calls Tryd.prog 13 #[.slice B2 m d2, .bool wd] W (RetB W (cHd wd ++ t))) := by
    show ∀ (wd : Bool) W, _
    intro wd W h
    obtain ⟨t, e, h1, h2, h3⟩ := tab_right (wd := wd) hPG hris (by omega)
    refine ⟨t, h1, h2, h3, ?_⟩
    have := rbuild11_any B2 m d2 l wd W h (by omega) HokQ.out
    rwa [e] at this
  have HBn : Hid (∀ (wd : Bool) W, ∃ t, Bytes t ∧ t.length ≤ 100000 ∧ 16 ≤ t.length ∧ Calls Tryd.prog 13 #[.slice none 0 0, .bool wd] W (RetB W (cHd wd ++ t))) := by
    show ∀ (wd : Bool) W, _
    intro wd W
    obtain ⟨t, e, h1, h2, h3⟩ := tab_right (l := []) (wd := wd) (fun p hp => by cases hp) rfl (by simp)
    refine ⟨t, h1, h2, h3, ?_⟩
    have := rbuild11_any none 0 0 [] wd W ((OwnS.nil 5 _ 2 W 0).row encQ_len) (by omega) (fun p hp => by cases hp)
    rwa [e] at this
  have Hris := Lib.hid hris
  have HPG := Lib.hid hPG
  clear hT hb0 HRi hris hPG
  obtain ⟨nn, hnn⟩ : ∃ nn : Nat, min (n0 : Int) 6 = nn := ⟨(min (n0 : Int) 6).toNat, by omega⟩
  have hn6 : nn ≤ 6 ∧ nn ≤ n0 := by omega
  have HB2 := Lib.hid (b2_any 0 w1 (by omega) (by omega))
  go_wp2_with fail
  with_reducible refine HB2.out.mono ?_
  rintro e w2 ⟨P1, p1, q1, rfl, hP1, hb2⟩
  have HB2' := Lib.hid (b2_any nn w2 (by omega) (by omega))
  go_wp2_with fail
  with_reducible refine HB2'.out.mono ?_
  rintro e w3 ⟨P2, p2, q2, rfl, hP2, hb3⟩
  have hgt := ((Got.nil w3).put (c := q1) (hP1.row.below hb3)).put (c := q2) hP2.row
  have HJ := Lib.hid (joinN_any w3 _ _ 2 _ rfl rfl rfl hgt (by omega) (by simp [joined, b2]))
  simp only [joined, List.nil_append, List.cons_append, List.flatMap_cons, List.flatMap_nil, List.append_nil, List.map_cons, List.map_nil, BsV.val] at HJ
  have hbb := (hb2.trans (hb3.mono hb2.size))
  replace hx := hx.below hbb
  replace hr0 := hr0.below hbb
  replace hb1 := hb1.trans (hbb.mono hb1.size)
  clear hgt hP1 hP2 HB2 HB2' hb2 hb3 hbb
  go_wp2_with fail
  with_reducible refine HJ.out.mono ?_
  rintro e w4 ⟨Ap, np, cp, rfl, hop, hb4⟩
  have hnp : 4 = np := hop.len
  have hs : ChC w w4 Ap np (b2 0 ++ b2 nn) none 0 [] B2 m l A0 n0 z0 := ⟨hop.row, ⟨rfl, fun h => by simp at h⟩, hx.below hb4, hr0.below hb4, hb1.trans (hb4.mono hb1.size)⟩
  have HBp : Hid (Bytes (b2 0 ++ b2 nn)) := bytes_append (b2_bytes _) (b2_bytes _)
  clear hop HJ hb4 hx hr0 hb1
  generalize b2 0 ++ b2 nn = ps at *
  have hnc : (nn : Int) ≤ (c0 : Int) := by omega
  have hnc' : nn ≤ c0 := by omega
  have HB0 := Lib.hid hB0
  have Hlen0 : Hid (n0 = z0.length) := hs.k.len.symm
  clear hB0 hnn
  go_upto_region 7 with fail
  go_wp2_with fail
  go_loopw [12, 13, 46] (fun p b i wr => ∃ (k : Nat) (Ap : Option Addr) (np cp : Nat) (ps : List Int) (Ab : Option Addr) (nb cb : Nat) (bs : List Int), k ≤ nn ∧ i = .int .i64 k ∧ p = .slice Ap np cp ∧ b = .slice Ab nb cb ∧ np = 4 + 8 * k ∧ nb ≤ 100000 * k ∧ Hid (Bytes ps) ∧ Hid (Bytes bs) ∧ ChC w wr Ap np ps Ab nb bs B2 m l A0 n0 z0) (fun _ _ i _ => nn - (intOf i).toNat)
  case atStart => exact ⟨0, Ap, np, cp, ps, none, 0, 0, [], Nat.zero_le _, rfl, rfl, rfl, by omega, by omega, HBp, Lib.hid (fun x hx => by cases hx), hs⟩
  case round =>
    clear hs HBp hnp
    obtain ⟨k, Ap, np, cp, ps, Ab, nb, cb, bs, hk, rfl, rfl, rfl, rfl, hnb, HBp, HBb, hs⟩ := hrel
    by_cases hlt : k < nn
    · obtain ⟨y, hy⟩ := getP (l := z0) (j := k) (by have := Hlen0.out; omega)
      obtain ⟨g, off, rfl, hg, hcy⟩ := hs.k.at (j := k) (u := .int .u8 y) (cellsOf_get hy)
      obtain ⟨y0, y1⟩ : 0 ≤ y ∧ y ≤ 255 := by have := HB0.out y (List.mem_of_getElem? hy); omega
      clear hy
      obtain ⟨j, hj⟩ : ∃ j : Nat, y % 6 = (j : Int) := ⟨(y % 6).toNat, by omega⟩
      have F6 : IntKind.u8.wrap (y.tmod 6) = (j : Int) := by
        rw [← hj]
        rw [Int.tmod_eq_emod_of_nonneg (by omega)]
        exact IntWalk.u8_in _ (by omega)
      have F2 : IntKind.i64.wrap ((k : Int).tmod 2) = (k : Int) % 2 := by
        rw [Int.tmod_eq_emod_of_nonneg (by omega)]
        exact IntWalk.i64_in _ (by omega)
      obtain ⟨t, ht, htl, htL, HB⟩ := HBx.out (decide ((j : Int) < 2)) wr hs.x
      have HBt := Lib.hid HB
      clear HB
      go_upto_region 10 with fail
      go_wp2_with fail
      with_reducible refine HBt.out.mono ?_
      rintro e w5 ⟨At, nt, ct, rfl, hot, hb5⟩
      have hlt5 := hot.len
      rw [List.length_append, cHd_len] at hlt5
      have hct := hot.cap
      rcases hot.shape with ⟨_, _, h0, _⟩ | ⟨gt, cur, rfl, hgt, _⟩
      · omega
      obtain ⟨tn, rfl⟩ : ∃ tn, nt = tn + 12 := ⟨nt - 12, by omega⟩
      obtain ⟨tc, rfl⟩ : ∃ tc, ct = tc + 12 := ⟨ct - 12, by omega⟩
      have hrt : Row w5 (some ⟨gt, 12, none⟩) tn (cellsOf .u8 t) := by
        have h := hot.row.drop 12
        rw [cellsOf_drop, cHd_drop] at h
        simpa [Addr.add_lit] using h
      have hs5 := hs.below hb5
      have htc : ¬ tc = 0 := by omega
      have htc' : ¬ tc < 0 := by omega
      clear hs hot HBt hb5 hgt
      rcases (show (k : Int) % 2 = 0 ∨ (k : Int) % 2 = 1 by omega) with hodd | hodd
      case' inl =>
        have eo : ((k : Int) % 2 == 1) = false := by simp [hodd]
        clear hodd
        have hsN := hs5
        clear hs5
        go_upto_region 13 with fail
      case' inr =>
        have eo : ((k : Int) % 2 == 1) = true := by simp [hodd]
        clear hodd hrt htl htL ht hlt5
        obtain ⟨t, ht, htl, htL, HB'⟩ := HBn.out (decide ((j : Int) < 2)) w5
        have HBt' := Lib.hid HB'
        clear HB'
        go_wp2_with fail
        with_reducible refine HBt'.out.mono ?_
        clear htc htc' hct HBt'
        rintro e w5 ⟨At, nt, ct, rfl, hot, hb6⟩
        have hlt5 := hot.len
        rw [List.length_append, cHd_len] at hlt5
        have hct := hot.cap
        rcases hot.shape with ⟨_, _, h0, _⟩ | ⟨gt, cur', rfl, hgt', _⟩
        · omega
        obtain ⟨tn, rfl⟩ : ∃ tn, nt = tn + 12 := ⟨nt - 12, by omega⟩
        obtain ⟨tc, rfl⟩ : ∃ tc, ct = tc + 12 := ⟨ct - 12, by omega⟩
        have hrt : Row w5 (some ⟨gt, 12, none⟩) tn (cellsOf .u8 t) := by
          have h := hot.row.drop 12
          rw [cellsOf_drop, cHd_drop] at h
          simpa [Addr.add_lit] using h
        have hsN := hs5.below hb6
        have htc : ¬ tc = 0 := by omega
        have htc' : ¬ tc < 0 := by omega
        clear hs5 hot hb6 hgt'
        go_upto_region 13 with fail
      all_goals
        clear eo htc htc' htL hcy hg F2
        have hj6 : (j : Int) < 6 := by omega
        have hj0 : (0 : Int) ≤ (j : Int) := by omega
        have Fy : y.tmod 6 = (j : Int) := by rw [Int.tmod_eq_emod_of_nonneg (by omega)]; exact hj
        have hlt5' : tn = t.length := by omega
        clear hlt5 hct hlt5'
        have W1 : IntKind.i64.wrap (8 * (nn : Int)) = 8 * (nn : Int) := IntWalk.i64_in _ (by omega)
        have W2 : IntKind.i64.wrap (4 + 8 * (nn : Int)) = 4 + 8 * (nn : Int) := IntWalk.i64_in _ (by omega)
        have W3 : IntKind.i64.wrap (4 + 8 * (nn : Int) + (nb : Int)) = 4 + 8 * (nn : Int) + (nb : Int) := IntWalk.i64_in _ (by omega)
        have W4 : IntKind.u32.wrap (4 + 8 * (nn : Int) + (nb : Int)) = 4 + 8 * (nn : Int) + (nb : Int) := IntWalk.u32_in _ (by omega)
        have HB4 := Lib.hid (fun W => b4_any (4 + 8 * (nn : Int) + (nb : Int)) W (by omega) (by omega))
        generalize hat : 4 + 8 * (nn : Int) + (nb : Int) = at_ at *
        go_upto_region 14 with fail
        have hbd : Below w5.heap.size w5 w5.drew := (Below.refl _ _).drew
        replace hsN := hsN.below hbd
        replace hrt := hrt.below hbd
        clear hbd
        refine reg_start (by kernel_rfl) ?_
        refine reg_take (i := 0) (d := some 71) (v := ?_) rfl rfl (by kernel_rfl) (by kernel_rfl) (by kernel_rfl) (fun _ _ _ h => h) (Or.inl ⟨by rfl, ?_⟩) ?_
        rotate_left
        · intro w' hx; (go_simp <;> with_reducible rfl)
        simp only [Act.put, List.setIfInBounds_toArray, List.set_cons_zero, List.set_cons_succ]
        refine reg_take (i := 8) (d := some 79) (v := ?_) rfl rfl (by kernel_rfl) (by kernel_rfl) (by kernel_rfl) (fun _ _ _ h => h) (Or.inl ⟨by rfl, ?_⟩) ?_
        rotate_left
        · intro w' hx; (go_simp <;> with_reducible rfl)
        simp only [Act.put, List.setIfInBounds_toArray, List.set_cons_zero, List.set_cons_succ]
        refine reg_take (i := 9) (d := some 80) (v := ?_) rfl rfl (by kernel_rfl) (by kernel_rfl) (by kernel_rfl) (fun _ _ _ h => h) (Or.inl ⟨by rfl, ?_⟩) ?_
        rotate_left
        · intro w' hx; (go_simp <;> with_reducible rfl)
        simp only [Act.put, List.setIfInBounds_toArray, List.set_cons_zero, List.set_cons_succ]
        refine reg_take (i := 12) (d := some 83) (v := ?_) rfl rfl (by kernel_rfl) (by kernel_rfl) (by kernel_rfl) (fun _ _ _ h => h) (Or.inl ⟨by rfl, ?_⟩) ?_
        rotate_left
        · intro w' hx; (go_simp <;> with_reducible rfl)
        simp only [Act.put, List.setIfInBounds_toArray, List.set_cons_zero, List.set_cons_succ]
        refine reg_take (i := 13) (d := some 84) (v := ?_) rfl rfl (by kernel_rfl) (by kernel_rfl) (by kernel_rfl) (fun _ _ _ h => h) (Or.inl ⟨by rfl, ?_⟩) ?_
        rotate_left
        · intro w' hx; (go_simp <;> with_reducible rfl)
        simp only [Act.put, List.setIfInBounds_toArray, List.set_cons_zero, List.set_cons_succ]
        have hx0 := Ext.refl w5.drew
        refine reg_inv_two (TJ w5.drew j at_) finD (by kernel_rfl) (TJ.start (by kernel_rfl) (by simp) (by rfl) (by rfl) hx0) (deps_of (by kernel_rfl)) ?_ ?_ ?_
        · rintro D a w0 ⟨bb1, bb2, bb3, bb4, bb5, bb6, bb7, bb10, bb11, bb14, v1, v2, v3, v4, v5, v6, v7, v10, v11, v14, rfl, _⟩
          rfl
        · rintro a1 D a w6 ⟨bb1, bb2, bb3, bb4, bb5, bb6, bb7, bb10, bb11, bb14, v1, v2, v3, v4, v5, v6, v7, v10, v11, v14, rfl, rfl, h154, h80, h84, hx, h⟩ hfin
          clear HBx HBn hsN hrt Hris HPG HokQ HB0 HRk
          refine ⟨⟨17, rfl⟩, fun i hi => ?_⟩
          obtain ⟨hi1, o, ho, hd⟩ := mem_ready.1 hi
          clear hi
          rcases (show i = 0 ∨ i = 1 ∨ i = 2 ∨ i = 3 ∨ i = 4 ∨ i = 5 ∨ i = 6 ∨ i = 7 ∨ i = 8 ∨ i = 9 ∨ i = 10 ∨ i = 11 ∨ i = 12 ∨ i = 13 ∨ i = 14 ∨ i = 15 ∨ i = 16 ∨ i = 17 ∨ 18 ≤ i by omega) with rfl | rfl | rfl | rfl | rfl | rfl | rfl | rfl | rfl | rfl | rfl | rfl | rfl | rfl | rfl | rfl | rfl | rfl | h18
          · cases hi1
          · clear ho hd hi1
            refine wpOp_step rfl ?_
            intro K hK
            have hK := Lib.hid hK
            go_simp
            have hx2 := Ext.alloc w6 (.cells #[.int .u8 0, .int .u8 3, .int .u8 0, .int .u8 10] 5)
            have hh := h.below hx2
            exact hK.out _ _ ⟨hx.trans hx2, ⟨true, bb2, bb3, bb4, bb5, bb6, bb7, bb10, bb11, bb14, .slice (some ⟨w6.heap.size, 0, none⟩) 4 4, v2, v3, v4, v5, v6, v7, v10, v11, v14, rfl, put10_p1 _ _ _ _ _ _ _ _ _ _ _ _, h154, h80, h84, hx.trans hx2, ⟨fun _ => ⟨_, _, _, rfl, row_vals w6 5 (cellsOf .u8 [0, 3, 0, 10]) 4 rfl⟩, hh.f2, hh.f3, hh.f4, hh.f5, hh.f6, fun e => ⟨⟨rfl, (hh.f7 e).1.2.1, (hh.f7 e).1.2.2.1, (hh.f7 e).1.2.2.2.1, (hh.f7 e).1.2.2.2.2.1, (hh.f7 e).1.2.2.2.2.2⟩, (hh.f7 e).2⟩, hh.f10, hh.f11, hh.f14⟩⟩⟩
          · clear ho hd hi1
            refine wpOp_step rfl ?_
            intro K hK
            have hK := Lib.hid hK
            go_simp
            have hx2 := Ext.alloc w6 (.cells #[.int .u8 0, .int .u8 0, .int .u8 0, .int .u8 4] 5)
            have hh := h.below hx2
            exact hK.out _ _ ⟨hx.trans hx2, ⟨bb1, true, bb3, bb4, bb5, bb6, bb7, bb10, bb11, bb14, v1, .slice (some ⟨w6.heap.size, 0, none⟩) 4 4, v3, v4, v5, v6, v7, v10, v11, v14, rfl, put10_p2 _ _ _ _ _ _ _ _ _ _ _ _, h154, h80, h84, hx.trans hx2, ⟨hh.f1, fun _ => ⟨_, _, _, rfl, row_vals w6 5 (cellsOf .u8 [0, 0, 0, 4]) 4 rfl⟩, hh.f3, hh.f4, hh.f5, hh.f6, fun e => ⟨⟨(hh.f7 e).1.1, rfl, (hh.f7 e).1.2.2.1, (hh.f7 e).1.2.2.2.1, (hh.f7 e).1.2.2.2.2.1, (hh.f7 e).1.2.2.2.2.2⟩, (hh.f7 e).2⟩, hh.f10, hh.f11, hh.f14⟩⟩⟩
          · clear ho hd hi1
            refine wpOp_step rfl ?_
            intro K hK
            have hK := Lib.hid hK
            go_simp
            have hx2 := Ext.alloc w6 (.cells #[.int .u8 0, .int .u8 3, .int .u8 0, .int .u8 1] 5)
            have hh := h.below hx2
            exact hK.out _ _ ⟨hx.trans hx2, ⟨bb1, bb2, true, bb4, bb5, bb6, bb7, bb10, bb11, bb14, v1, v2, .slice (some ⟨w6.heap.size, 0, none⟩) 4 4, v4, v5, v6, v7, v10, v11, v14, rfl, put10_p3 _ _ _ _ _ _ _ _ _ _ _ _, h154, h80, h84, hx.trans hx2, ⟨hh.f1, hh.f2, fun _ => ⟨_, _, _, rfl, row_vals w6 5 (cellsOf .u8 [0, 3, 0, 1]) 4 rfl⟩, hh.f4, hh.f5, hh.f6, fun e => ⟨⟨(hh.f7 e).1.1, (hh.f7 e).1.2.1, rfl, (hh.f7 e).1.2.2.2.1, (hh.f7 e).1.2.2.2.2.1, (hh.f7 e).1.2.2.2.2.2⟩, (hh.f7 e).2⟩, hh.f10, hh.f11, hh.f14⟩⟩⟩
          · clear ho hd hi1
            refine wpOp_step rfl ?_
            intro K hK
            have hK := Lib.hid hK
            go_simp
            have hx2 := Ext.alloc w6 (.cells #[.int .u8 0, .int .u8 0, .int .u8 0, .int .u8 3] 5)
            have hh := h.below hx2
            exact hK.out _ _ ⟨hx.trans hx2, ⟨bb1, bb2, bb3, true, bb5, bb6, bb7, bb10, bb11, bb14, v1, v2, v3, .slice (some ⟨w6.heap.size, 0, none⟩) 4 4, v5, v6, v7, v10, v11, v14, rfl, put10_p4 _ _ _ _ _ _ _ _ _ _ _ _, h154, h80, h84, hx.trans hx2, ⟨hh.f1, hh.f2, hh.f3, fun _ => ⟨_, _, _, rfl, row_vals w6 5 (cellsOf .u8 [0, 0, 0, 3]) 4 rfl⟩, hh.f5, hh.f6, fun e => ⟨⟨(hh.f7 e).1.1, (hh.f7 e).1.2.1, (hh.f7 e).1.2.2.1, rfl, (hh.f7 e).1.2.2.2.2.1, (hh.f7 e).1.2.2.2.2.2⟩, (hh.f7 e).2⟩, hh.f10, hh.f11, hh.f14⟩⟩⟩
          · clear ho hd hi1
            refine wpOp_step rfl ?_
            intro K hK
            have hK := Lib.hid hK
            go_simp
            have hx2 := Ext.alloc w6 (.cells #[.int .u8 0, .int .u8 1, .int .u8 0, .int .u8 0] 5)
            have hh := h.below hx2
            exact hK.out _ _ ⟨hx.trans hx2, ⟨bb1, bb2, bb3, bb4, true, bb6, bb7, bb10, bb11, bb14, v1, v2, v3, v4, .slice (some ⟨w6.heap.size, 0, none⟩) 4 4, v6, v7, v10, v11, v14, rfl, put10_p5 _ _ _ _ _ _ _ _ _ _ _ _, h154, h80, h84, hx.trans hx2, ⟨hh.f1, hh.f2, hh.f3, hh.f4, fun _ => ⟨_, _, _, rfl, row_vals w6 5 (cellsOf .u8 [0, 1, 0, 0]) 4 rfl⟩, hh.f6, fun e => ⟨⟨(hh.f7 e).1.1, (hh.f7 e).1.2.1, (hh.f7 e).1.2.2.1, (hh.f7 e).1.2.2.2.1, rfl, (hh.f7 e).1.2.2.2.2.2⟩, (hh.f7 e).2⟩, hh.f10, hh.f11, hh.f14⟩⟩⟩
          · clear ho hd hi1
            refine wpOp_step rfl ?_
            intro K hK
            have hK := Lib.hid hK
            go_simp
            have hx2 := Ext.alloc w6 (.cells #[.int .u8 0, .int .u8 3, .int .u8 0, .int .u8 0] 5)
            have hh := h.below hx2
            exact hK.out _ _ ⟨hx.trans hx2, ⟨bb1, bb2, bb3, bb4, bb5, true, bb7, bb10, bb11, bb14, v1, v2, v3, v4, v5, .slice (some ⟨w6.heap.size, 0, none⟩) 4 4, v7, v10, v11, v14, rfl, put10_p6 _ _ _ _ _ _ _ _ _ _ _ _, h154, h80, h84, hx.trans hx2, ⟨hh.f1, hh.f2, hh.f3, hh.f4, hh.f5, fun _ => ⟨_, _, _, rfl, row_vals w6 5 (cellsOf .u8 [0, 3, 0, 0]) 4 rfl⟩, fun e => ⟨⟨(hh.f7 e).1.1, (hh.f7 e).1.2.1, (hh.f7 e).1.2.2.1, (hh.f7 e).1.2.2.2.1, (hh.f7 e).1.2.2.2.2.1, rfl⟩, (hh.f7 e).2⟩, hh.f10, hh.f11, hh.f14⟩⟩⟩
          · obtain rfl := Option.some.inj ho
            have d1 : bb1 = true := hd ⟨1, .data⟩ (by simp) rfl
            have d2 : bb2 = true := hd ⟨2, .data⟩ (by simp) rfl
            have d3 : bb3 = true := hd ⟨3, .data⟩ (by simp) rfl
            have d4 : bb4 = true := hd ⟨4, .data⟩ (by simp) rfl
            have d5 : bb5 = true := hd ⟨5, .data⟩ (by simp) rfl
            have d6 : bb6 = true := hd ⟨6, .data⟩ (by simp) rfl
            clear hd ho hi1
            have g1 := put10_g1 a1 v1 v2 v3 v4 v5 v6 v7 v10 v11 v14 h154
            have g2 := put10_g2 a1 v1 v2 v3 v4 v5 v6 v7 v10 v11 v14 h154
            have g3 := put10_g3 a1 v1 v2 v3 v4 v5 v6 v7 v10 v11 v14 h154
            have g4 := put10_g4 a1 v1 v2 v3 v4 v5 v6 v7 v10 v11 v14 h154
            have g5 := put10_g5 a1 v1 v2 v3 v4 v5 v6 v7 v10 v11 v14 h154
            have g6 := put10_g6 a1 v1 v2 v3 v4 v5 v6 v7 v10 v11 v14 h154
            obtain ⟨ax1, nx1, cx1, rfl, r1⟩ := h.f1 d1
            obtain ⟨ax2, nx2, cx2, rfl, r2⟩ := h.f2 d2
            obtain ⟨ax3, nx3, cx3, rfl, r3⟩ := h.f3 d3
            obtain ⟨ax4, nx4, cx4, rfl, r4⟩ := h.f4 d4
            obtain ⟨ax5, nx5, cx5, rfl, r5⟩ := h.f5 d5
            obtain ⟨ax6, nx6, cx6, rfl, r6⟩ := h.f6 d6
            refine wpOp_step rfl ?_
            intro K hK
            have hK := Lib.hid hK
            generalize hAct : put10 a1 (.slice ax1 nx1 cx1) (.slice ax2 nx2 cx2) (.slice ax3 nx3 cx3) (.slice ax4 nx4 cx4) (.slice ax5 nx5 cx5) (.slice ax6 nx6 cx6) v7 v10 v11 v14 = aa at g1 g2 g3 g4 g5 g6 ⊢
            rw [Array.getD_eq_getD_getElem?] at g1 g2 g3 g4 g5 g6
            go_simp
            clear g1 g2 g3 g4 g5 g6
            subst hAct
            have hx2 := Ext.alloc w6 (.cells #[.slice ax1 nx1 cx1, .slice ax2 nx2 cx2, .slice ax3 nx3 cx3, .slice ax4 nx4 cx4, .slice ax5 nx5 cx5, .slice ax6 nx6 cx6] 28)
            have hh := h.below hx2
            have hcell : ∃ u, (w6.alloc (.cells #[.slice ax1 nx1 cx1, .slice ax2 nx2 cx2, .slice ax3 nx3 cx3, .slice ax4 nx4 cx4, .slice ax5 nx5 cx5, .slice ax6 nx6 cx6] 28)).cell? ⟨w6.heap.size, j, none⟩ = some u ∧ Lit (w6.alloc (.cells #[.slice ax1 nx1 cx1, .slice ax2 nx2 cx2, .slice ax3 nx3 cx3, .slice ax4 nx4 cx4, .slice ax5 nx5 cx5, .slice ax6 nx6 cx6] 28)) u (kdR j) := by
              rcases (show j = 0 ∨ j = 1 ∨ j = 2 ∨ j = 3 ∨ j = 4 ∨ j = 5 by omega) with rfl | rfl | rfl | rfl | rfl | rfl
              · exact ⟨_, cell_of_row _ _ 0 _ _ _ (heap_alloc_new w6 _), ax1, nx1, cx1, rfl, Row.below r1 hx2⟩
              · exact ⟨_, cell_of_row _ _ 1 _ _ _ (heap_alloc_new w6 _), ax2, nx2, cx2, rfl, Row.below r2 hx2⟩
              · exact ⟨_, cell_of_row _ _ 2 _ _ _ (heap_alloc_new w6 _), ax3, nx3, cx3, rfl, Row.below r3 hx2⟩
              · exact ⟨_, cell_of_row _ _ 3 _ _ _ (heap_alloc_new w6 _), ax4, nx4, cx4, rfl, Row.below r4 hx2⟩
              · exact ⟨_, cell_of_row _ _ 4 _ _ _ (heap_alloc_new w6 _), ax5, nx5, cx5, rfl, Row.below r5 hx2⟩
              · exact ⟨_, cell_of_row _ _ 5 _ _ _ (heap_alloc_new w6 _), ax6, nx6, cx6, rfl, Row.below r6 hx2⟩
            exact hK.out _ _ ⟨hx.trans hx2, ⟨bb1, bb2, bb3, bb4, bb5, bb6, true, bb10, bb11, bb14, _, _, _, _, _, _, .slice (some ⟨w6.heap.size, 0, none⟩) 6 6, v10, v11, v14, rfl, put10_p7 _ _ _ _ _ _ _ _ _ _ _ _, h154, h80, h84, hx.trans hx2, ⟨hh.f1, hh.f2, hh.f3, hh.f4, hh.f5, hh.f6, fun _ => ⟨⟨d1, d2, d3, d4, d5, d6⟩, _, rfl, hcell⟩, fun e => ⟨rfl, (hh.f10 e).2⟩, hh.f11, hh.f14⟩⟩⟩
          · cases hi1
          · cases hi1
          · obtain rfl := Option.some.inj ho
            have d7 : bb7 = true := hd ⟨7, .data⟩ (by simp) rfl
            clear hd ho hi1
            have e78 := put10_g7 a1 v1 v2 v3 v4 v5 v6 v7 v10 v11 v14 h154
            have e80 := put10_t80 a1 v1 v2 v3 v4 v5 v6 v7 v10 v11 v14
            rw [h80] at e80
            obtain ⟨q7, g7, rfl, u7, hc7, l7⟩ := h.f7 d7
            refine wpOp_step rfl ?_
            intro K hK
            have hK := Lib.hid hK
            go_simp
            have hx2 := Ext.refl w6
            have hh := h
            exact hK.out _ _ ⟨hx.trans hx2, ⟨bb1, bb2, bb3, bb4, bb5, bb6, bb7, true, bb11, bb14, v1, v2, v3, v4, v5, v6, _, .pointer (some ⟨g7, j, none⟩), v11, v14, rfl, put10_p10 _ _ _ _ _ _ _ _ _ _ _ _, h154, h80, h84, hx.trans hx2, ⟨hh.f1, hh.f2, hh.f3, hh.f4, hh.f5, hh.f6, hh.f7, fun _ => ⟨d7, _, u7, rfl, hc7, l7⟩, fun e => ⟨rfl, (hh.f11 e).2⟩, hh.f14⟩⟩⟩
          · obtain rfl := Option.some.inj ho
            have d10 : bb10 = true := hd ⟨10, .data⟩ (by simp) rfl
            clear hd ho hi1
            have e81 := put10_g10 a1 v1 v2 v3 v4 v5 v6 v7 v10 v11 v14 h154
            obtain ⟨q10, ad, u, rfl, hc10, a10, n10, c10, rfl, r10⟩ := h.f10 d10
            refine wpOp_step rfl ?_
            intro K hK
            have hK := Lib.hid hK
            go_simp
            have hx2 := Ext.refl w6
            have hh := h
            exact hK.out _ _ ⟨hx.trans hx2, ⟨bb1, bb2, bb3, bb4, bb5, bb6, bb7, bb10, true, bb14, v1, v2, v3, v4, v5, v6, v7, _, .slice a10 n10 c10, v14, rfl, put10_p11 _ _ _ _ _ _ _ _ _ _ _ _, h154, h80, h84, hx.trans hx2, ⟨hh.f1, hh.f2, hh.f3, hh.f4, hh.f5, hh.f6, hh.f7, hh.f10, fun _ => ⟨d10, a10, n10, c10, rfl, r10⟩, hh.f14⟩⟩⟩
          · cases hi1
          · cases hi1
          · clear ho hd hi1
            have e84 := put10_t84 a1 v1 v2 v3 v4 v5 v6 v7 v10 v11 v14
            rw [h84] at e84
            refine wpOp_step rfl ?_
            intro K hK
            have hK := Lib.hid hK
            go_simp
            go_wp2_with (go_at_call 21; (with_reducible refine (HB4.out _).mono ?_); rintro e w7 ⟨a14, n14, c14, rfl, ho14, hx2⟩)
            have hh := h.below hx2
            exact ⟨hx.trans hx2, ⟨bb1, bb2, bb3, bb4, bb5, bb6, bb7, bb10, bb11, true, v1, v2, v3, v4, v5, v6, v7, v10, v11, .slice a14 n14 c14, rfl, put10_p14 a1 v1 v2 v3 v4 v5 v6 v7 v10 v11 v14 _, h154, h80, h84, hx.trans hx2, ⟨hh.f1, hh.f2, hh.f3, hh.f4, hh.f5, hh.f6, hh.f7, hh.f10, hh.f11, fun _ => ⟨a14, n14, c14, rfl, ho14.row⟩⟩⟩⟩
          · obtain rfl := Option.some.inj ho
            exact absurd ⟨hd ⟨11, .data⟩ (by simp) rfl, hd ⟨14, .data⟩ (by simp) rfl⟩ hfin
          · obtain rfl := Option.some.inj ho
            exact absurd (show false = true from hd ⟨15, .data⟩ (by simp) rfl) (by simp)
          · obtain rfl := Option.some.inj ho
            exact absurd (show false = true from hd ⟨16, .data⟩ (by simp) rfl) (by simp)
          · rw [Array.getD_eq_getD_getElem?, Array.getElem?_eq_none (by simpa using h18)] at hi1
            cases hi1
        · rintro D a w6 ⟨bb1, bb2, bb3, bb4, bb5, bb6, bb7, bb10, bb11, bb14, v1, v2, v3, v4, v5, v6, v7, v10, v11, v14, rfl, rfl, h154, h80, h84, hx, h⟩ hfin
          obtain ⟨rfl, rfl⟩ : bb11 = true ∧ bb14 = true := hfin
          obtain ⟨rfl, x11⟩ := h.f11 rfl
          obtain ⟨rfl, _⟩ := h.f10 rfl
          obtain ⟨⟨rfl, rfl, rfl, rfl, rfl, rfl⟩, _⟩ := h.f7 rfl
          obtain ⟨E1, en1, ec1, rfl, rE1⟩ := x11
          obtain ⟨E2, en2, ec2, rfl, rE2⟩ := h.f14 rfl
          have hsM := hsN.below hx
          have hrM := hrt.below hx
          clear h h80 h84 h154 hsN hrt HB4 hx0
          have hgt := (((Got.nil w6).put (c := cp) hsM.p).put (c := ec1) rE1).put (c := ec2) rE2
          have hA := Ext.alloc w6 (.cells #[.slice Ap (4 + 8 * k) cp, .slice E1 en1 ec1, .slice E2 en2 ec2] 28)
          have hl1 := hsM.p.len
          have hl2 := rE1.len
          have hl3 : 4 = en2 := rE2.len
          have hl4 : (b4 at_).length = 4 := rfl
          rw [kdR_len] at hl2
          subst hl2 hl3
          have HJ := Lib.hid (join_any (some ⟨w6.heap.size, 0, none⟩) 3 3 _ _ (row_vals w6 28 _ 3 rfl) (fun p hp => Row.below (hgt p hp) hA) (by omega) (by simp only [joined, List.nil_append, List.cons_append, List.flatMap_cons, List.flatMap_nil, List.append_nil, List.length_append, kdR_len, hl1, hl4]; omega))
          simp only [joined, List.nil_append, List.cons_append, List.flatMap_cons, List.flatMap_nil, List.append_nil, List.map_cons, List.map_nil, BsV.val] at HJ
          simp only [put10, Act.put, List.setIfInBounds_toArray, List.set_cons_zero, List.set_cons_succ]
          refine held_mono (S2 := Ext w6) (fun _ hy => hx.trans hy) _ _ _ _ ?_
          clear hx hgt rE1 rE2 hl4
          show wpAnyH _ _ _ _ _ 3 _ _ _
          refine reg_one 15 _ (by kernel_rfl) rfl ?_
          intro K hK
          go_simp
          refine hK.out _ _ hA ?_
          clear hK K
          try simp only [List.setIfInBounds_toArray, List.set_cons_zero, List.set_cons_succ]
          refine reg_one 16 _ (by kernel_rfl) rfl ?_
          intro K hK
          go_simp
          go_wp2_with (go_at_call 19; (with_reducible refine HJ.out.mono ?_); rintro e w7 ⟨Ap', np', cp', rfl, hop, hbJ⟩)
          refine hK.out _ _ hbJ ?_
          clear hK K
          try simp only [List.setIfInBounds_toArray, List.set_cons_zero, List.set_cons_succ]
          refine reg_take (i := 17) (d := some 12) (v := ?_) rfl rfl (by kernel_rfl) (by kernel_rfl) (by kernel_rfl) (fun _ _ _ h => h) (Or.inl ⟨by rfl, ?_⟩) ?_
          rotate_left
          · intro w' hx; (go_simp <;> with_reducible rfl)
          simp only [Act.put, List.setIfInBounds_toArray, List.set_cons_zero, List.set_cons_succ]
          refine wpAnyH_done (by kernel_rfl) ?_ _
          have hnp' := hop.len
          simp only [List.length_append, hl1, kdR_len, show (b4 at_).length = 4 from rfl] at hnp'
          have hbM := hA.trans hbJ
          have hsQ := hsM.below hbM
          have hrQ := hrM.below hbM
          have hpQ := hop.row
          have HBp' : Hid (Bytes (ps ++ (kdR j ++ b4 at_))) := bytes_append HBp.out (bytes_append (kdR_bytes j) (b4_bytes at_))
          have hgt := ((Got.nil w7).put (c := cb) hsQ.b).put (c := tc) hrQ
          have hlb := hsQ.b.len
          have htn := hrQ.len
          have HJ2 := Lib.hid (joinN_any w7 _ _ 2 _ rfl rfl rfl hgt (by omega) (by simp only [joined, List.nil_append, List.cons_append, List.flatMap_cons, List.flatMap_nil, List.append_nil, List.length_append]; omega))
          simp only [joined, List.nil_append, List.cons_append, List.flatMap_cons, List.flatMap_nil, List.append_nil, List.map_cons, List.map_nil, BsV.val] at HJ2
          clear HJ hA hbJ hop hbM hsM hrM hrQ hgt HBp
          generalize ps ++ (kdR j ++ b4 at_) = psN at *
          go_wp2_with fail
          with_reducible refine HJ2.out.mono ?_
          rintro e w8 ⟨Ab', nb', cb', rfl, hob, hb8⟩
          have hnb' := hob.len
          rw [List.length_append] at hnb'
          have hsR : ChC w w8 Ap' np' psN Ab' nb' (bs ++ t) B2 m l (some ⟨g, off, none⟩) n0 z0 := ⟨hpQ.below hb8, hob.row, hsQ.x.below hb8, hsQ.k.below hb8, hsQ.bel.trans (hb8.mono hsQ.bel.size)⟩
          have HBb' : Hid (Bytes (bs ++ t)) := bytes_append HBb.out ht
          clear HJ2 hob hb8 hpQ hsQ HBb
          go_wp2
          go_roundw
          case rel => exact ⟨k + 1, Ap', np', cp', psN, Ab', nb', cb', bs ++ t, by omega, by go_num, rfl, rfl, by omega, by omega, HBp', HBb', hsR⟩
          case measure => simp [intOf]; omega
    · have hgt := ((Got.nil wr).put (c := cp) hs.p).put (c := cb) hs.b
      have hl1 := hs.p.len
      have hl2 := hs.b.len
      have HJ := Lib.hid (joinN_any wr _ _ 2 _ rfl rfl rfl hgt (by omega) (by simp only [joined, List.nil_append, List.cons_append, List.flatMap_cons, List.flatMap_nil, List.append_nil, List.length_append]; omega))
      simp only [joined, List.nil_append, List.cons_append, List.flatMap_cons, List.flatMap_nil, List.append_nil, List.map_cons, List.map_nil, BsV.val] at HJ
      have HBa : Hid (Bytes (ps ++ bs)) := bytes_append HBp.out HBb.out
      have hln : (ps ++ bs).length ≤ 700000 := by rw [List.length_append]; omega
      clear hgt HBp HBb HBx HBn hl1 hl2
      generalize ps ++ bs = zs at *
      go_wp2_with fail
      with_reducible refine HJ.out.mono ?_
      rintro e w5 ⟨Ac, nc, cc, rfl, hown, hb1'⟩
      have hl : nc ≤ 700000 := by have := hown.len; omega
      have hrow := hown.row
      have hcap := hown.cap
      have hxx := hs.x.below hb1'
      have hb1 := hs.bel.trans (hb1'.mono hs.bel.size)
      have HP := Lib.hid (cparse_any Ac nc cc zs w5 hrow HBa.out (by omega) hcap (HRk.out.below hb1))
      clear hs hb1' hown HJ hln HB0 Hlen0 HRk Hris HPG
      go_wp2_with fail
      with_reducible refine HP.out.mono ?_
      rintro e w6 ⟨hb2, ⟨hf, rfl⟩ | ⟨wd, v, hf, A6, c6, g6, rfl, hm⟩⟩
      · have hal : Below w6.heap.size w6 (w6.alloc (.cells #[.bool false, .slice none 0 0, .slice none 0 0] 37)) := (Below.refl _ _).alloc (Nat.le_refl _) _
        have HFd := Lib.hid (rfind_any Ac nc cc zs _ ((hrow.below hb2).below hal) HBa.out (by omega) hcap)
        have hbw := hb1.trans (hb2.mono hb1.size)
        have hbA := hbw.trans (hal.mono hbw.size)
        clear HP hb2 hb1 hrow hal hbw hxx
        unfold cmV0
        go_wp2_with fail
        with_reducible refine HFd.out.mono ?_
        rintro e w7 ⟨hb3, As, ns, cs, wd, N, ok, rfl, hok, _⟩
        rw [hf] at hok
        replace hok : ok = false := hok
        subst hok
        have hbel := hbA.trans (hb3.mono hbA.size)
        clear hb3 hbA HFd hf
        go_wp2
        go_ret
        exact ⟨rfl, hbel⟩
      · obtain ⟨X1, xm1, xd1, X2, xm2, xd2, he⟩ := cmV_three wd A6 (cCnt wd (zs.drop v)) c6
        have hs := BoxC.new w6 (hb1.trans (hb2.mono hb1.size)) hm he
        have hal : Below w6.heap.size w6 (w6.alloc (.cells #[.bool wd, .slice X1 xm1 xd1, .slice X2 xm2 xd2] 37)) := (Below.refl _ _).alloc (Nat.le_refl _) _
        have HFd := Lib.hid (rfind_any Ac nc cc zs _ ((hrow.below hb2).below hal) HBa.out (by omega) hcap)
        replace hxx := (hxx.below hb2).below hal
        rw [he]
        clear HP hb2 hb1 hrow hal hm he
        go_wp2_with fail
        with_reducible refine HFd.out.mono ?_
        rintro e w7 ⟨hb3, As, ns, cs, wd', N, ok, rfl, hok, hfd⟩
        obtain ⟨rfl, rfl, hrt, hns1, hns2⟩ := hfd wd v hf
        rw [hf] at hok
        replace hok : ok = true := hok
        subst hok
        have hBt : Bytes (zs.drop v) := drop_bytes HBa.out _
        have hsx : LXC w w7 w6.heap.size wd' X1 xm1 xd1 X2 xm2 xd2 (zs.drop v) A6 c6 g6 As ns B2 m l := ⟨hs.below hb3, hrt, hxx.below hb3⟩
        clear hb3 HFd hf hfd hs hrt hxx HBa
        generalize zs.drop v = t at *
        generalize w6.heap.size = bx at *
        have HBt := Lib.hid hBt
        clear hBt
        have HWd := Lib.hid (fun W => cwide_of wd' X1 xm1 xd1 X2 xm2 xd2 W)
        have HLk : Hid (∀ (W : World) (code : Int), LXC w W bx wd' X1 xm1 xd1 X2 xm2 xd2 t A6 c6 g6 As ns B2 m l → -2147483648 ≤ code → code ≤ 2147483647 → Calls Tryd.prog 15 #[.agg #[.bool wd', .slice X1 xm1 xd1, .slice X2 xm2 xd2], .int .i32 code] W (Ret W (.int .u16 (cLook wd' t code)))) := fun W code h a b => h.b.look code _ rfl a b
        have HRl : Hid (∀ (W : World) (code : Int), LXC w W bx wd' X1 xm1 xd1 X2 xm2 xd2 t A6 c6 g6 As ns B2 m l → -2147483648 ≤ code → code ≤ 2147483647 → Calls Tryd.prog 18 #[.slice As ns cs, .bool wd', .int .i64 (cCnt wd' t), .int .i64 code] W (Ret W (.int .i64 (cLook wd' t code)))) := fun W code h a b => rlook11_any wd' t A6 g6 As ns cs code W h.b.map h.row HBt.out (by omega) a b
        have Hlen := Lib.hid hlen
        generalize cCnt wd' t = N at *
        go_upto_region 22 with fail
        go_wp2_with fail
        go_loopw [115] (fun i wr => ∃ k : Nat, k ≤ m ∧ i = .int .i64 k ∧ LXC w wr bx wd' X1 xm1 xd1 X2 xm2 xd2 t A6 c6 g6 As ns B2 m l) (fun i _ => m - (intOf i).toNat)
        case atStart => exact ⟨0, Nat.zero_le _, rfl, hsx⟩
        case round =>
          clear hsx hlt hk hnb
          obtain ⟨k, hk, rfl, hs⟩ := hrel
          by_cases hlt : k < m
          · obtain ⟨y, hy⟩ := getP (l := l) (j := k) (by have := Hlen.out; omega)
            obtain ⟨gq, oq, rfl, hgq, q0, q1⟩ := atQC hs.x hy
            have hyk := HokQ.out y (List.mem_of_getElem? hy)
            obtain ⟨v0, v1⟩ := cLook_lt wd' t y.code
            clear hy
            have hA := (Below.refl wr.heap.size wr).alloc (Nat.le_refl _) (.cells #[.int .i64 y.code, .int .i64 y.glyph] 60)
            replace hs := hs.below hA
            have z0 : (wr.alloc (.cells #[.int .i64 y.code, .int .i64 y.glyph] 60)).cell? ⟨wr.heap.size, 0, none⟩ = some (.int .i64 y.code) := cell_of_row _ _ 0 _ _ _ (heap_alloc_new wr _)
            obtain ⟨xb0, xb1, xb2⟩ := hs.b.cells
            have HC : Hid (∀ n os, Calls Tryd.prog 15 #[.agg #[.bool wd', .slice X1 xm1 xd1, .slice X2 xm2 xd2], .int .i32 y.code] (gw (wr.alloc (.cells #[.int .i64 y.code, .int .i64 y.glyph] 60)) n os) (Ret (gw (wr.alloc (.cells #[.int .i64 y.code, .int .i64 y.glyph] 60)) n os) (.int .u16 (cLook wd' t y.code)))) := by
              show ∀ _ _, _
              intro n os
              exact HLk.out _ y.code (hs.below (gw_below _ n os)) (by omega) (by omega)
            have HD : Hid (∀ n os, Calls Tryd.prog 18 #[.slice As ns cs, .bool wd', .int .i64 N, .int .i64 y.code] (gw (wr.alloc (.cells #[.int .i64 y.code, .int .i64 y.glyph] 60)) n os) (Ret (gw (wr.alloc (.cells #[.int .i64 y.code, .int .i64 y.glyph] 60)) n os) (.int .i64 (cLook wd' t y.code)))) := by
              show ∀ _ _, _
              intro n os
              exact HRl.out _ y.code (hs.below (gw_below _ n os)) (by omega) (by omega)
            clear hA
            generalize cLook wd' t y.code = cv at *
            obtain ⟨yc, yg⟩ := y
            simp only at *
            have eg : (cv != cv) = false := by simp
            have Wc : IntKind.i32.wrap yc = yc := IntWalk.i32_in _ (by omega)
            have Wv : IntKind.i64.wrap cv = cv := IntWalk.i64_in _ (by omega)
            go_upto_region 25 with fail
            generalize wr.alloc (.cells #[.int .i64 yc, .int .i64 yg] 60) = V at *
            generalize wr.heap.size = bz at *
            have Z0 := gw_cell z0
            have XB0 := gw_cell xb0
            have XB1 := gw_cell xb1
            have XB2 := gw_cell xb2
            refine region_below (by kernel_rfl) (by kernel_rfl) ?_
            repeat (first | go_big_quiet_step (first | (go_at_call 15; with_reducible exact calls_gw (HC.out _ _)) | (go_at_call 18; with_reducible exact calls_gw (HD.out _ _))) | quiet_step (first | (go_at_call 15; with_reducible exact calls_gw (HC.out _ _)) | (go_at_call 18; with_reducible exact calls_gw (HD.out _ _))))
            refine wpQuiet_nil ?_
            rintro _ ⟨z, rfl⟩
            replace hs := hs.below (gw_below V z.n z.os)
            clear Z0 XB0 XB1 XB2 HC HD z0 xb0 xb1 xb2 q0 q1
            generalize gw V z.n z.os = U at *
            go_wp2
            go_roundw
            case rel => exact ⟨k + 1, by omega, by go_num, hs⟩
            case measure => simp [intOf]; omega
          · go_upto_region 28 with fail
            obtain ⟨p0, p1, p2⟩ := hs.b.cells
            obtain ⟨v0, v1⟩ := cLook_lt wd' t code
            have HLc := Lib.hid (fun W h => HLk.out W code h k0 k1)
            have HRc := Lib.hid (fun W h => HRl.out W code h k0 k1)
            generalize cLook wd' t code = cv at *
            have eN : (wd' == wd') = true := by simp
            have ev : (cv == cv) = true := by simp
            have Wv : IntKind.i64.wrap cv = cv := IntWalk.i64_in _ (by omega)
            have Wc : IntKind.i64.wrap code = code := IntWalk.i64_in _ (by omega)
            clear HLk HRl
            go_wp2_with (first
              | (go_at_call 14; (with_reducible refine (HWd.out _).mono ?_); rintro e wn ⟨rfl, hbn⟩; replace hs := hs.below hbn; replace p0 := belowCellC hbn p0; replace p1 := belowCellC hbn p1; replace p2 := belowCellC hbn p2; clear hbn)
              | (go_at_call 15; (with_reducible refine (HLc.out _ hs).mono ?_); rintro e wn ⟨rfl, hbn⟩; replace hs := hs.below hbn; replace p0 := belowCellC hbn p0; replace p1 := belowCellC hbn p1; replace p2 := belowCellC hbn p2; clear hbn)
              | (go_at_call 18; (with_reducible refine (HRc.out _ hs).mono ?_); rintro e wn ⟨rfl, hbn⟩; replace hs := hs.below hbn; replace p0 := belowCellC hbn p0; replace p1 := belowCellC hbn p1; replace p2 := belowCellC hbn p2; clear hbn))
            go_ret
            exact ⟨rfl, hs.b.bel⟩

end Go.Proofs.YthkaeimpflggjaaDoor

namespace Go.Proofs.YthkaeimpflggjaaDoor.cmapChooses
open Go.ChangeShapes Go.WideShapes Go.ChangeAt Go.RowKit
open Go.ChangeMaps (open_string shut_string)
set_option linter.unusedVariables false

theorem own : ownKnob Tryd.prog.godebug = none := by kernel_rfl
theorem laidOut : laidOutB Tryd.prog = true := by kernel_rfl

set_option maxRecDepth 100000 in
theorem lifted (os : Os) (started : os.Started) (H : Type) (enc : TypeId × Value → H) :
    ReturnsInHanded {} Tryd.checked os 5 .any (fun w args => (Rows.cmapChoosesSpec.pre enc Tryd.prog Tryd.f5 [] false w args ∧ laidMetH Tryd.prog laid11 w) ∧ sizedMet enc Tryd.prog Tryd.f5 (OpenSpec.ofChange Rows.cmapChoosesSpec) false w args) (Rows.cmapChoosesSpec.post enc Tryd.prog Tryd.f5 false true false false) := by
  refine returnsInHanded_of_change_and (C := Tryd.checked) (X := fun w _ => laidMetH Tryd.prog laid11 w) (fun _ _ _ hh h => h.of_heap hh) own started (by kernel_rfl) Tryd.func5
    (ChangeSpec.witness_shaped (enc := enc) (C := Tryd.checked) (os := os) (X := fun w _ => laidMetH Tryd.prog laid11 w) false (World.doorLaid Tryd.prog 400 os) #[.slice none 0 0, .slice none 0 0, .slice none 0 0, .int .i32 0] 8 rfl (World.shaped_of_RefB (by kernel_rfl) (by kernel_rfl)) (by kernel_rfl) (by kernel_rfl) (by kernel_rfl) (door_met os _)) ?_
  intro W base args ds gs before hval0 hW _ _ hL _
  have hval : ∀ (j : Nat) t v, Tryd.f5.params[j]? = some t → args[j]? = some v → Value.okWide Tryd.prog W .any base t v := hval0
  have hW' := hW
  obtain ⟨p, q, hA0, hV, rfl, hfz, hnd⟩ := hW
  have hA : DataW.TrodAll enc Tryd.prog W 0 (fun _ => true) true Tryd.f5.params.toList args.toList ds p := hA0
  rw [Tryd.params5] at hA hval
  obtain ⟨v0, vs0, d0, ds0, p0, q0, hargs, rfl, rfl, h0, r0⟩ := trodAll_cons hA
  obtain ⟨v1, vs1, d1, ds1, p1, q1, rfl, rfl, rfl, h1, r1⟩ := trodAll_cons r0
  obtain ⟨v2, vs2, d2, ds2, p2, q2, rfl, rfl, rfl, h2, r2⟩ := trodAll_cons r1
  obtain ⟨v3, vs3, d3, ds3, p3, q3, rfl, rfl, rfl, h3, r3⟩ := trodAll_cons r2
  obtain ⟨rfl, rfl, rfl⟩ := trodAll_nil r3
  obtain rfl : args = #[v0, v1, v2, v3] := by cases args; simp_all
  obtain ⟨rfl, rfl⟩ := trodVars_none hV
  have k0 := h0
  have lt0 : ∀ x ∈ p0, x.block < W.heap.size := by obtain ⟨m, hm⟩ := k0; exact DataW.trod_lt m _ _ _ hm
  have k1 := h1
  have lt1 : ∀ x ∈ p1, x.block < W.heap.size := by obtain ⟨m, hm⟩ := k1; exact DataW.trod_lt m _ _ _ hm
  have k2 := h2
  have lt2 : ∀ x ∈ p2, x.block < W.heap.size := by obtain ⟨m, hm⟩ := k2; exact DataW.trod_lt m _ _ _ hm
  have k3 := h3
  have lt3 : ∀ x ∈ p3, x.block < W.heap.size := by obtain ⟨m, hm⟩ := k3; exact DataW.trod_lt m _ _ _ hm
  obtain ⟨A0, n0, c0, z0, rfl, hr0, hW0, hn0, hc0⟩ := open_nums Tryd.underlying28 Tryd.underlying5 (by kernel_rfl) (hval 0 28 v0 rfl rfl) k0
  obtain ⟨A1, n1, c1, z1, rfl, hr1, hW1, hn1, hc1⟩ := open_nums Tryd.underlying22 Tryd.underlying43 (by kernel_rfl) (hval 1 22 v1 rfl rfl) k1
  obtain ⟨A2, n2, c2, z2, rfl, hr2, hW2, hn2, hc2⟩ := open_nums Tryd.underlying22 Tryd.underlying43 (by kernel_rfl) (hval 2 22 v2 rfl rfl) k2
  obtain ⟨a3, rfl, rfl, rfl, u3⟩ := open_int Tryd.underlying21 (hval 3 21 v3 rfl rfl) h3
  have w3 := bounds_i32 u3
  clear hA0 hval0
  refine (law_CmapChooses A0 n0 c0 z0 A1 n1 c1 z1 A2 n2 c2 z2 a3 W (rk_of_laid hL) hr0 (bytes_of hW0) hn0 hc0 hr1 hW1 hn1 hr2 hW2 hn2 w3.1 w3.2).mono fun e W' ⟨he, bel⟩ => ?_
  subst he
  exact ⟨_, rfl, _, _, _, [], _, [], hW', trodAll_mk1 (shut_bool Tryd.underlying4 _), (trodAll_cons_mk (Below.trod laidOut (by kernel_rfl) (of_decide_eq_true (by kernel_rfl)) k0 bel lt0) (trodAll_cons_mk (Below.trod laidOut (by kernel_rfl) (of_decide_eq_true (by kernel_rfl)) k1 bel lt1) (trodAll_cons_mk (Below.trod laidOut (by kernel_rfl) (of_decide_eq_true (by kernel_rfl)) k2 bel lt2) (trodAll_cons_mk (Below.trod laidOut (by kernel_rfl) (of_decide_eq_true (by kernel_rfl)) k3 bel lt3) trodAll_mk0)))), rfl, bel.frame _, fun h => by cases h⟩

theorem over : Rows.cmapChoosesRow.holds Tryd.pinned (OpenSpec.ofChange Rows.cmapChoosesSpec) :=
  OpenClaim.holds_of_wide 5 Tryd.f5 rfl rfl rfl rfl rfl rfl rfl ⟨rfl, rfl, rfl, rfl, rfl⟩ rfl rfl rfl rfl rfl (by kernel_rfl) Tryd.func5 (by kernel_rfl)
    (of_decide_eq_true (by kernel_rfl)) (by unfold Func.isWrapper; first | (rw [if_pos (by decide +kernel)]; kernel_rfl) | (rw [if_neg (by decide +kernel)]; exact ⟨rfl, rfl⟩))
    (fun os started H enc _ => lifted os started H enc)

theorem proved : Rows.CmapChoosesCardSaid :=
  Claim7.holds_tied_plain_at .later [] [.data] true (true, "119a8445e3fae058f8e7519dbe92c3553ac8939fb292280d2234ce8111bcb548") false
    over (fun _ h => by cases h) (by kernel_rfl) (fun _ h => by cases h) cmapChooses_row_tie rfl ⟨rfl, rfl⟩ (by kernel_rfl) rfl
    (fun f fn hf hfn => by
      obtain rfl : f = 5 := Option.some.inj ((show Tryd.prog.funcNamed "punchcut/punchcutlaw11.CmapChooses" = some 5 by kernel_rfl).symm.trans hf) |>.symm
      obtain rfl : fn = Tryd.f5 := (Option.some.inj (Tryd.func5.symm.trans hfn)).symm
      exact ⟨by kernel_rfl, fun j t ht => by
        rw [Tryd.params5] at ht
        have hm : t ∈ [28, 22, 22, 21] := by simpa using Array.mem_of_getElem? ht
        have hall : ([28, 22, 22, 21].all fun u => !Tryd.prog.wantsStandIn u) = true := by kernel_rfl
        exact (show Tryd.prog.wantsStandIn t = false by simpa using List.all_eq_true.1 hall t hm)⟩)
    (by kernel_rfl)
#print axioms proved
end Go.Proofs.YthkaeimpflggjaaDoor.cmapChooses
