/- What the laws of this seat lean on: RegF RegT ComA ComA2 ComA3 SimA. -/
import Derived.StillTail
import Derived.Deep.DeepCutAuto
import Derived.Deep.RegionHeld3
import Derived.Deep.QuietTactic
import Derived.BigQuiet
import Derived.Test.YtdaeffnaoeblpaaBase1
import Derived.Test.YtdaeffnaoeblpaaBase2

/- A region that draws its order, in which what lay at its start is never turned: whatever yields its value in every world that goes on from the start is taken first. -/
namespace Go.Proofs.Ytdaeffnaoeblpaa
open Go.RowKit
set_option linter.unusedVariables false
theorem Ext.set {w0 w : World} (h : Ext w0 w) {b : Nat} (hb : w0.heap.size ≤ b) (o : Nat) (v : Value) : Ext w0 (w.setCell ⟨b, o, none⟩ v) := Below.setCell (p := ⟨b, o, none⟩) h hb v
theorem Ext.new {w0 w : World} (h : Ext w0 w) (o : Obj) : Ext w0 (w.alloc o) := Below.alloc h (Below.size h) o
theorem Ext.call {w0 w w' : World} (h : Ext w0 w) (hb : Below w.heap.size w w') : Ext w0 w' := h.trans hb

section
variable {P : Program} {ops : Array Oper} {Q : Exit → Act → World → Prop} {md : Region.Mode} {w0 : World}

theorem regF_start {id : Nat} {a : Act} {w : World} (hm : P.follows .mixedOrders = true) (h : wpAnyH P .any ops Q (Ext w.drew) ops.size (Array.replicate ops.size false) a w.drew) : (Code.region id ops true).wp P Q a w := wp_region_held hm h

theorem regF_take {i : Nat} {d : Option Tmp} {oi : Oper} {v : Value} {fuel : Nat} {listed : Array Bool} {a : Act} {w : World} (hx : Ext w0 w) (hi : ops[i]? = some oi) (hd : oi.dst = d) (hs : Region.noSelect ops = true) (hf : Region.free md ops listed i = true) (hr : (Region.ready md ops listed).contains i = true)
    (hQ : ∀ c a w, Q (.panic c) (a.put oi.dst v) w → Q (.panic c) a w) (hy : YieldsIf P ops (Ext w0) oi v a) (h : wpAnyH P md ops Q (Ext w0) fuel (listed.setIfInBounds i true) (a.put d v) w) : wpAnyH P md ops Q (Ext w0) (fuel + 1) listed a w := by
  subst hd
  exact wpAnyH_take hi hs hf hr hQ hy hx h

/-- One of those that may come up. -/
def OneF (P : Program) (md : Region.Mode) (ops : Array Oper) (Q : Exit → Act → World → Prop) (w0 : World) (fuel : Nat) (listed : Array Bool) (a : Act) (w : World) (i : Nat) (o : Oper) : Prop :=
  ∀ K : Act → World → Prop, Shut (∀ a' w', Ext w0 w' → wpAnyH P md ops Q (Ext w0) fuel (listed.setIfInBounds i true) a' w' → K a' w') → if Region.wanted o (yielded ops a.tmps) = true then Oper.wp P o a w K Q else K (a.put o.dst undef) w

theorem oneF_op {fuel : Nat} {listed : Array Bool} {a : Act} {w : World} {i : Nat} {o : Oper} (ho : ops[i]? = some o) (h : OneF P md ops Q w0 fuel listed a w i o) : wpOp P ops Q i (fun a' w' => Ext w0 w' ∧ wpAnyH P md ops Q (Ext w0) fuel (listed.setIfInBounds i true) a' w') a w :=
  wpOp_step ho fun K hK => h K fun a' w' hx hw => hK a' w' ⟨hx, hw⟩

theorem regF_one {fuel : Nat} {listed : Array Bool} {a : Act} {w : World} (i : Nat) (o : Oper) (hr : Region.ready md ops listed = [i]) (ho : ops[i]? = some o) (h : OneF P md ops Q w0 fuel listed a w i o) : wpAnyH P md ops Q (Ext w0) (fuel + 1) listed a w :=
  wpAnyH_all hr (by simp) fun j hj => by simp at hj; subst hj; exact oneF_op ho h

theorem regF_two {fuel : Nat} {listed : Array Bool} {a : Act} {w : World} (i j : Nat) (o p : Oper) (hr : Region.ready md ops listed = [i, j]) (ho : ops[i]? = some o) (hp : ops[j]? = some p) (h : OneF P md ops Q w0 fuel listed a w i o) (k : OneF P md ops Q w0 fuel listed a w j p) : wpAnyH P md ops Q (Ext w0) (fuel + 1) listed a w :=
  wpAnyH_all hr (by simp) fun q hq => by
    simp at hq
    rcases hq with rfl | rfl
    · exact oneF_op ho h
    · exact oneF_op hp k
end

/-- append, where an operation of a drawn region comes up. -/
theorem step_append_row {P : Program} {w : World} {ops : Array Oper} {o : Oper} {a : Act} {K : Act → World → Prop} {Q : Exit → Act → World → Prop} {E : Prop} (hgd : o.guard = none) (s x : Operand) (T : TypeId)
    (ho : o.op = .call { callee := .builtin .append, args := #[s, x], argTypes := #[T, T] }) (t : TypeId) (k : IntKind)
    (base : Nat) (i : TypeInfo) (b : Nat) (ht : P.underlying T = some (.slice t)) (hi : P.info? t = some i) (hz : i.zero = some (.int k 0)) (hs : i.size = 1) (hby : i.bytes = b)
    (A : Option Addr) (n c : Nat) (zs : List Int) (hes : a.eval s = .slice A n c) (hown : Own t k w base A n c zs) (A' : Option Addr) (n' c' : Nat) (ys : List Int) (hex : a.eval x = .slice A' n' c') (hr : Row w A' n' (cellsOf k ys))
    (hb : (n + n') * b ≤ 140737488355328) (hm : n + n' ≤ 140737488355328) (hbase : base ≤ w.heap.size)
    (h : ∀ A2 c2 w', Own t k w' base A2 (n + n') c2 (zs ++ ys) → w.grownBy w' (blockOf A) → K (a.put o.dst (.slice A2 (n + n') c2)) w') : if Region.wanted o (yielded ops a.tmps) = true then Oper.wp P o a w K Q else E := by
  have hw : Region.wanted o (yielded ops a.tmps) = true := by simp [Region.wanted, hgd]
  rw [if_pos hw]
  obtain ⟨A2, c2, w', hrun, h2, h3⟩ := run_append_row (P := P) w t k base T o.type i b ht hi hz hs hby A n c zs hown A' n' c' ys hr hb hm hbase
  unfold Oper.wp execOp
  simp only [ho, resolve, invoke, builtin, Sem.run_bind, Sem.run_pure, Result.andThen_ok, List.map_toArray, List.map_cons, List.map_nil, hes, hex, hrun]
  exact h A2 c2 w' h2 h3

/-- Seven cells, one by one. -/
def sets7 (w : World) (b : Nat) (v0 v1 v2 v3 v4 v5 v6 : Value) : World := ((((((w.setCell ⟨b, 0, none⟩ v0).setCell ⟨b, 1, none⟩ v1).setCell ⟨b, 2, none⟩ v2).setCell ⟨b, 3, none⟩ v3).setCell ⟨b, 4, none⟩ v4).setCell ⟨b, 5, none⟩ v5).setCell ⟨b, 6, none⟩ v6
section
variable {w : World} {b t : Nat} {z0 z1 z2 z3 z4 z5 z6 : Value} (v0 v1 v2 v3 v4 v5 v6 : Value)
theorem sets7_block (h : w.heap[b]? = some (.cells #[z0, z1, z2, z3, z4, z5, z6] t (0, 0))) : (sets7 w b v0 v1 v2 v3 v4 v5 v6).heap[b]? = some (.cells #[v0, v1, v2, v3, v4, v5, v6] t (0, 0)) :=
  by
  have h0 : (w.setCell ⟨b, 0, none⟩ v0).heap[b]? = some (.cells #[v0, z1, z2, z3, z4, z5, z6] t (0, 0)) := (set_block h 0 v0).trans (by simp)
  have h1 : ((w.setCell ⟨b, 0, none⟩ v0).setCell ⟨b, 1, none⟩ v1).heap[b]? = some (.cells #[v0, v1, z2, z3, z4, z5, z6] t (0, 0)) := (set_block h0 1 v1).trans (by simp)
  have h2 : (((w.setCell ⟨b, 0, none⟩ v0).setCell ⟨b, 1, none⟩ v1).setCell ⟨b, 2, none⟩ v2).heap[b]? = some (.cells #[v0, v1, v2, z3, z4, z5, z6] t (0, 0)) := (set_block h1 2 v2).trans (by simp)
  have h3 := (set_block h2 3 v3)
  have h4 := (set_block h3 4 v4)
  have h5 := (set_block h4 5 v5)
  have h6 := (set_block h5 6 v6)
  rw [show (((((#[v0, v1, v2, z3, z4, z5, z6].setIfInBounds 3 v3).setIfInBounds 4 v4).setIfInBounds 5 v5).setIfInBounds 6 v6)) = #[v0, v1, v2, v3, v4, v5, v6] by simp] at h6
  exact h6
theorem sets7_far {g : Nat} (h : g ≠ b) : (sets7 w b v0 v1 v2 v3 v4 v5 v6).heap[g]? = w.heap[g]? := by
  unfold sets7
  refine (Below.heap_setCell _ _ _ _ h).trans ((Below.heap_setCell _ _ _ _ h).trans ((Below.heap_setCell _ _ _ _ h).trans ((Below.heap_setCell _ _ _ _ h).trans ((Below.heap_setCell _ _ _ _ h).trans ((Below.heap_setCell _ _ _ _ h).trans (Below.heap_setCell _ _ _ _ h))))))
theorem sets7_below {B : Nat} {u : World} (h : Below B u w) (hb : B ≤ b) : Below B u (sets7 w b v0 v1 v2 v3 v4 v5 v6) :=
  ((((((h.setCell (p := ⟨b, 0, none⟩) hb v0).setCell (p := ⟨b, 1, none⟩) hb v1).setCell (p := ⟨b, 2, none⟩) hb v2).setCell (p := ⟨b, 3, none⟩) hb v3).setCell (p := ⟨b, 4, none⟩) hb v4).setCell (p := ⟨b, 5, none⟩) hb v5).setCell (p := ⟨b, 6, none⟩) hb v6
end
end Go.Proofs.Ytdaeffnaoeblpaa

/- A region that draws its order and ends in operations that wait for all the rest (stores): what is kept is asked only of those ahead of the end. -/
namespace Go.Proofs.Ytdaeffnaoeblpaa
open Go.RowKit
set_option linter.unusedVariables false

section
variable {P : Program} {ops : Array Oper} {Q : Exit → Act → World → Prop} {md : Region.Mode} {S : World → Prop} {T : Nat}

/-- Whichever comes up; behind one of the first T the world still meets S. -/
def anyT (P : Program) (md : Region.Mode) (ops : Array Oper) (Q : Exit → Act → World → Prop) (S : World → Prop) (T : Nat) : Nat → Array Bool → Act → World → Prop
  | 0, D, a, w => Region.ready md ops D = [] ∧ Q .normal a w
  | n + 1, D, a, w => (Region.ready md ops D = [] → Q .normal a w) ∧
    ∀ j ∈ Region.ready md ops D, wpOp P ops Q j (fun b u => (j < T → S u) ∧ anyT P md ops Q S T n (D.setIfInBounds j true) b u) a w

theorem anyT_plain : ∀ (n : Nat) (D : Array Bool) (a : Act) (w : World), anyT P md ops Q S T n D a w → wpAny P md ops Q n D a w
  | 0, _, _, _, h => h
  | n + 1, _, _, _, h => ⟨h.1, fun j hj => wpOp_mono (fun _ _ k => anyT_plain n _ _ _ k.2) (h.2 j hj)⟩

theorem regT_start {id : Nat} {a : Act} {w : World} (T : Nat) (S : World → Prop) (hm : P.follows .mixedOrders = true) (h : anyT P .any ops Q S T ops.size (Array.replicate ops.size false) a w.drew) : (Code.region id ops true).wp P Q a w := wp_region_any hm (anyT_plain _ _ _ _ h)

/-- One waits for another, by a way of waits. -/
def pathB (md : Region.Mode) (ops : Array Oper) (i : Nat) : List Nat → Nat → Bool
  | [], j => Region.waitsFor md ops j i
  | k :: ks, j => Region.waitsFor md ops j k && pathB md ops i ks k
/-- The end waits for i. -/
def endWaits (md : Region.Mode) (ops : Array Oper) (T i : Nat) (ks : List Nat) : Bool := (List.range ops.size).all fun j => decide (j < T) || Region.waitsFor md ops j i || pathB md ops i ks j
/-- Nothing of the end has come up, and whatever has come up had what it waits for. -/
def headB (md : Region.Mode) (ops : Array Oper) (T : Nat) (D : Array Bool) : Bool :=
  decide (D.size = ops.size) && (List.range ops.size).all fun j => (decide (j < T) || !(D.getD j true)) && (!(D.getD j false) || (((ops[j]?).map fun o => o.after.all fun e => !(Region.binds md e) || D.getD e.on false).getD true))
theorem headB_inv {D : Array Bool} (h : headB md ops T D = true) : HeadInv md ops T D := by
  unfold headB at h
  simp only [Bool.and_eq_true, decide_eq_true_eq, List.all_eq_true, List.mem_range] at h
  obtain ⟨h1, h2⟩ := h
  refine ⟨h1, ?_, ?_⟩
  · intro j o ho hD e he hb
    have hj := (Array.getElem?_eq_some_iff.1 ho).1
    have h3 := (h2 j hj).2
    rw [ho, hD] at h3
    simp only [Bool.not_true, Bool.false_or, Option.map_some, Option.getD_some, Array.all_eq_true_iff_forall_mem] at h3
    have h4 := h3 e he
    rw [hb] at h4
    simpa using h4
  · intro t ht htn
    have h3 := (h2 t htn).1
    rw [decide_eq_false (by omega)] at h3
    simpa using h3
theorem path_listed {D : Array Bool} (inv : HeadInv md ops T D) {i : Nat} : ∀ (ks : List Nat) (j : Nat) (p : Oper), ops[j]? = some p → (∀ e ∈ p.after, Region.binds md e = true → D.getD e.on false = true) → pathB md ops i ks j = true → D.getD i false = true
  | [], j, p, hp, hd, h => by
    obtain ⟨p', hp', e, he, hb, hei⟩ := Region.waitsFor_spec h
    rw [hp] at hp'
    cases hp'
    exact hei ▸ hd e he hb
  | k :: ks, j, p, hp, hd, h => by
    simp only [pathB, Bool.and_eq_true] at h
    obtain ⟨p', hp', e, he, hb, hei⟩ := Region.waitsFor_spec h.1
    rw [hp] at hp'
    cases hp'
    have hk : D.getD k false = true := hei ▸ hd e he hb
    have hks : k < ops.size := by
      rw [← inv.size]
      rcases Nat.lt_or_ge k D.size with h' | h'
      · exact h'
      · simp [Array.getElem?_eq_none h'] at hk
    exact path_listed inv ks k (ops[k]) (Array.getElem?_eq_getElem hks) (fun e he hb => inv.closed k _ (Array.getElem?_eq_getElem hks) hk e he hb) h.2

theorem anyT_first {i : Nat} {o : Oper} {v : Value} {ks : List Nat} (hi : ops[i]? = some o) (hsel : ∀ (j : Nat) (p : Oper) cs b, ops[j]? = some p → p.op ≠ .select cs b) (hQ : ∀ c a w, Q (.panic c) (a.put o.dst v) w → Q (.panic c) a w) (hT : endWaits md ops T i ks = true) (hiT : i < T) :
    ∀ (n : Nat) (D : Array Bool) (a : Act) (w : World), HeadInv md ops T D →
      (∀ j p, ops[j]? = some p → j ≠ i → D.getD j true = false → (∀ e ∈ p.after, Region.binds md e = true → e.on ≠ i) → o.apart ops p = true) →
      i ∈ Region.ready md ops D → YieldsIf P ops S o v a → S w → anyT P md ops Q S T n (D.setIfInBounds i true) (a.put o.dst v) w → anyT P md ops Q S T (n + 1) D a w := by
  intro n
  induction n with
  | zero =>
    intro D a w _ _ hr hy hS H
    constructor
    · intro h; rw [h] at hr; cases hr
    · intro j hj
      by_cases hji : j = i
      · subst hji
        exact hy.wpOp hi hS ⟨fun _ => hS, H⟩
      · have hm := ready_mono hj hji
        rw [H.1] at hm
        cases hm
  | succ n ih =>
    intro D a w inv hf hr hy hS H
    constructor
    · intro h; rw [h] at hr; cases hr
    · intro j hj
      by_cases hji : j = i
      · subst hji
        exact hy.wpOp hi hS ⟨fun _ => hS, H⟩
      · obtain ⟨hju, p, hp, hd⟩ := mem_ready.1 hj
        have hiu := getD_both (mem_ready.1 hr).1
        have hno : ∀ e ∈ p.after, Region.binds md e = true → e.on ≠ i := by
          intro e he hb hei
          have h1 := hd e he hb
          rw [hei, hiu] at h1
          cases h1
        have hjT : j < T := by
          have hjs : j < ops.size := (Array.getElem?_eq_some_iff.1 hp).1
          have h1 := List.all_eq_true.1 hT j (List.mem_range.2 hjs)
          simp only [Bool.or_eq_true, decide_eq_true_eq] at h1
          rcases h1 with (h1 | h1) | h1
          · exact h1
          · have h2 := path_listed inv [] j p hp hd h1
            rw [hiu] at h2
            cases h2
          · have h2 := path_listed inv ks j p hp hd h1
            rw [hiu] at h2
            cases h2
        have h2 := wpOp_putIf hp (hf j p hp hji hju hno) (fun cs b => hsel i o cs b hi) (fun cs b => hsel j p cs b hp) hQ hy (H.2 j (ready_mono hj hji))
        refine wpOp_mono (fun b u h3 => ⟨fun _ => h3.2.1 hjT, ?_⟩) h2
        refine ih _ b u (inv.set hj hjT) ?_ (ready_mono hr (Ne.symm hji)) h3.1 (h3.2.1 hjT) ?_
        · intro k q hk hki hku hq
          refine hf k q hk hki ?_ hq
          by_cases hjk : j = k
          · exact hjk ▸ hju
          · rwa [getD_set_ne true hjk] at hku
        · rw [Array.setIfInBounds_comm _ _ hji]
          exact h3.2.2

theorem regT_take {i : Nat} {d : Option Tmp} {o : Oper} {v : Value} {n : Nat} {D : Array Bool} {a : Act} {w : World} (ks : List Nat) (hS : S w) (hi : ops[i]? = some o) (hd : o.dst = d) (hs : Region.noSelect ops = true) (hf : Region.free md ops D i = true) (hr : (Region.ready md ops D).contains i = true) (hT : endWaits md ops T i ks = true) (hI : headB md ops T D = true) (hiT : i < T)
    (hQ : ∀ c a w, Q (.panic c) (a.put o.dst v) w → Q (.panic c) a w) (hy : YieldsIf P ops S o v a) (h : anyT P md ops Q S T n (D.setIfInBounds i true) (a.put d v) w) : anyT P md ops Q S T (n + 1) D a w := by
  subst hd
  exact anyT_first hi (Region.noSelect_spec hs) hQ hT hiT n D a w (headB_inv hI) (Region.free_spec hi hf) (by simpa using hr) hy hS h

/-- One of those that may come up. -/
def OneT (P : Program) (md : Region.Mode) (ops : Array Oper) (Q : Exit → Act → World → Prop) (S : World → Prop) (T : Nat) (n : Nat) (D : Array Bool) (a : Act) (w : World) (i : Nat) (o : Oper) : Prop :=
  ∀ K : Act → World → Prop, Shut (∀ b u, (i < T → S u) → anyT P md ops Q S T n (D.setIfInBounds i true) b u → K b u) → if Region.wanted o (yielded ops a.tmps) = true then Oper.wp P o a w K Q else K (a.put o.dst undef) w

theorem oneT_op {n : Nat} {D : Array Bool} {a : Act} {w : World} {i : Nat} {o : Oper} (ho : ops[i]? = some o) (h : OneT P md ops Q S T n D a w i o) : wpOp P ops Q i (fun b u => (i < T → S u) ∧ anyT P md ops Q S T n (D.setIfInBounds i true) b u) a w :=
  wpOp_step ho fun K hK => h K fun b u hx hw => hK b u ⟨hx, hw⟩

theorem regT_all {rs : List Nat} {n : Nat} {D : Array Bool} {a : Act} {w : World} (hr : Region.ready md ops D = rs) (hne : rs ≠ []) (h : ∀ i ∈ rs, ∃ o, ops[i]? = some o ∧ OneT P md ops Q S T n D a w i o) : anyT P md ops Q S T (n + 1) D a w :=
  ⟨fun h0 => absurd (hr ▸ h0) hne, fun i hi => by
    rw [hr] at hi
    obtain ⟨o, ho, h1⟩ := h i hi
    exact oneT_op ho h1⟩
theorem regT_one {n : Nat} {D : Array Bool} {a : Act} {w : World} (i : Nat) (o : Oper) (hr : Region.ready md ops D = [i]) (ho : ops[i]? = some o) (h : OneT P md ops Q S T n D a w i o) : anyT P md ops Q S T (n + 1) D a w :=
  regT_all hr (by simp) fun j hj => by simp at hj; subst hj; exact ⟨o, ho, h⟩
theorem regT_two {n : Nat} {D : Array Bool} {a : Act} {w : World} (i j : Nat) (o p : Oper) (hr : Region.ready md ops D = [i, j]) (ho : ops[i]? = some o) (hp : ops[j]? = some p) (h : OneT P md ops Q S T n D a w i o) (k : OneT P md ops Q S T n D a w j p) : anyT P md ops Q S T (n + 1) D a w :=
  regT_all hr (by simp) fun q hq => by
    simp at hq
    rcases hq with rfl | rfl
    · exact ⟨o, ho, h⟩
    · exact ⟨p, hp, k⟩
theorem regT_three {n : Nat} {D : Array Bool} {a : Act} {w : World} (i j l : Nat) (o p r : Oper) (hr : Region.ready md ops D = [i, j, l]) (ho : ops[i]? = some o) (hp : ops[j]? = some p) (hl : ops[l]? = some r) (h : OneT P md ops Q S T n D a w i o) (k : OneT P md ops Q S T n D a w j p) (m : OneT P md ops Q S T n D a w l r) : anyT P md ops Q S T (n + 1) D a w :=
  regT_all hr (by simp) fun q hq => by
    simp at hq
    rcases hq with rfl | rfl | rfl
    · exact ⟨o, ho, h⟩
    · exact ⟨p, hp, k⟩
    · exact ⟨r, hl, m⟩
theorem regT_done {D : Array Bool} {a : Act} {w : World} (hr : Region.ready md ops D = []) (h : Q .normal a w) : ∀ n, anyT P md ops Q S T n D a w
  | 0 => ⟨hr, h⟩
  | n + 1 => ⟨fun _ => h, fun j hj => by rw [hr] at hj; cases hj⟩
end
end Go.Proofs.Ytdaeffnaoeblpaa

/- compo: which parts may be: contracts over this seat's translation. -/
namespace Go.Proofs.Ytdaeffnaoeblpaa
open Go.RowKit
set_option linter.unusedVariables false
set_option linter.unusedSimpArgs false

def Pt.cells (p : Pt) : Array Value := #[.int .u16 p.f, .int .u16 p.i, .int .i16 p.x, .int .i16 p.y, .int .i16 p.xx, .int .i16 p.xy, .int .i16 p.yx, .int .i16 p.yy]
def Pt.val (p : Pt) : Value := .agg p.cells
theorem cells8 {w : World} {b : Nat} {t : TypeId} {x0 x1 x2 x3 x4 x5 x6 x7 : Value} (h : w.heap[b]? = some (.cells #[x0, x1, x2, x3, x4, x5, x6, x7] t (0, 0))) :
    w.cell? ⟨b, 0, none⟩ = some x0 ∧ w.cell? ⟨b, 1, none⟩ = some x1 ∧ w.cell? ⟨b, 2, none⟩ = some x2 ∧ w.cell? ⟨b, 3, none⟩ = some x3 ∧ w.cell? ⟨b, 4, none⟩ = some x4 ∧ w.cell? ⟨b, 5, none⟩ = some x5 ∧ w.cell? ⟨b, 6, none⟩ = some x6 ∧ w.cell? ⟨b, 7, none⟩ = some x7 :=
  ⟨cell_of_row _ _ 0 _ _ _ h, cell_of_row _ _ 1 _ _ _ h, cell_of_row _ _ 2 _ _ _ h, cell_of_row _ _ 3 _ _ _ h, cell_of_row _ _ 4 _ _ _ h, cell_of_row _ _ 5 _ _ _ h, cell_of_row _ _ 6 _ _ _ h, cell_of_row _ _ 7 _ _ _ h⟩

theorem chas_any (p : Pt) (k : Int) (b : Bool) (w : World) (h : (bits .and .u16 p.f k != 0) = b) : Calls Try.prog 112 #[p.val, .int .u16 k] w (Ret w (.bool b)) := by
  have hA := (Below.refl w.heap.size w).alloc (Nat.le_refl _) (.cells p.cells 46)
  unfold Pt.val Pt.cells at *
  obtain ⟨f, i, x, y, xx, xy, yx, yy⟩ := p
  simp only at *
  go_enter Try.func112, Try.ntmps112
  go_wp2
  go_ret
  exact ⟨rfl, hA⟩

theorem cbyte_any (n : Int) (w : World) : Calls Try.prog 153 #[.int .i16 n] w fun e w' => e = .returned (.bool (byteB n)) ∧ w = w' := by
  unfold byteB
  cases h1 : decide (-128 ≤ n) <;> cases h2 : decide (n ≤ 127)
  all_goals
    go_enter Try.func153, Try.ntmps153
    go_wp2
    go_ret
    exact ⟨rfl, rfl⟩

set_option maxRecDepth 100000 in
theorem ones_0 (w : World) : Calls Try.prog 151 #[.int .u16 0] w (Ret w (.int .i64 0)) := by
  have hd : Below w.heap.size w w.drew := (Below.refl _ _).drew
  go_enter Try.func151, Try.ntmps151
  go_upto_region 1 with fail
  have hx0 : Ext w.drew w.drew := Ext.refl _
  refine regT_start 9 (Ext w.drew) (by kernel_rfl) ?_
  refine regT_take (i := 0) (d := some 3) (v := .int .u16 0) [] hx0 rfl rfl (by kernel_rfl) (by kernel_rfl) (by kernel_rfl) (by kernel_rfl) (by kernel_rfl) (by decide) (fun _ _ _ h => h) (Or.inl ⟨by rfl, fun w' hx => by kernel_rfl⟩) ?_
  simp only [Act.put, List.setIfInBounds_toArray, List.set_cons_zero, List.set_cons_succ]
  refine regT_take (i := 1) (d := some 4) (v := .int .u16 0) [] hx0 rfl rfl (by kernel_rfl) (by kernel_rfl) (by kernel_rfl) (by kernel_rfl) (by kernel_rfl) (by decide) (fun _ _ _ h => h) (Or.inl ⟨by rfl, fun w' hx => by kernel_rfl⟩) ?_
  simp only [Act.put, List.setIfInBounds_toArray, List.set_cons_zero, List.set_cons_succ]
  refine regT_take (i := 2) (d := some 5) (v := .int .u8 0) [] hx0 rfl rfl (by kernel_rfl) (by kernel_rfl) (by kernel_rfl) (by kernel_rfl) (by kernel_rfl) (by decide) (fun _ _ _ h => h) (Or.inl ⟨by rfl, fun w' hx => by kernel_rfl⟩) ?_
  simp only [Act.put, List.setIfInBounds_toArray, List.set_cons_zero, List.set_cons_succ]
  refine regT_take (i := 3) (d := some 6) (v := .int .u16 0) [] hx0 rfl rfl (by kernel_rfl) (by kernel_rfl) (by kernel_rfl) (by kernel_rfl) (by kernel_rfl) (by decide) (fun _ _ _ h => h) (Or.inl ⟨by rfl, fun w' hx => by kernel_rfl⟩) ?_
  simp only [Act.put, List.setIfInBounds_toArray, List.set_cons_zero, List.set_cons_succ]
  refine regT_take (i := 4) (d := some 7) (v := .int .u16 0) [] hx0 rfl rfl (by kernel_rfl) (by kernel_rfl) (by kernel_rfl) (by kernel_rfl) (by kernel_rfl) (by decide) (fun _ _ _ h => h) (Or.inl ⟨by rfl, fun w' hx => by kernel_rfl⟩) ?_
  simp only [Act.put, List.setIfInBounds_toArray, List.set_cons_zero, List.set_cons_succ]
  refine regT_take (i := 5) (d := some 8) (v := .int .u8 0) [] hx0 rfl rfl (by kernel_rfl) (by kernel_rfl) (by kernel_rfl) (by kernel_rfl) (by kernel_rfl) (by decide) (fun _ _ _ h => h) (Or.inl ⟨by rfl, fun w' hx => by kernel_rfl⟩) ?_
  simp only [Act.put, List.setIfInBounds_toArray, List.set_cons_zero, List.set_cons_succ]
  refine regT_take (i := 6) (d := some 9) (v := .int .u8 0) [] hx0 rfl rfl (by kernel_rfl) (by kernel_rfl) (by kernel_rfl) (by kernel_rfl) (by kernel_rfl) (by decide) (fun _ _ _ h => h) (Or.inl ⟨by rfl, fun w' hx => by kernel_rfl⟩) ?_
  simp only [Act.put, List.setIfInBounds_toArray, List.set_cons_zero, List.set_cons_succ]
  refine regT_take (i := 7) (d := some 10) (v := .int .i64 0) [] hx0 rfl rfl (by kernel_rfl) (by kernel_rfl) (by kernel_rfl) (by kernel_rfl) (by kernel_rfl) (by decide) (fun _ _ _ h => h) (Or.inl ⟨by rfl, fun w' hx => by kernel_rfl⟩) ?_
  simp only [Act.put, List.setIfInBounds_toArray, List.set_cons_zero, List.set_cons_succ]
  refine regT_take (i := 8) (d := some 2) (v := .int .i64 0) [] hx0 rfl rfl (by kernel_rfl) (by kernel_rfl) (by kernel_rfl) (by kernel_rfl) (by kernel_rfl) (by decide) (fun _ _ _ h => h) (Or.inl ⟨by rfl, fun w' hx => by kernel_rfl⟩) ?_
  simp only [Act.put, List.setIfInBounds_toArray, List.set_cons_zero, List.set_cons_succ]
  refine regT_done (by kernel_rfl) ?_ _
  go_wp2
  go_ret
  exact ⟨rfl, hd⟩

set_option maxRecDepth 100000 in
theorem ones_8 (w : World) : Calls Try.prog 151 #[.int .u16 8] w (Ret w (.int .i64 1)) := by
  have hd : Below w.heap.size w w.drew := (Below.refl _ _).drew
  go_enter Try.func151, Try.ntmps151
  go_upto_region 1 with fail
  have hx0 : Ext w.drew w.drew := Ext.refl _
  refine regT_start 9 (Ext w.drew) (by kernel_rfl) ?_
  refine regT_take (i := 0) (d := some 3) (v := .int .u16 8) [] hx0 rfl rfl (by kernel_rfl) (by kernel_rfl) (by kernel_rfl) (by kernel_rfl) (by kernel_rfl) (by decide) (fun _ _ _ h => h) (Or.inl ⟨by rfl, fun w' hx => by kernel_rfl⟩) ?_
  simp only [Act.put, List.setIfInBounds_toArray, List.set_cons_zero, List.set_cons_succ]
  refine regT_take (i := 1) (d := some 4) (v := .int .u16 0) [] hx0 rfl rfl (by kernel_rfl) (by kernel_rfl) (by kernel_rfl) (by kernel_rfl) (by kernel_rfl) (by decide) (fun _ _ _ h => h) (Or.inl ⟨by rfl, fun w' hx => by kernel_rfl⟩) ?_
  simp only [Act.put, List.setIfInBounds_toArray, List.set_cons_zero, List.set_cons_succ]
  refine regT_take (i := 2) (d := some 5) (v := .int .u8 0) [] hx0 rfl rfl (by kernel_rfl) (by kernel_rfl) (by kernel_rfl) (by kernel_rfl) (by kernel_rfl) (by decide) (fun _ _ _ h => h) (Or.inl ⟨by rfl, fun w' hx => by kernel_rfl⟩) ?_
  simp only [Act.put, List.setIfInBounds_toArray, List.set_cons_zero, List.set_cons_succ]
  refine regT_take (i := 3) (d := some 6) (v := .int .u16 8) [] hx0 rfl rfl (by kernel_rfl) (by kernel_rfl) (by kernel_rfl) (by kernel_rfl) (by kernel_rfl) (by decide) (fun _ _ _ h => h) (Or.inl ⟨by rfl, fun w' hx => by kernel_rfl⟩) ?_
  simp only [Act.put, List.setIfInBounds_toArray, List.set_cons_zero, List.set_cons_succ]
  refine regT_take (i := 4) (d := some 7) (v := .int .u16 8) [] hx0 rfl rfl (by kernel_rfl) (by kernel_rfl) (by kernel_rfl) (by kernel_rfl) (by kernel_rfl) (by decide) (fun _ _ _ h => h) (Or.inl ⟨by rfl, fun w' hx => by kernel_rfl⟩) ?_
  simp only [Act.put, List.setIfInBounds_toArray, List.set_cons_zero, List.set_cons_succ]
  refine regT_take (i := 5) (d := some 8) (v := .int .u8 1) [] hx0 rfl rfl (by kernel_rfl) (by kernel_rfl) (by kernel_rfl) (by kernel_rfl) (by kernel_rfl) (by decide) (fun _ _ _ h => h) (Or.inl ⟨by rfl, fun w' hx => by kernel_rfl⟩) ?_
  simp only [Act.put, List.setIfInBounds_toArray, List.set_cons_zero, List.set_cons_succ]
  refine regT_take (i := 6) (d := some 9) (v := .int .u8 1) [] hx0 rfl rfl (by kernel_rfl) (by kernel_rfl) (by kernel_rfl) (by kernel_rfl) (by kernel_rfl) (by decide) (fun _ _ _ h => h) (Or.inl ⟨by rfl, fun w' hx => by kernel_rfl⟩) ?_
  simp only [Act.put, List.setIfInBounds_toArray, List.set_cons_zero, List.set_cons_succ]
  refine regT_take (i := 7) (d := some 10) (v := .int .i64 1) [] hx0 rfl rfl (by kernel_rfl) (by kernel_rfl) (by kernel_rfl) (by kernel_rfl) (by kernel_rfl) (by decide) (fun _ _ _ h => h) (Or.inl ⟨by rfl, fun w' hx => by kernel_rfl⟩) ?_
  simp only [Act.put, List.setIfInBounds_toArray, List.set_cons_zero, List.set_cons_succ]
  refine regT_take (i := 8) (d := some 2) (v := .int .i64 1) [] hx0 rfl rfl (by kernel_rfl) (by kernel_rfl) (by kernel_rfl) (by kernel_rfl) (by kernel_rfl) (by decide) (fun _ _ _ h => h) (Or.inl ⟨by rfl, fun w' hx => by kernel_rfl⟩) ?_
  simp only [Act.put, List.setIfInBounds_toArray, List.set_cons_zero, List.set_cons_succ]
  refine regT_done (by kernel_rfl) ?_ _
  go_wp2
  go_ret
  exact ⟨rfl, hd⟩

set_option maxRecDepth 100000 in
theorem ones_64 (w : World) : Calls Try.prog 151 #[.int .u16 64] w (Ret w (.int .i64 1)) := by
  have hd : Below w.heap.size w w.drew := (Below.refl _ _).drew
  go_enter Try.func151, Try.ntmps151
  go_upto_region 1 with fail
  have hx0 : Ext w.drew w.drew := Ext.refl _
  refine regT_start 9 (Ext w.drew) (by kernel_rfl) ?_
  refine regT_take (i := 0) (d := some 3) (v := .int .u16 64) [] hx0 rfl rfl (by kernel_rfl) (by kernel_rfl) (by kernel_rfl) (by kernel_rfl) (by kernel_rfl) (by decide) (fun _ _ _ h => h) (Or.inl ⟨by rfl, fun w' hx => by kernel_rfl⟩) ?_
  simp only [Act.put, List.setIfInBounds_toArray, List.set_cons_zero, List.set_cons_succ]
  refine regT_take (i := 1) (d := some 4) (v := .int .u16 0) [] hx0 rfl rfl (by kernel_rfl) (by kernel_rfl) (by kernel_rfl) (by kernel_rfl) (by kernel_rfl) (by decide) (fun _ _ _ h => h) (Or.inl ⟨by rfl, fun w' hx => by kernel_rfl⟩) ?_
  simp only [Act.put, List.setIfInBounds_toArray, List.set_cons_zero, List.set_cons_succ]
  refine regT_take (i := 2) (d := some 5) (v := .int .u8 0) [] hx0 rfl rfl (by kernel_rfl) (by kernel_rfl) (by kernel_rfl) (by kernel_rfl) (by kernel_rfl) (by decide) (fun _ _ _ h => h) (Or.inl ⟨by rfl, fun w' hx => by kernel_rfl⟩) ?_
  simp only [Act.put, List.setIfInBounds_toArray, List.set_cons_zero, List.set_cons_succ]
  refine regT_take (i := 3) (d := some 6) (v := .int .u16 64) [] hx0 rfl rfl (by kernel_rfl) (by kernel_rfl) (by kernel_rfl) (by kernel_rfl) (by kernel_rfl) (by decide) (fun _ _ _ h => h) (Or.inl ⟨by rfl, fun w' hx => by kernel_rfl⟩) ?_
  simp only [Act.put, List.setIfInBounds_toArray, List.set_cons_zero, List.set_cons_succ]
  refine regT_take (i := 4) (d := some 7) (v := .int .u16 64) [] hx0 rfl rfl (by kernel_rfl) (by kernel_rfl) (by kernel_rfl) (by kernel_rfl) (by kernel_rfl) (by decide) (fun _ _ _ h => h) (Or.inl ⟨by rfl, fun w' hx => by kernel_rfl⟩) ?_
  simp only [Act.put, List.setIfInBounds_toArray, List.set_cons_zero, List.set_cons_succ]
  refine regT_take (i := 5) (d := some 8) (v := .int .u8 1) [] hx0 rfl rfl (by kernel_rfl) (by kernel_rfl) (by kernel_rfl) (by kernel_rfl) (by kernel_rfl) (by decide) (fun _ _ _ h => h) (Or.inl ⟨by rfl, fun w' hx => by kernel_rfl⟩) ?_
  simp only [Act.put, List.setIfInBounds_toArray, List.set_cons_zero, List.set_cons_succ]
  refine regT_take (i := 6) (d := some 9) (v := .int .u8 1) [] hx0 rfl rfl (by kernel_rfl) (by kernel_rfl) (by kernel_rfl) (by kernel_rfl) (by kernel_rfl) (by decide) (fun _ _ _ h => h) (Or.inl ⟨by rfl, fun w' hx => by kernel_rfl⟩) ?_
  simp only [Act.put, List.setIfInBounds_toArray, List.set_cons_zero, List.set_cons_succ]
  refine regT_take (i := 7) (d := some 10) (v := .int .i64 1) [] hx0 rfl rfl (by kernel_rfl) (by kernel_rfl) (by kernel_rfl) (by kernel_rfl) (by kernel_rfl) (by decide) (fun _ _ _ h => h) (Or.inl ⟨by rfl, fun w' hx => by kernel_rfl⟩) ?_
  simp only [Act.put, List.setIfInBounds_toArray, List.set_cons_zero, List.set_cons_succ]
  refine regT_take (i := 8) (d := some 2) (v := .int .i64 1) [] hx0 rfl rfl (by kernel_rfl) (by kernel_rfl) (by kernel_rfl) (by kernel_rfl) (by kernel_rfl) (by decide) (fun _ _ _ h => h) (Or.inl ⟨by rfl, fun w' hx => by kernel_rfl⟩) ?_
  simp only [Act.put, List.setIfInBounds_toArray, List.set_cons_zero, List.set_cons_succ]
  refine regT_done (by kernel_rfl) ?_ _
  go_wp2
  go_ret
  exact ⟨rfl, hd⟩

set_option maxRecDepth 100000 in
theorem ones_72 (w : World) : Calls Try.prog 151 #[.int .u16 72] w (Ret w (.int .i64 2)) := by
  have hd : Below w.heap.size w w.drew := (Below.refl _ _).drew
  go_enter Try.func151, Try.ntmps151
  go_upto_region 1 with fail
  have hx0 : Ext w.drew w.drew := Ext.refl _
  refine regT_start 9 (Ext w.drew) (by kernel_rfl) ?_
  refine regT_take (i := 0) (d := some 3) (v := .int .u16 72) [] hx0 rfl rfl (by kernel_rfl) (by kernel_rfl) (by kernel_rfl) (by kernel_rfl) (by kernel_rfl) (by decide) (fun _ _ _ h => h) (Or.inl ⟨by rfl, fun w' hx => by kernel_rfl⟩) ?_
  simp only [Act.put, List.setIfInBounds_toArray, List.set_cons_zero, List.set_cons_succ]
  refine regT_take (i := 1) (d := some 4) (v := .int .u16 0) [] hx0 rfl rfl (by kernel_rfl) (by kernel_rfl) (by kernel_rfl) (by kernel_rfl) (by kernel_rfl) (by decide) (fun _ _ _ h => h) (Or.inl ⟨by rfl, fun w' hx => by kernel_rfl⟩) ?_
  simp only [Act.put, List.setIfInBounds_toArray, List.set_cons_zero, List.set_cons_succ]
  refine regT_take (i := 2) (d := some 5) (v := .int .u8 0) [] hx0 rfl rfl (by kernel_rfl) (by kernel_rfl) (by kernel_rfl) (by kernel_rfl) (by kernel_rfl) (by decide) (fun _ _ _ h => h) (Or.inl ⟨by rfl, fun w' hx => by kernel_rfl⟩) ?_
  simp only [Act.put, List.setIfInBounds_toArray, List.set_cons_zero, List.set_cons_succ]
  refine regT_take (i := 3) (d := some 6) (v := .int .u16 72) [] hx0 rfl rfl (by kernel_rfl) (by kernel_rfl) (by kernel_rfl) (by kernel_rfl) (by kernel_rfl) (by decide) (fun _ _ _ h => h) (Or.inl ⟨by rfl, fun w' hx => by kernel_rfl⟩) ?_
  simp only [Act.put, List.setIfInBounds_toArray, List.set_cons_zero, List.set_cons_succ]
  refine regT_take (i := 4) (d := some 7) (v := .int .u16 72) [] hx0 rfl rfl (by kernel_rfl) (by kernel_rfl) (by kernel_rfl) (by kernel_rfl) (by kernel_rfl) (by decide) (fun _ _ _ h => h) (Or.inl ⟨by rfl, fun w' hx => by kernel_rfl⟩) ?_
  simp only [Act.put, List.setIfInBounds_toArray, List.set_cons_zero, List.set_cons_succ]
  refine regT_take (i := 5) (d := some 8) (v := .int .u8 2) [] hx0 rfl rfl (by kernel_rfl) (by kernel_rfl) (by kernel_rfl) (by kernel_rfl) (by kernel_rfl) (by decide) (fun _ _ _ h => h) (Or.inl ⟨by rfl, fun w' hx => by kernel_rfl⟩) ?_
  simp only [Act.put, List.setIfInBounds_toArray, List.set_cons_zero, List.set_cons_succ]
  refine regT_take (i := 6) (d := some 9) (v := .int .u8 2) [] hx0 rfl rfl (by kernel_rfl) (by kernel_rfl) (by kernel_rfl) (by kernel_rfl) (by kernel_rfl) (by decide) (fun _ _ _ h => h) (Or.inl ⟨by rfl, fun w' hx => by kernel_rfl⟩) ?_
  simp only [Act.put, List.setIfInBounds_toArray, List.set_cons_zero, List.set_cons_succ]
  refine regT_take (i := 7) (d := some 10) (v := .int .i64 2) [] hx0 rfl rfl (by kernel_rfl) (by kernel_rfl) (by kernel_rfl) (by kernel_rfl) (by kernel_rfl) (by decide) (fun _ _ _ h => h) (Or.inl ⟨by rfl, fun w' hx => by kernel_rfl⟩) ?_
  simp only [Act.put, List.setIfInBounds_toArray, List.set_cons_zero, List.set_cons_succ]
  refine regT_take (i := 8) (d := some 2) (v := .int .i64 2) [] hx0 rfl rfl (by kernel_rfl) (by kernel_rfl) (by kernel_rfl) (by kernel_rfl) (by kernel_rfl) (by decide) (fun _ _ _ h => h) (Or.inl ⟨by rfl, fun w' hx => by kernel_rfl⟩) ?_
  simp only [Act.put, List.setIfInBounds_toArray, List.set_cons_zero, List.set_cons_succ]
  refine regT_done (by kernel_rfl) ?_ _
  go_wp2
  go_ret
  exact ⟨rfl, hd⟩

set_option maxRecDepth 100000 in
theorem ones_128 (w : World) : Calls Try.prog 151 #[.int .u16 128] w (Ret w (.int .i64 1)) := by
  have hd : Below w.heap.size w w.drew := (Below.refl _ _).drew
  go_enter Try.func151, Try.ntmps151
  go_upto_region 1 with fail
  have hx0 : Ext w.drew w.drew := Ext.refl _
  refine regT_start 9 (Ext w.drew) (by kernel_rfl) ?_
  refine regT_take (i := 0) (d := some 3) (v := .int .u16 128) [] hx0 rfl rfl (by kernel_rfl) (by kernel_rfl) (by kernel_rfl) (by kernel_rfl) (by kernel_rfl) (by decide) (fun _ _ _ h => h) (Or.inl ⟨by rfl, fun w' hx => by kernel_rfl⟩) ?_
  simp only [Act.put, List.setIfInBounds_toArray, List.set_cons_zero, List.set_cons_succ]
  refine regT_take (i := 1) (d := some 4) (v := .int .u16 0) [] hx0 rfl rfl (by kernel_rfl) (by kernel_rfl) (by kernel_rfl) (by kernel_rfl) (by kernel_rfl) (by decide) (fun _ _ _ h => h) (Or.inl ⟨by rfl, fun w' hx => by kernel_rfl⟩) ?_
  simp only [Act.put, List.setIfInBounds_toArray, List.set_cons_zero, List.set_cons_succ]
  refine regT_take (i := 2) (d := some 5) (v := .int .u8 0) [] hx0 rfl rfl (by kernel_rfl) (by kernel_rfl) (by kernel_rfl) (by kernel_rfl) (by kernel_rfl) (by decide) (fun _ _ _ h => h) (Or.inl ⟨by rfl, fun w' hx => by kernel_rfl⟩) ?_
  simp only [Act.put, List.setIfInBounds_toArray, List.set_cons_zero, List.set_cons_succ]
  refine regT_take (i := 3) (d := some 6) (v := .int .u16 128) [] hx0 rfl rfl (by kernel_rfl) (by kernel_rfl) (by kernel_rfl) (by kernel_rfl) (by kernel_rfl) (by decide) (fun _ _ _ h => h) (Or.inl ⟨by rfl, fun w' hx => by kernel_rfl⟩) ?_
  simp only [Act.put, List.setIfInBounds_toArray, List.set_cons_zero, List.set_cons_succ]
  refine regT_take (i := 4) (d := some 7) (v := .int .u16 128) [] hx0 rfl rfl (by kernel_rfl) (by kernel_rfl) (by kernel_rfl) (by kernel_rfl) (by kernel_rfl) (by decide) (fun _ _ _ h => h) (Or.inl ⟨by rfl, fun w' hx => by kernel_rfl⟩) ?_
  simp only [Act.put, List.setIfInBounds_toArray, List.set_cons_zero, List.set_cons_succ]
  refine regT_take (i := 5) (d := some 8) (v := .int .u8 1) [] hx0 rfl rfl (by kernel_rfl) (by kernel_rfl) (by kernel_rfl) (by kernel_rfl) (by kernel_rfl) (by decide) (fun _ _ _ h => h) (Or.inl ⟨by rfl, fun w' hx => by kernel_rfl⟩) ?_
  simp only [Act.put, List.setIfInBounds_toArray, List.set_cons_zero, List.set_cons_succ]
  refine regT_take (i := 6) (d := some 9) (v := .int .u8 1) [] hx0 rfl rfl (by kernel_rfl) (by kernel_rfl) (by kernel_rfl) (by kernel_rfl) (by kernel_rfl) (by decide) (fun _ _ _ h => h) (Or.inl ⟨by rfl, fun w' hx => by kernel_rfl⟩) ?_
  simp only [Act.put, List.setIfInBounds_toArray, List.set_cons_zero, List.set_cons_succ]
  refine regT_take (i := 7) (d := some 10) (v := .int .i64 1) [] hx0 rfl rfl (by kernel_rfl) (by kernel_rfl) (by kernel_rfl) (by kernel_rfl) (by kernel_rfl) (by decide) (fun _ _ _ h => h) (Or.inl ⟨by rfl, fun w' hx => by kernel_rfl⟩) ?_
  simp only [Act.put, List.setIfInBounds_toArray, List.set_cons_zero, List.set_cons_succ]
  refine regT_take (i := 8) (d := some 2) (v := .int .i64 1) [] hx0 rfl rfl (by kernel_rfl) (by kernel_rfl) (by kernel_rfl) (by kernel_rfl) (by kernel_rfl) (by decide) (fun _ _ _ h => h) (Or.inl ⟨by rfl, fun w' hx => by kernel_rfl⟩) ?_
  simp only [Act.put, List.setIfInBounds_toArray, List.set_cons_zero, List.set_cons_succ]
  refine regT_done (by kernel_rfl) ?_ _
  go_wp2
  go_ret
  exact ⟨rfl, hd⟩

set_option maxRecDepth 100000 in
theorem ones_136 (w : World) : Calls Try.prog 151 #[.int .u16 136] w (Ret w (.int .i64 2)) := by
  have hd : Below w.heap.size w w.drew := (Below.refl _ _).drew
  go_enter Try.func151, Try.ntmps151
  go_upto_region 1 with fail
  have hx0 : Ext w.drew w.drew := Ext.refl _
  refine regT_start 9 (Ext w.drew) (by kernel_rfl) ?_
  refine regT_take (i := 0) (d := some 3) (v := .int .u16 136) [] hx0 rfl rfl (by kernel_rfl) (by kernel_rfl) (by kernel_rfl) (by kernel_rfl) (by kernel_rfl) (by decide) (fun _ _ _ h => h) (Or.inl ⟨by rfl, fun w' hx => by kernel_rfl⟩) ?_
  simp only [Act.put, List.setIfInBounds_toArray, List.set_cons_zero, List.set_cons_succ]
  refine regT_take (i := 1) (d := some 4) (v := .int .u16 0) [] hx0 rfl rfl (by kernel_rfl) (by kernel_rfl) (by kernel_rfl) (by kernel_rfl) (by kernel_rfl) (by decide) (fun _ _ _ h => h) (Or.inl ⟨by rfl, fun w' hx => by kernel_rfl⟩) ?_
  simp only [Act.put, List.setIfInBounds_toArray, List.set_cons_zero, List.set_cons_succ]
  refine regT_take (i := 2) (d := some 5) (v := .int .u8 0) [] hx0 rfl rfl (by kernel_rfl) (by kernel_rfl) (by kernel_rfl) (by kernel_rfl) (by kernel_rfl) (by decide) (fun _ _ _ h => h) (Or.inl ⟨by rfl, fun w' hx => by kernel_rfl⟩) ?_
  simp only [Act.put, List.setIfInBounds_toArray, List.set_cons_zero, List.set_cons_succ]
  refine regT_take (i := 3) (d := some 6) (v := .int .u16 136) [] hx0 rfl rfl (by kernel_rfl) (by kernel_rfl) (by kernel_rfl) (by kernel_rfl) (by kernel_rfl) (by decide) (fun _ _ _ h => h) (Or.inl ⟨by rfl, fun w' hx => by kernel_rfl⟩) ?_
  simp only [Act.put, List.setIfInBounds_toArray, List.set_cons_zero, List.set_cons_succ]
  refine regT_take (i := 4) (d := some 7) (v := .int .u16 136) [] hx0 rfl rfl (by kernel_rfl) (by kernel_rfl) (by kernel_rfl) (by kernel_rfl) (by kernel_rfl) (by decide) (fun _ _ _ h => h) (Or.inl ⟨by rfl, fun w' hx => by kernel_rfl⟩) ?_
  simp only [Act.put, List.setIfInBounds_toArray, List.set_cons_zero, List.set_cons_succ]
  refine regT_take (i := 5) (d := some 8) (v := .int .u8 2) [] hx0 rfl rfl (by kernel_rfl) (by kernel_rfl) (by kernel_rfl) (by kernel_rfl) (by kernel_rfl) (by decide) (fun _ _ _ h => h) (Or.inl ⟨by rfl, fun w' hx => by kernel_rfl⟩) ?_
  simp only [Act.put, List.setIfInBounds_toArray, List.set_cons_zero, List.set_cons_succ]
  refine regT_take (i := 6) (d := some 9) (v := .int .u8 2) [] hx0 rfl rfl (by kernel_rfl) (by kernel_rfl) (by kernel_rfl) (by kernel_rfl) (by kernel_rfl) (by decide) (fun _ _ _ h => h) (Or.inl ⟨by rfl, fun w' hx => by kernel_rfl⟩) ?_
  simp only [Act.put, List.setIfInBounds_toArray, List.set_cons_zero, List.set_cons_succ]
  refine regT_take (i := 7) (d := some 10) (v := .int .i64 2) [] hx0 rfl rfl (by kernel_rfl) (by kernel_rfl) (by kernel_rfl) (by kernel_rfl) (by kernel_rfl) (by decide) (fun _ _ _ h => h) (Or.inl ⟨by rfl, fun w' hx => by kernel_rfl⟩) ?_
  simp only [Act.put, List.setIfInBounds_toArray, List.set_cons_zero, List.set_cons_succ]
  refine regT_take (i := 8) (d := some 2) (v := .int .i64 2) [] hx0 rfl rfl (by kernel_rfl) (by kernel_rfl) (by kernel_rfl) (by kernel_rfl) (by kernel_rfl) (by decide) (fun _ _ _ h => h) (Or.inl ⟨by rfl, fun w' hx => by kernel_rfl⟩) ?_
  simp only [Act.put, List.setIfInBounds_toArray, List.set_cons_zero, List.set_cons_succ]
  refine regT_done (by kernel_rfl) ?_ _
  go_wp2
  go_ret
  exact ⟨rfl, hd⟩

set_option maxRecDepth 100000 in
theorem ones_192 (w : World) : Calls Try.prog 151 #[.int .u16 192] w (Ret w (.int .i64 2)) := by
  have hd : Below w.heap.size w w.drew := (Below.refl _ _).drew
  go_enter Try.func151, Try.ntmps151
  go_upto_region 1 with fail
  have hx0 : Ext w.drew w.drew := Ext.refl _
  refine regT_start 9 (Ext w.drew) (by kernel_rfl) ?_
  refine regT_take (i := 0) (d := some 3) (v := .int .u16 192) [] hx0 rfl rfl (by kernel_rfl) (by kernel_rfl) (by kernel_rfl) (by kernel_rfl) (by kernel_rfl) (by decide) (fun _ _ _ h => h) (Or.inl ⟨by rfl, fun w' hx => by kernel_rfl⟩) ?_
  simp only [Act.put, List.setIfInBounds_toArray, List.set_cons_zero, List.set_cons_succ]
  refine regT_take (i := 1) (d := some 4) (v := .int .u16 0) [] hx0 rfl rfl (by kernel_rfl) (by kernel_rfl) (by kernel_rfl) (by kernel_rfl) (by kernel_rfl) (by decide) (fun _ _ _ h => h) (Or.inl ⟨by rfl, fun w' hx => by kernel_rfl⟩) ?_
  simp only [Act.put, List.setIfInBounds_toArray, List.set_cons_zero, List.set_cons_succ]
  refine regT_take (i := 2) (d := some 5) (v := .int .u8 0) [] hx0 rfl rfl (by kernel_rfl) (by kernel_rfl) (by kernel_rfl) (by kernel_rfl) (by kernel_rfl) (by decide) (fun _ _ _ h => h) (Or.inl ⟨by rfl, fun w' hx => by kernel_rfl⟩) ?_
  simp only [Act.put, List.setIfInBounds_toArray, List.set_cons_zero, List.set_cons_succ]
  refine regT_take (i := 3) (d := some 6) (v := .int .u16 192) [] hx0 rfl rfl (by kernel_rfl) (by kernel_rfl) (by kernel_rfl) (by kernel_rfl) (by kernel_rfl) (by decide) (fun _ _ _ h => h) (Or.inl ⟨by rfl, fun w' hx => by kernel_rfl⟩) ?_
  simp only [Act.put, List.setIfInBounds_toArray, List.set_cons_zero, List.set_cons_succ]
  refine regT_take (i := 4) (d := some 7) (v := .int .u16 192) [] hx0 rfl rfl (by kernel_rfl) (by kernel_rfl) (by kernel_rfl) (by kernel_rfl) (by kernel_rfl) (by decide) (fun _ _ _ h => h) (Or.inl ⟨by rfl, fun w' hx => by kernel_rfl⟩) ?_
  simp only [Act.put, List.setIfInBounds_toArray, List.set_cons_zero, List.set_cons_succ]
  refine regT_take (i := 5) (d := some 8) (v := .int .u8 2) [] hx0 rfl rfl (by kernel_rfl) (by kernel_rfl) (by kernel_rfl) (by kernel_rfl) (by kernel_rfl) (by decide) (fun _ _ _ h => h) (Or.inl ⟨by rfl, fun w' hx => by kernel_rfl⟩) ?_
  simp only [Act.put, List.setIfInBounds_toArray, List.set_cons_zero, List.set_cons_succ]
  refine regT_take (i := 6) (d := some 9) (v := .int .u8 2) [] hx0 rfl rfl (by kernel_rfl) (by kernel_rfl) (by kernel_rfl) (by kernel_rfl) (by kernel_rfl) (by decide) (fun _ _ _ h => h) (Or.inl ⟨by rfl, fun w' hx => by kernel_rfl⟩) ?_
  simp only [Act.put, List.setIfInBounds_toArray, List.set_cons_zero, List.set_cons_succ]
  refine regT_take (i := 7) (d := some 10) (v := .int .i64 2) [] hx0 rfl rfl (by kernel_rfl) (by kernel_rfl) (by kernel_rfl) (by kernel_rfl) (by kernel_rfl) (by decide) (fun _ _ _ h => h) (Or.inl ⟨by rfl, fun w' hx => by kernel_rfl⟩) ?_
  simp only [Act.put, List.setIfInBounds_toArray, List.set_cons_zero, List.set_cons_succ]
  refine regT_take (i := 8) (d := some 2) (v := .int .i64 2) [] hx0 rfl rfl (by kernel_rfl) (by kernel_rfl) (by kernel_rfl) (by kernel_rfl) (by kernel_rfl) (by decide) (fun _ _ _ h => h) (Or.inl ⟨by rfl, fun w' hx => by kernel_rfl⟩) ?_
  simp only [Act.put, List.setIfInBounds_toArray, List.set_cons_zero, List.set_cons_succ]
  refine regT_done (by kernel_rfl) ?_ _
  go_wp2
  go_ret
  exact ⟨rfl, hd⟩

set_option maxRecDepth 100000 in
theorem ones_200 (w : World) : Calls Try.prog 151 #[.int .u16 200] w (Ret w (.int .i64 3)) := by
  have hd : Below w.heap.size w w.drew := (Below.refl _ _).drew
  go_enter Try.func151, Try.ntmps151
  go_upto_region 1 with fail
  have hx0 : Ext w.drew w.drew := Ext.refl _
  refine regT_start 9 (Ext w.drew) (by kernel_rfl) ?_
  refine regT_take (i := 0) (d := some 3) (v := .int .u16 200) [] hx0 rfl rfl (by kernel_rfl) (by kernel_rfl) (by kernel_rfl) (by kernel_rfl) (by kernel_rfl) (by decide) (fun _ _ _ h => h) (Or.inl ⟨by rfl, fun w' hx => by kernel_rfl⟩) ?_
  simp only [Act.put, List.setIfInBounds_toArray, List.set_cons_zero, List.set_cons_succ]
  refine regT_take (i := 1) (d := some 4) (v := .int .u16 0) [] hx0 rfl rfl (by kernel_rfl) (by kernel_rfl) (by kernel_rfl) (by kernel_rfl) (by kernel_rfl) (by decide) (fun _ _ _ h => h) (Or.inl ⟨by rfl, fun w' hx => by kernel_rfl⟩) ?_
  simp only [Act.put, List.setIfInBounds_toArray, List.set_cons_zero, List.set_cons_succ]
  refine regT_take (i := 2) (d := some 5) (v := .int .u8 0) [] hx0 rfl rfl (by kernel_rfl) (by kernel_rfl) (by kernel_rfl) (by kernel_rfl) (by kernel_rfl) (by decide) (fun _ _ _ h => h) (Or.inl ⟨by rfl, fun w' hx => by kernel_rfl⟩) ?_
  simp only [Act.put, List.setIfInBounds_toArray, List.set_cons_zero, List.set_cons_succ]
  refine regT_take (i := 3) (d := some 6) (v := .int .u16 200) [] hx0 rfl rfl (by kernel_rfl) (by kernel_rfl) (by kernel_rfl) (by kernel_rfl) (by kernel_rfl) (by decide) (fun _ _ _ h => h) (Or.inl ⟨by rfl, fun w' hx => by kernel_rfl⟩) ?_
  simp only [Act.put, List.setIfInBounds_toArray, List.set_cons_zero, List.set_cons_succ]
  refine regT_take (i := 4) (d := some 7) (v := .int .u16 200) [] hx0 rfl rfl (by kernel_rfl) (by kernel_rfl) (by kernel_rfl) (by kernel_rfl) (by kernel_rfl) (by decide) (fun _ _ _ h => h) (Or.inl ⟨by rfl, fun w' hx => by kernel_rfl⟩) ?_
  simp only [Act.put, List.setIfInBounds_toArray, List.set_cons_zero, List.set_cons_succ]
  refine regT_take (i := 5) (d := some 8) (v := .int .u8 3) [] hx0 rfl rfl (by kernel_rfl) (by kernel_rfl) (by kernel_rfl) (by kernel_rfl) (by kernel_rfl) (by decide) (fun _ _ _ h => h) (Or.inl ⟨by rfl, fun w' hx => by kernel_rfl⟩) ?_
  simp only [Act.put, List.setIfInBounds_toArray, List.set_cons_zero, List.set_cons_succ]
  refine regT_take (i := 6) (d := some 9) (v := .int .u8 3) [] hx0 rfl rfl (by kernel_rfl) (by kernel_rfl) (by kernel_rfl) (by kernel_rfl) (by kernel_rfl) (by decide) (fun _ _ _ h => h) (Or.inl ⟨by rfl, fun w' hx => by kernel_rfl⟩) ?_
  simp only [Act.put, List.setIfInBounds_toArray, List.set_cons_zero, List.set_cons_succ]
  refine regT_take (i := 7) (d := some 10) (v := .int .i64 3) [] hx0 rfl rfl (by kernel_rfl) (by kernel_rfl) (by kernel_rfl) (by kernel_rfl) (by kernel_rfl) (by decide) (fun _ _ _ h => h) (Or.inl ⟨by rfl, fun w' hx => by kernel_rfl⟩) ?_
  simp only [Act.put, List.setIfInBounds_toArray, List.set_cons_zero, List.set_cons_succ]
  refine regT_take (i := 8) (d := some 2) (v := .int .i64 3) [] hx0 rfl rfl (by kernel_rfl) (by kernel_rfl) (by kernel_rfl) (by kernel_rfl) (by kernel_rfl) (by decide) (fun _ _ _ h => h) (Or.inl ⟨by rfl, fun w' hx => by kernel_rfl⟩) ?_
  simp only [Act.put, List.setIfInBounds_toArray, List.set_cons_zero, List.set_cons_succ]
  refine regT_done (by kernel_rfl) ?_ _
  go_wp2
  go_ret
  exact ⟨rfl, hd⟩

theorem ones_any (k : Int) (h : k ∈ ([0, 8, 64, 72, 128, 136, 192, 200] : List Int)) (w : World) : Calls Try.prog 151 #[.int .u16 k] w (Ret w (.int .i64 (onesK k))) := by
  simp only [List.mem_cons, List.not_mem_nil, or_false] at h
  rcases h with rfl | rfl | rfl | rfl | rfl | rfl | rfl | rfl
  · exact ones_0 w
  · exact ones_8 w
  · exact ones_64 w
  · exact ones_72 w
  · exact ones_128 w
  · exact ones_136 w
  · exact ones_192 w
  · exact ones_200 w

end Go.Proofs.Ytdaeffnaoeblpaa

/- compo: which parts may be: the matrix, and the part, as contracts over this seat's translation. -/
namespace Go.Proofs.Ytdaeffnaoeblpaa
open Go.RowKit
set_option linter.unusedVariables false
set_option linter.unusedSimpArgs false

set_option maxRecDepth 100000 in
set_option maxHeartbeats 2000000 in
theorem cmat_any (p : Pt) (hp : p.ok) (w : World) : Calls Try.prog 152 #[p.val] w (Ret w (.bool (matB (knd p.f) p))) := by
  have hA := (Below.refl w.heap.size w).alloc (Nat.le_refl _) (.cells p.cells 46)
  have hk := heap_alloc_new w (.cells p.cells 46)
  have hK := w_and200 hp.f.1 hp.f.2
  have hin := knd_in p.f
  unfold Pt.val Pt.cells at *
  unfold matB straight unitB at *
  obtain ⟨f, i, x, y, xx, xy, yx, yy⟩ := p
  simp only at *
  generalize knd f = k at *
  obtain ⟨c0, c1, c2, c3, c4, c5, c6, c7⟩ := cells8 hk
  clear hk hp
  have HU := fun W => unit_any W
  rcases Decidable.em (xy = 0) with rfl | h1
  · rcases Decidable.em (yx = 0) with rfl | h2
    · skip
      by_cases k8 : k = 8
      · subst k8
        rw [if_pos rfl]
        by_cases h3 : xx = yy
        · subst h3
          rw [show decide (xx = xx) = true by simp]
          go_enter Try.func152, Try.ntmps152
          go_wp2
          go_ret
          exact ⟨rfl, hA⟩
        · have e3 : (xx == yy) = false := by simp [h3]
          rw [decide_eq_false h3]
          clear h3
          go_enter Try.func152, Try.ntmps152
          go_wp2
          go_ret
          exact ⟨rfl, hA⟩
      · by_cases k64 : k = 64
        · subst k64
          rw [if_neg (by decide), if_pos rfl]
          go_enter Try.func152, Try.ntmps152
          go_wp2
          go_ret
          exact ⟨rfl, hA⟩
        · by_cases k128 : k = 128
          · subst k128
            rw [if_neg (by decide), if_neg (by decide), if_pos rfl]
            go_enter Try.func152, Try.ntmps152
            go_wp2
            go_ret
            exact ⟨rfl, hA⟩
          · rw [if_neg k8, if_neg k64, if_neg k128]
            have e8 : (k == 8) = false := by simp [k8]
            have e64 : (k == 64) = false := by simp [k64]
            have e128 : (k == 128) = false := by simp [k128]
            clear k8 k64 k128 hin
            by_cases u1 : xx = 16384
            · subst u1
              by_cases u2 : yy = 16384
              · subst u2
                go_enter Try.func152, Try.ntmps152
                go_upto_region 3 with fail
                generalize w.alloc _ = V at *
                have hx0 : Ext V.drew V.drew := Ext.refl _
                have q4 : V.drew.cell? ⟨w.heap.size, 4, none⟩ = _ := c4
                have q5 : V.drew.cell? ⟨w.heap.size, 5, none⟩ = _ := c5
                have q6 : V.drew.cell? ⟨w.heap.size, 6, none⟩ = _ := c6
                have q7 : V.drew.cell? ⟨w.heap.size, 7, none⟩ = _ := c7
                refine regT_start 5 (Ext V.drew) (by kernel_rfl) ?_
                refine regT_take (i := 0) (d := some 17) (v := ?_) [] hx0 rfl rfl (by kernel_rfl) (by kernel_rfl) (by kernel_rfl) (by kernel_rfl) (by kernel_rfl) (by decide) (fun _ _ _ h => h) (Or.inl ⟨by rfl, ?_⟩) ?_
                rotate_left
                · intro w' hx; (go_simp <;> with_reducible rfl)
                simp only [Act.put, List.setIfInBounds_toArray, List.set_cons_zero, List.set_cons_succ]
                refine regT_take (i := 1) (d := some 18) (v := ?_) [] hx0 rfl rfl (by kernel_rfl) (by kernel_rfl) (by kernel_rfl) (by kernel_rfl) (by kernel_rfl) (by decide) (fun _ _ _ h => h) (Or.inl ⟨by rfl, ?_⟩) ?_
                rotate_left
                · intro w' hx; have r4 := hx.cell q4; have r5 := hx.cell q5; have r6 := hx.cell q6; have r7 := hx.cell q7; (go_simp <;> with_reducible rfl)
                simp only [Act.put, List.setIfInBounds_toArray, List.set_cons_zero, List.set_cons_succ]
                refine regT_one 2 _ (by kernel_rfl) rfl ?_
                intro K hK
                go_simp
                refine (unit_any _).mono ?_
                rintro e W4 ⟨rfl, hb⟩
                have hX1 := hx0.call hb
                refine hK.out _ _ (fun _ => hX1) ?_
                clear hK K
                refine regT_one 3 _ (by kernel_rfl) rfl ?_
                intro K hK
                go_simp
                refine hK.out _ _ (fun _ => hX1) ?_
                clear hK K
                refine regT_one 4 _ (by kernel_rfl) rfl ?_
                intro K hK
                go_simp
                refine hK.out _ _ (fun _ => hX1) ?_
                clear hK K
                refine regT_done (by kernel_rfl) ?_ _
                go_wp2
                go_ret
                exact ⟨rfl, Below.trans hA.drew (Below.mono hX1 hA.size)⟩
              · have f2 : (yy == 16384) = false := by simp [u2]
                have f3 : decide (yy = 16384) = false := decide_eq_false u2
                rw [decide_eq_false (show ¬ ([16384, 0, 0, yy] : List Int) = [16384, 0, 0, 16384] from fun h => u2 (by simpa using h))]
                clear u2
                go_enter Try.func152, Try.ntmps152
                go_upto_region 3 with fail
                generalize w.alloc _ = V at *
                have hx0 : Ext V.drew V.drew := Ext.refl _
                have q4 : V.drew.cell? ⟨w.heap.size, 4, none⟩ = _ := c4
                have q5 : V.drew.cell? ⟨w.heap.size, 5, none⟩ = _ := c5
                have q6 : V.drew.cell? ⟨w.heap.size, 6, none⟩ = _ := c6
                have q7 : V.drew.cell? ⟨w.heap.size, 7, none⟩ = _ := c7
                refine regT_start 5 (Ext V.drew) (by kernel_rfl) ?_
                refine regT_take (i := 0) (d := some 17) (v := ?_) [] hx0 rfl rfl (by kernel_rfl) (by kernel_rfl) (by kernel_rfl) (by kernel_rfl) (by kernel_rfl) (by decide) (fun _ _ _ h => h) (Or.inl ⟨by rfl, ?_⟩) ?_
                rotate_left
                · intro w' hx; (go_simp <;> with_reducible rfl)
                simp only [Act.put, List.setIfInBounds_toArray, List.set_cons_zero, List.set_cons_succ]
                refine regT_take (i := 1) (d := some 18) (v := ?_) [] hx0 rfl rfl (by kernel_rfl) (by kernel_rfl) (by kernel_rfl) (by kernel_rfl) (by kernel_rfl) (by decide) (fun _ _ _ h => h) (Or.inl ⟨by rfl, ?_⟩) ?_
                rotate_left
                · intro w' hx; have r4 := hx.cell q4; have r5 := hx.cell q5; have r6 := hx.cell q6; have r7 := hx.cell q7; (go_simp <;> with_reducible rfl)
                simp only [Act.put, List.setIfInBounds_toArray, List.set_cons_zero, List.set_cons_succ]
                refine regT_one 2 _ (by kernel_rfl) rfl ?_
                intro K hK
                go_simp
                refine (unit_any _).mono ?_
                rintro e W4 ⟨rfl, hb⟩
                have hX1 := hx0.call hb
                refine hK.out _ _ (fun _ => hX1) ?_
                clear hK K
                refine regT_one 3 _ (by kernel_rfl) rfl ?_
                intro K hK
                go_simp
                refine hK.out _ _ (fun _ => hX1) ?_
                clear hK K
                refine regT_one 4 _ (by kernel_rfl) rfl ?_
                intro K hK
                go_simp
                refine hK.out _ _ (fun _ => hX1) ?_
                clear hK K
                refine regT_done (by kernel_rfl) ?_ _
                go_wp2
                go_ret
                exact ⟨rfl, Below.trans hA.drew (Below.mono hX1 hA.size)⟩
            · have f1 : (xx == 16384) = false := by simp [u1]
              have f3 : decide (xx = 16384) = false := decide_eq_false u1
              rw [decide_eq_false (show ¬ ([xx, 0, 0, yy] : List Int) = [16384, 0, 0, 16384] from fun h => u1 (List.cons.inj h).1)]
              clear u1
              go_enter Try.func152, Try.ntmps152
              go_upto_region 3 with fail
              generalize w.alloc _ = V at *
              have hx0 : Ext V.drew V.drew := Ext.refl _
              have q4 : V.drew.cell? ⟨w.heap.size, 4, none⟩ = _ := c4
              have q5 : V.drew.cell? ⟨w.heap.size, 5, none⟩ = _ := c5
              have q6 : V.drew.cell? ⟨w.heap.size, 6, none⟩ = _ := c6
              have q7 : V.drew.cell? ⟨w.heap.size, 7, none⟩ = _ := c7
              refine regT_start 5 (Ext V.drew) (by kernel_rfl) ?_
              refine regT_take (i := 0) (d := some 17) (v := ?_) [] hx0 rfl rfl (by kernel_rfl) (by kernel_rfl) (by kernel_rfl) (by kernel_rfl) (by kernel_rfl) (by decide) (fun _ _ _ h => h) (Or.inl ⟨by rfl, ?_⟩) ?_
              rotate_left
              · intro w' hx; (go_simp <;> with_reducible rfl)
              simp only [Act.put, List.setIfInBounds_toArray, List.set_cons_zero, List.set_cons_succ]
              refine regT_take (i := 1) (d := some 18) (v := ?_) [] hx0 rfl rfl (by kernel_rfl) (by kernel_rfl) (by kernel_rfl) (by kernel_rfl) (by kernel_rfl) (by decide) (fun _ _ _ h => h) (Or.inl ⟨by rfl, ?_⟩) ?_
              rotate_left
              · intro w' hx; have r4 := hx.cell q4; have r5 := hx.cell q5; have r6 := hx.cell q6; have r7 := hx.cell q7; (go_simp <;> with_reducible rfl)
              simp only [Act.put, List.setIfInBounds_toArray, List.set_cons_zero, List.set_cons_succ]
              refine regT_one 2 _ (by kernel_rfl) rfl ?_
              intro K hK
              go_simp
              refine (unit_any _).mono ?_
              rintro e W4 ⟨rfl, hb⟩
              have hX1 := hx0.call hb
              refine hK.out _ _ (fun _ => hX1) ?_
              clear hK K
              refine regT_one 3 _ (by kernel_rfl) rfl ?_
              intro K hK
              go_simp
              refine hK.out _ _ (fun _ => hX1) ?_
              clear hK K
              refine regT_one 4 _ (by kernel_rfl) rfl ?_
              intro K hK
              go_simp
              refine hK.out _ _ (fun _ => hX1) ?_
              clear hK K
              refine regT_done (by kernel_rfl) ?_ _
              go_wp2
              go_ret
              exact ⟨rfl, Below.trans hA.drew (Below.mono hX1 hA.size)⟩
    · have e2 : (yx == 0) = false := by simp [h2]
      have d2 : decide (yx = 0) = false := decide_eq_false h2
      have du : ¬ (([xx, 0, yx, yy] : List Int) = [16384, 0, 0, 16384]) := fun h => by
        simp at h
        exact h2 h.2.1
      rw [d2]
      clear h2
      by_cases k8 : k = 8
      · subst k8
        rw [if_pos rfl]
        by_cases h3 : xx = yy
        · subst h3
          rw [show decide (xx = xx) = true by simp]
          go_enter Try.func152, Try.ntmps152
          go_wp2
          go_ret
          exact ⟨rfl, hA⟩
        · have e3 : (xx == yy) = false := by simp [h3]
          rw [decide_eq_false h3]
          clear h3
          go_enter Try.func152, Try.ntmps152
          go_wp2
          go_ret
          exact ⟨rfl, hA⟩
      · by_cases k64 : k = 64
        · subst k64
          rw [if_neg (by decide), if_pos rfl]
          go_enter Try.func152, Try.ntmps152
          go_wp2
          go_ret
          exact ⟨rfl, hA⟩
        · by_cases k128 : k = 128
          · subst k128
            rw [if_neg (by decide), if_neg (by decide), if_pos rfl]
            go_enter Try.func152, Try.ntmps152
            go_wp2
            go_ret
            exact ⟨rfl, hA⟩
          · rw [if_neg k8, if_neg k64, if_neg k128]
            have e8 : (k == 8) = false := by simp [k8]
            have e64 : (k == 64) = false := by simp [k64]
            have e128 : (k == 128) = false := by simp [k128]
            clear k8 k64 k128 hin
            rw [decide_eq_false du]
            by_cases u1 : xx = 16384
            · subst u1
              go_enter Try.func152, Try.ntmps152
              go_upto_region 3 with fail
              generalize w.alloc _ = V at *
              have hx0 : Ext V.drew V.drew := Ext.refl _
              have q4 : V.drew.cell? ⟨w.heap.size, 4, none⟩ = _ := c4
              have q5 : V.drew.cell? ⟨w.heap.size, 5, none⟩ = _ := c5
              have q6 : V.drew.cell? ⟨w.heap.size, 6, none⟩ = _ := c6
              have q7 : V.drew.cell? ⟨w.heap.size, 7, none⟩ = _ := c7
              refine regT_start 5 (Ext V.drew) (by kernel_rfl) ?_
              refine regT_take (i := 0) (d := some 17) (v := ?_) [] hx0 rfl rfl (by kernel_rfl) (by kernel_rfl) (by kernel_rfl) (by kernel_rfl) (by kernel_rfl) (by decide) (fun _ _ _ h => h) (Or.inl ⟨by rfl, ?_⟩) ?_
              rotate_left
              · intro w' hx; (go_simp <;> with_reducible rfl)
              simp only [Act.put, List.setIfInBounds_toArray, List.set_cons_zero, List.set_cons_succ]
              refine regT_take (i := 1) (d := some 18) (v := ?_) [] hx0 rfl rfl (by kernel_rfl) (by kernel_rfl) (by kernel_rfl) (by kernel_rfl) (by kernel_rfl) (by decide) (fun _ _ _ h => h) (Or.inl ⟨by rfl, ?_⟩) ?_
              rotate_left
              · intro w' hx; have r4 := hx.cell q4; have r5 := hx.cell q5; have r6 := hx.cell q6; have r7 := hx.cell q7; (go_simp <;> with_reducible rfl)
              simp only [Act.put, List.setIfInBounds_toArray, List.set_cons_zero, List.set_cons_succ]
              refine regT_one 2 _ (by kernel_rfl) rfl ?_
              intro K hK
              go_simp
              refine (unit_any _).mono ?_
              rintro e W4 ⟨rfl, hb⟩
              have hX1 := hx0.call hb
              refine hK.out _ _ (fun _ => hX1) ?_
              clear hK K
              refine regT_one 3 _ (by kernel_rfl) rfl ?_
              intro K hK
              go_simp
              refine hK.out _ _ (fun _ => hX1) ?_
              clear hK K
              refine regT_one 4 _ (by kernel_rfl) rfl ?_
              intro K hK
              go_simp
              refine hK.out _ _ (fun _ => hX1) ?_
              clear hK K
              refine regT_done (by kernel_rfl) ?_ _
              go_wp2
              go_ret
              exact ⟨rfl, Below.trans hA.drew (Below.mono hX1 hA.size)⟩
            · have f1 : (xx == 16384) = false := by simp [u1]
              have f3 : decide (xx = 16384) = false := decide_eq_false u1
              clear u1
              go_enter Try.func152, Try.ntmps152
              go_upto_region 3 with fail
              generalize w.alloc _ = V at *
              have hx0 : Ext V.drew V.drew := Ext.refl _
              have q4 : V.drew.cell? ⟨w.heap.size, 4, none⟩ = _ := c4
              have q5 : V.drew.cell? ⟨w.heap.size, 5, none⟩ = _ := c5
              have q6 : V.drew.cell? ⟨w.heap.size, 6, none⟩ = _ := c6
              have q7 : V.drew.cell? ⟨w.heap.size, 7, none⟩ = _ := c7
              refine regT_start 5 (Ext V.drew) (by kernel_rfl) ?_
              refine regT_take (i := 0) (d := some 17) (v := ?_) [] hx0 rfl rfl (by kernel_rfl) (by kernel_rfl) (by kernel_rfl) (by kernel_rfl) (by kernel_rfl) (by decide) (fun _ _ _ h => h) (Or.inl ⟨by rfl, ?_⟩) ?_
              rotate_left
              · intro w' hx; (go_simp <;> with_reducible rfl)
              simp only [Act.put, List.setIfInBounds_toArray, List.set_cons_zero, List.set_cons_succ]
              refine regT_take (i := 1) (d := some 18) (v := ?_) [] hx0 rfl rfl (by kernel_rfl) (by kernel_rfl) (by kernel_rfl) (by kernel_rfl) (by kernel_rfl) (by decide) (fun _ _ _ h => h) (Or.inl ⟨by rfl, ?_⟩) ?_
              rotate_left
              · intro w' hx; have r4 := hx.cell q4; have r5 := hx.cell q5; have r6 := hx.cell q6; have r7 := hx.cell q7; (go_simp <;> with_reducible rfl)
              simp only [Act.put, List.setIfInBounds_toArray, List.set_cons_zero, List.set_cons_succ]
              refine regT_one 2 _ (by kernel_rfl) rfl ?_
              intro K hK
              go_simp
              refine (unit_any _).mono ?_
              rintro e W4 ⟨rfl, hb⟩
              have hX1 := hx0.call hb
              refine hK.out _ _ (fun _ => hX1) ?_
              clear hK K
              refine regT_one 3 _ (by kernel_rfl) rfl ?_
              intro K hK
              go_simp
              refine hK.out _ _ (fun _ => hX1) ?_
              clear hK K
              refine regT_one 4 _ (by kernel_rfl) rfl ?_
              intro K hK
              go_simp
              refine hK.out _ _ (fun _ => hX1) ?_
              clear hK K
              refine regT_done (by kernel_rfl) ?_ _
              go_wp2
              go_ret
              exact ⟨rfl, Below.trans hA.drew (Below.mono hX1 hA.size)⟩
  · have e1 : (xy == 0) = false := by simp [h1]
    have d1 : decide (xy = 0) = false := decide_eq_false h1
    have du : ¬ (([xx, xy, yx, yy] : List Int) = [16384, 0, 0, 16384]) := fun h => by
      simp at h
      exact h1 h.2.1
    rw [d1]
    clear h1
    by_cases k8 : k = 8
    · subst k8
      rw [if_pos rfl]
      by_cases h3 : xx = yy
      · subst h3
        rw [show decide (xx = xx) = true by simp]
        go_enter Try.func152, Try.ntmps152
        go_wp2
        go_ret
        exact ⟨rfl, hA⟩
      · have e3 : (xx == yy) = false := by simp [h3]
        rw [decide_eq_false h3]
        clear h3
        go_enter Try.func152, Try.ntmps152
        go_wp2
        go_ret
        exact ⟨rfl, hA⟩
    · by_cases k64 : k = 64
      · subst k64
        rw [if_neg (by decide), if_pos rfl]
        go_enter Try.func152, Try.ntmps152
        go_wp2
        go_ret
        exact ⟨rfl, hA⟩
      · by_cases k128 : k = 128
        · subst k128
          rw [if_neg (by decide), if_neg (by decide), if_pos rfl]
          go_enter Try.func152, Try.ntmps152
          go_wp2
          go_ret
          exact ⟨rfl, hA⟩
        · rw [if_neg k8, if_neg k64, if_neg k128]
          have e8 : (k == 8) = false := by simp [k8]
          have e64 : (k == 64) = false := by simp [k64]
          have e128 : (k == 128) = false := by simp [k128]
          clear k8 k64 k128 hin
          rw [decide_eq_false du]
          by_cases u1 : xx = 16384
          · subst u1
            go_enter Try.func152, Try.ntmps152
            go_upto_region 3 with fail
            generalize w.alloc _ = V at *
            have hx0 : Ext V.drew V.drew := Ext.refl _
            have q4 : V.drew.cell? ⟨w.heap.size, 4, none⟩ = _ := c4
            have q5 : V.drew.cell? ⟨w.heap.size, 5, none⟩ = _ := c5
            have q6 : V.drew.cell? ⟨w.heap.size, 6, none⟩ = _ := c6
            have q7 : V.drew.cell? ⟨w.heap.size, 7, none⟩ = _ := c7
            refine regT_start 5 (Ext V.drew) (by kernel_rfl) ?_
            refine regT_take (i := 0) (d := some 17) (v := ?_) [] hx0 rfl rfl (by kernel_rfl) (by kernel_rfl) (by kernel_rfl) (by kernel_rfl) (by kernel_rfl) (by decide) (fun _ _ _ h => h) (Or.inl ⟨by rfl, ?_⟩) ?_
            rotate_left
            · intro w' hx; (go_simp <;> with_reducible rfl)
            simp only [Act.put, List.setIfInBounds_toArray, List.set_cons_zero, List.set_cons_succ]
            refine regT_take (i := 1) (d := some 18) (v := ?_) [] hx0 rfl rfl (by kernel_rfl) (by kernel_rfl) (by kernel_rfl) (by kernel_rfl) (by kernel_rfl) (by decide) (fun _ _ _ h => h) (Or.inl ⟨by rfl, ?_⟩) ?_
            rotate_left
            · intro w' hx; have r4 := hx.cell q4; have r5 := hx.cell q5; have r6 := hx.cell q6; have r7 := hx.cell q7; (go_simp <;> with_reducible rfl)
            simp only [Act.put, List.setIfInBounds_toArray, List.set_cons_zero, List.set_cons_succ]
            refine regT_one 2 _ (by kernel_rfl) rfl ?_
            intro K hK
            go_simp
            refine (unit_any _).mono ?_
            rintro e W4 ⟨rfl, hb⟩
            have hX1 := hx0.call hb
            refine hK.out _ _ (fun _ => hX1) ?_
            clear hK K
            refine regT_one 3 _ (by kernel_rfl) rfl ?_
            intro K hK
            go_simp
            refine hK.out _ _ (fun _ => hX1) ?_
            clear hK K
            refine regT_one 4 _ (by kernel_rfl) rfl ?_
            intro K hK
            go_simp
            refine hK.out _ _ (fun _ => hX1) ?_
            clear hK K
            refine regT_done (by kernel_rfl) ?_ _
            go_wp2
            go_ret
            exact ⟨rfl, Below.trans hA.drew (Below.mono hX1 hA.size)⟩
          · have f1 : (xx == 16384) = false := by simp [u1]
            have f3 : decide (xx = 16384) = false := decide_eq_false u1
            clear u1
            go_enter Try.func152, Try.ntmps152
            go_upto_region 3 with fail
            generalize w.alloc _ = V at *
            have hx0 : Ext V.drew V.drew := Ext.refl _
            have q4 : V.drew.cell? ⟨w.heap.size, 4, none⟩ = _ := c4
            have q5 : V.drew.cell? ⟨w.heap.size, 5, none⟩ = _ := c5
            have q6 : V.drew.cell? ⟨w.heap.size, 6, none⟩ = _ := c6
            have q7 : V.drew.cell? ⟨w.heap.size, 7, none⟩ = _ := c7
            refine regT_start 5 (Ext V.drew) (by kernel_rfl) ?_
            refine regT_take (i := 0) (d := some 17) (v := ?_) [] hx0 rfl rfl (by kernel_rfl) (by kernel_rfl) (by kernel_rfl) (by kernel_rfl) (by kernel_rfl) (by decide) (fun _ _ _ h => h) (Or.inl ⟨by rfl, ?_⟩) ?_
            rotate_left
            · intro w' hx; (go_simp <;> with_reducible rfl)
            simp only [Act.put, List.setIfInBounds_toArray, List.set_cons_zero, List.set_cons_succ]
            refine regT_take (i := 1) (d := some 18) (v := ?_) [] hx0 rfl rfl (by kernel_rfl) (by kernel_rfl) (by kernel_rfl) (by kernel_rfl) (by kernel_rfl) (by decide) (fun _ _ _ h => h) (Or.inl ⟨by rfl, ?_⟩) ?_
            rotate_left
            · intro w' hx; have r4 := hx.cell q4; have r5 := hx.cell q5; have r6 := hx.cell q6; have r7 := hx.cell q7; (go_simp <;> with_reducible rfl)
            simp only [Act.put, List.setIfInBounds_toArray, List.set_cons_zero, List.set_cons_succ]
            refine regT_one 2 _ (by kernel_rfl) rfl ?_
            intro K hK
            go_simp
            refine (unit_any _).mono ?_
            rintro e W4 ⟨rfl, hb⟩
            have hX1 := hx0.call hb
            refine hK.out _ _ (fun _ => hX1) ?_
            clear hK K
            refine regT_one 3 _ (by kernel_rfl) rfl ?_
            intro K hK
            go_simp
            refine hK.out _ _ (fun _ => hX1) ?_
            clear hK K
            refine regT_one 4 _ (by kernel_rfl) rfl ?_
            intro K hK
            go_simp
            refine hK.out _ _ (fun _ => hX1) ?_
            clear hK K
            refine regT_done (by kernel_rfl) ?_ _
            go_wp2
            go_ret
            exact ⟨rfl, Below.trans hA.drew (Below.mono hX1 hA.size)⟩
end Go.Proofs.Ytdaeffnaoeblpaa

/- compo: which parts may be, as a contract over this seat's translation. -/
namespace Go.Proofs.Ytdaeffnaoeblpaa
open Go.RowKit
set_option linter.unusedVariables false
set_option linter.unusedSimpArgs false

set_option maxRecDepth 100000 in
set_option maxHeartbeats 2000000 in
theorem cpart_any (p : Pt) (hp : p.ok) (w : World) : Calls Try.prog 111 #[p.val] w (Ret w (.bool (ptRight p))) := by
  have hA := (Below.refl w.heap.size w).alloc (Nat.le_refl _) (.cells p.cells 46)
  have hk := heap_alloc_new w (.cells p.cells 46)
  have hKn := w_known hp.f.1 hp.f.2
  have hK := w_and200 hp.f.1 hp.f.2
  have H2 := Lib.hid (fun W => chas_any p 2 _ W (w_and2 hp.f.1 hp.f.2))
  have H1 := Lib.hid (fun W => chas_any p 1 _ W (w_and1 hp.f.1 hp.f.2))
  have HO := Lib.hid (fun W => ones_any (knd p.f) (knd_in p.f) W)
  have HT := Lib.hid (twoK_ones p.f)
  have HM := Lib.hid (fun W => cmat_any p hp W)
  have HX := Lib.hid (fun W => cbyte_any p.x W)
  have HY := Lib.hid (fun W => cbyte_any p.y W)
  have hst : (fb p.f 16 || fb p.f 32 || fb p.f 2048 || decide (8192 ≤ p.f)) = strange p.f := rfl
  rw [hst] at hKn
  unfold ptRight
  generalize twoK p.f = tk at *
  generalize strange p.f = sg at *
  generalize matB (knd p.f) p = mb at *
  generalize knd p.f = k at *
  generalize byteB p.x = bx at *
  generalize byteB p.y = bY at *
  generalize fb p.f 2 = f2 at *
  generalize fb p.f 1 = f1 at *
  clear hst hp
  unfold Pt.val Pt.cells at *
  obtain ⟨f, i, x, y, xx, xy, yx, yy⟩ := p
  simp only at *
  obtain ⟨c0, c1, c2, c3, c4, c5, c6, c7⟩ := cells8 hk
  cases sg with
  | true =>
    go_enter Try.func111, Try.ntmps111
    go_wp2_with fail
    go_ret
    exact ⟨rfl, hA⟩
  | false =>
    go_enter Try.func111, Try.ntmps111
    go_wp2_with fail
    generalize w.alloc _ = V at *
    with_reducible refine (H2.out _).mono ?_
    rintro e w1 ⟨rfl, hb1⟩
    have hB1 := hA.trans (hb1.mono hA.size)
    have hk1 := kept_block hk hb1
    clear hk hb1 c0 c1 c2 c3 c4 c5 c6 c7 H2 hA
    obtain ⟨c0, c1, c2, c3, c4, c5, c6, c7⟩ := cells8 hk1
    cases f2 with
    | false =>
      go_wp2_with fail
      go_ret
      exact ⟨rfl, hB1⟩
    | true =>
      go_wp2_with fail
      with_reducible refine (HO.out _).mono ?_
      rintro e w2 ⟨rfl, hb2⟩
      have hB2 := hB1.trans (hb2.mono hB1.size)
      have hk2 := kept_block hk1 hb2
      have ht : decide (1 < onesK k) = tk := HT.out
      generalize onesK k = o at *
      clear hk1 hb2 hB1 c0 c1 c2 c3 c4 c5 c6 c7 HO hKn hK HT
      obtain ⟨c0, c1, c2, c3, c4, c5, c6, c7⟩ := cells8 hk2
      cases tk with
      | true =>
        go_wp2_with fail
        go_ret
        exact ⟨rfl, hB2⟩
      | false =>
        go_wp2_with fail
        with_reducible refine (HM.out _).mono ?_
        rintro e w3 ⟨rfl, hb3⟩
        have hB3 := hB2.trans (hb3.mono hB2.size)
        have hk3 := kept_block hk2 hb3
        clear hk2 hb3 hB2 c0 c1 c2 c3 c4 c5 c6 c7 HM ht
        obtain ⟨c0, c1, c2, c3, c4, c5, c6, c7⟩ := cells8 hk3
        cases mb with
        | false =>
          go_wp2_with fail
          go_ret
          exact ⟨rfl, hB3⟩
        | true =>
          go_wp2_with fail
          with_reducible refine (H1.out _).mono ?_
          rintro e w4 ⟨rfl, hb4⟩
          have hB4 := hB3.trans (hb4.mono hB3.size)
          have hk4 := kept_block hk3 hb4
          clear hk3 hb4 hB3 c0 c1 c2 c3 c4 c5 c6 c7 H1
          obtain ⟨c0, c1, c2, c3, c4, c5, c6, c7⟩ := cells8 hk4
          cases f1 with
          | true =>
            go_wp2_with fail
            go_ret
            exact ⟨rfl, hB4⟩
          | false =>
            go_wp2_with fail
            with_reducible refine (HX.out _).mono ?_
            rintro e w5 ⟨rfl, rfl⟩
            cases bx with
            | false =>
              go_wp2_with fail
              go_ret
              exact ⟨rfl, hB4⟩
            | true =>
              go_wp2_with fail
              with_reducible refine (HY.out _).mono ?_
              rintro e w5 ⟨rfl, rfl⟩
              cases bY
              all_goals
                go_wp2_with fail
                go_ret
                exact ⟨rfl, hB4⟩
end Go.Proofs.Ytdaeffnaoeblpaa

/- simple: its small functions, changes and Right, as contracts over this seat's translation. -/
namespace Go.Proofs.Ytdaeffnaoeblpaa
open Go.RowKit
set_option linter.unusedVariables false

def encSp (p : Sp) : List Value := [.int .i16 p.1, .int .i16 p.2.1, .bool p.2.2]
theorem encSp_len (p : Sp) : (encSp p).length = 3 := rfl
theorem encSp_one (p : Sp) : ∀ u ∈ encSp p, u.oneCell' = true := by intro u hu; simp [encSp] at hu; rcases hu with rfl | rfl | rfl <;> rfl
theorem Try.spinfo : (Try.prog.info? 54).map (fun i => (i.zero, i.size, i.bytes)) = some (some (.agg #[.int .i16 0, .int .i16 0, .bool false]), 3, 6) := by kernel_rfl

theorem atSp {w : World} {A : Option Addr} {n : Nat} {l : List Sp} {j : Nat} {x : Sp} (h : RowS encSp 3 w A n l) (hj : l[j]? = some x) :
    ∃ g off, A = some ⟨g, off, none⟩ ∧ g < w.heap.size ∧ w.cell? ⟨g, off + j * 3, none⟩ = some (.int .i16 x.1) ∧ w.cell? ⟨g, off + j * 3 + 1, none⟩ = some (.int .i16 x.2.1) ∧ w.cell? ⟨g, off + j * 3 + 2, none⟩ = some (.bool x.2.2) := by
  obtain ⟨g, off, e, hg, hc⟩ := h.at encSp_len (by omega) hj
  exact ⟨g, off, e, hg, hc 0 _ rfl, hc 1 _ rfl, hc 2 _ rfl⟩

/-- All numbers of an outline are of their kinds. -/
structure Gl.ok (g : Gl) : Prop where
  bx : ∀ x ∈ g.box, -32768 ≤ x ∧ x ≤ 32767
  es : ∀ x ∈ g.es, 0 ≤ x ∧ x < 65536
  pr : Bytes g.pr
  ps : ∀ p ∈ g.ps, (-32768 ≤ p.1 ∧ p.1 ≤ 32767) ∧ (-32768 ≤ p.2.1 ∧ p.2.1 ≤ 32767)

/-- An outline as a value, and where its lists lie. -/
structure GlV where
  g : Gl
  EA : Option Addr
  en : Nat
  ec : Nat
  PA : Option Addr
  pn : Nat
  pc : Nat
  SA : Option Addr
  sn : Nat
  sc : Nat
def GlV.cells (v : GlV) : Array Value := #[.int .i16 v.g.x0, .int .i16 v.g.x1, .int .i16 v.g.x2, .int .i16 v.g.x3, .slice v.EA v.en v.ec, .slice v.PA v.pn v.pc, .slice v.SA v.sn v.sc]
def GlV.val (v : GlV) : Value := .agg v.cells
structure GlV.rows (w : World) (v : GlV) : Prop where
  es : Row w v.EA v.en (cellsOf .u16 v.g.es)
  pr : Row w v.PA v.pn (cellsOf .u8 v.g.pr)
  ps : RowS encSp 3 w v.SA v.sn v.g.ps
theorem GlV.rows.below {w w' : World} {v : GlV} (h : v.rows w) (hb : Below w.heap.size w w') : v.rows w' := ⟨h.es.below hb, h.pr.below hb, h.ps.below hb⟩
/-- None of the lists is too long. -/
structure GlV.few (v : GlV) : Prop where
  en : v.en ≤ 10000
  pn : v.pn ≤ 10000
  sn : v.sn ≤ 10000

/-- As long as those of an outline that may be. -/
structure GlV.mid (v : GlV) : Prop where
  en : v.en ≤ 32767
  pn : v.pn ≤ 65535
  sn : v.sn ≤ 1000000
theorem GlV.few.mid {v : GlV} (h : v.few) : v.mid := ⟨by have := h.en; omega, by have := h.pn; omega, by have := h.sn; omega⟩

theorem ofits_any (d : Int) (w : World) : Calls Try.prog 49 #[.int .i64 d] w fun e w' => e = .returned (.bool (fitsB d)) ∧ w = w' := by
  unfold fitsB
  cases h1 : decide (-32768 ≤ d) <;> cases h2 : decide (d ≤ 32767)
  all_goals
    go_enter Try.func49, Try.ntmps49
    go_wp2
    go_ret
    exact ⟨rfl, rfl⟩

theorem ofar_any (d : Int) (w : World) : Calls Try.prog 48 #[.int .i64 d] w fun e w' => e = .returned (.bool (!fitsB d)) ∧ w = w' := by
  have H := Lib.hid (ofits_any d w)
  go_enter Try.func48, Try.ntmps48
  go_wp2_with fail
  refine H.out.mono ?_
  rintro e w' ⟨rfl, rfl⟩
  cases hb : fitsB d
  all_goals
    go_wp2
    go_ret
    exact ⟨by rw [hb]; rfl, rfl⟩

def shortB (d : Int) : Bool := decide (-255 ≤ d) && decide (d ≤ 255)
theorem oshort_any (d : Int) (w : World) : Calls Try.prog 115 #[.int .i64 d] w fun e w' => e = .returned (.bool (shortB d)) ∧ w = w' := by
  unfold shortB
  cases h1 : decide (-255 ≤ d) <;> cases h2 : decide (d ≤ 255)
  all_goals
    go_enter Try.func115, Try.ntmps115
    go_wp2
    go_ret
    exact ⟨rfl, rfl⟩
theorem shortB_eq (d : Int) : shortB d = decide (-255 ≤ d ∧ d ≤ 255) := by
  unfold shortB
  by_cases h1 : -255 ≤ d <;> by_cases h2 : d ≤ 255 <;> simp [h1, h2]

theorem obits_any (d sh pl : Int) (w : World) (hor : bits .or .u8 sh pl = sh + pl) : Calls Try.prog 61 #[.int .i64 d, .int .u8 sh, .int .u8 pl] w fun e w' => e = .returned (.int .u8 (bitsV d sh pl)) ∧ w = w' := by
  have H := Lib.hid (oshort_any d w)
  have Hor := Lib.hid hor
  clear hor
  by_cases h0 : d = 0
  · have HV : Hid (bitsV d sh pl = pl) := by show _ = _; unfold bitsV; rw [if_pos h0]
    rw [HV.out]
    have hd : (d == 0) = true := by simp [h0]
    clear h0
    go_enter Try.func61, Try.ntmps61
    go_wp2
    go_ret
    exact ⟨rfl, rfl⟩
  · have hd : (d == 0) = false := by simp [h0]
    by_cases hs : -255 ≤ d ∧ d ≤ 255
    · have HS : Hid (shortB d = true) := by show _ = _; rw [shortB_eq, decide_eq_true hs]
      by_cases hp : 0 < d
      · have HV : Hid (bitsV d sh pl = sh + pl) := by show _ = _; unfold bitsV; rw [if_neg h0, if_pos hs, if_pos hp]
        rw [HV.out]
        clear hs h0
        go_enter Try.func61, Try.ntmps61
        go_wp2_with fail
        refine H.out.mono ?_
        rintro e w' ⟨rfl, rfl⟩
        rw [HS.out]
        go_wp2
        go_ret
        rw [Hor.out]
        exact ⟨rfl, rfl⟩
      · have HV : Hid (bitsV d sh pl = sh) := by show _ = _; unfold bitsV; rw [if_neg h0, if_pos hs, if_neg hp]
        rw [HV.out]
        clear hs h0
        go_enter Try.func61, Try.ntmps61
        go_wp2_with fail
        refine H.out.mono ?_
        rintro e w' ⟨rfl, rfl⟩
        rw [HS.out]
        go_wp2
        go_ret
        exact ⟨rfl, rfl⟩
    · have HS : Hid (shortB d = false) := by show _ = _; rw [shortB_eq, decide_eq_false hs]
      have HV : Hid (bitsV d sh pl = 0) := by show _ = _; unfold bitsV; rw [if_neg h0, if_neg hs]
      rw [HV.out]
      clear hs h0
      go_enter Try.func61, Try.ntmps61
      go_wp2_with fail
      refine H.out.mono ?_
      rintro e w' ⟨rfl, rfl⟩
      rw [HS.out]
      go_wp2
      go_ret
      exact ⟨rfl, rfl⟩

theorem oalongX_any (p : Sp) (w : World) : Calls Try.prog 52 #[.agg #[.int .i16 p.1, .int .i16 p.2.1, .bool p.2.2]] w (Ret w (.int .i16 p.1)) := by
  obtain ⟨x, y, o⟩ := p
  have hA := (Below.refl w.heap.size w).alloc (Nat.le_refl _) (.cells #[.int .i16 x, .int .i16 y, .bool o] 54)
  go_enter Try.func52, Try.ntmps52
  go_wp2
  go_ret
  exact ⟨rfl, hA⟩
theorem oalongY_any (p : Sp) (w : World) : Calls Try.prog 53 #[.agg #[.int .i16 p.1, .int .i16 p.2.1, .bool p.2.2]] w (Ret w (.int .i16 p.2.1)) := by
  obtain ⟨x, y, o⟩ := p
  have hA := (Below.refl w.heap.size w).alloc (Nat.le_refl _) (.cells #[.int .i16 x, .int .i16 y, .bool o] 54)
  go_enter Try.func53, Try.ntmps53
  go_wp2
  go_ret
  exact ⟨rfl, hA⟩

set_option maxHeartbeats 1000000 in
theorem orise_any (A : Option Addr) (n c : Nat) (l : List Int) (w : World) (hr : Row w A n (cellsOf .u16 l)) (hn : n ≤ 1000000) :
    Calls Try.prog 46 #[.slice A n c] w fun e w' => e = .returned (.bool (riseN l n)) ∧ w = w' := by
  have Hl := Lib.hid hr.len
  go_enter Try.func46, Try.ntmps46
  go_wp2
  go_loop [7] (fun i => ∃ k : Nat, k ≤ n ∧ i = .int .i64 k ∧ Hid (riseN l k = true)) (fun i => n - (intOf i).toNat)
  case atStart => exact ⟨0, Nat.zero_le _, rfl, Lib.hid rfl⟩
  case round =>
    obtain ⟨k, hk, rfl, HR⟩ := hrel
    by_cases hlt : k < n
    · obtain ⟨x, hx⟩ := get_some (zs := l) (k := k) (by have := Hl.out; omega)
      obtain ⟨g, off, rfl, hg, hc⟩ := hr.at (cellsOf_get (k := .u16) hx)
      rcases Nat.eq_zero_or_pos k with h0 | h0
      · subst h0
        have HT : Hid (riseN l (0 + 1) = true) := by show _ = _; rw [riseN_succ, HR.out]; rfl
        rw [Nat.add_zero] at hc
        clear hx HR
        go_wp2
        go_round
        case rel => exact ⟨1, by omega, by go_num, HT⟩
        case measure => simp [intOf]; omega
      · obtain ⟨m, rfl⟩ : ∃ m, k = m + 1 := ⟨k - 1, by omega⟩
        obtain ⟨y, hy⟩ := get_some (zs := l) (k := m) (by have := Hl.out; omega)
        obtain ⟨g', off', e', _, hc'⟩ := hr.at (cellsOf_get (k := .u16) hy)
        simp only [Option.some.injEq, Addr.mk.injEq, and_true] at e'
        obtain ⟨rfl, rfl⟩ := e'
        have e2 : ((m : Int) + 1 - 1) = (m : Int) := by omega
        have HA : Hid (riseA l (m + 1) = decide (y < x)) := by
          show _ = _
          unfold riseA
          rw [decide_eq_false (by omega), Bool.false_or, List.getD_eq_getElem?_getD, List.getD_eq_getElem?_getD, hx, Nat.add_sub_cancel, hy]
          rfl
        clear hx hy
        by_cases hxy : x ≤ y
        · have HF : Hid (riseN l n = false) := riseN_not (by rw [HA.out, decide_eq_false (by omega)]) hlt
          clear HA HR
          go_wp2
          go_ret
          exact ⟨by rw [HF.out]; rfl, rfl⟩
        · have HT : Hid (riseN l (m + 1 + 1) = true) := by show _ = _; rw [riseN_succ, HR.out, HA.out, decide_eq_true (by omega)]; rfl
          clear HA HR
          go_wp2
          go_round
          case rel => exact ⟨m + 1 + 1, by omega, by go_num, HT⟩
          case measure => simp [intOf]; omega
    · obtain rfl : k = n := by omega
      go_wp2
      go_ret
      exact ⟨by rw [HR.out]; rfl, rfl⟩

set_option maxHeartbeats 1000000 in
theorem ocount_any (v : GlV) (w : World) (hr : v.rows w) (hn : v.en ≤ 1000000) (hes : ∀ x ∈ v.g.es, 0 ≤ x ∧ x < 65536) :
    Calls Try.prog 47 #[v.val] w (Ret w (.int .i64 (cntE v.g.es : Nat))) := by
  have hA := (Below.refl w.heap.size w).alloc (Nat.le_refl _) (.cells v.cells 44)
  have hre := hr.es
  have Hl := Lib.hid hre.len
  unfold GlV.val GlV.cells
  unfold GlV.cells at hA
  clear hr
  obtain ⟨⟨x0, x1, x2, x3, es, pr, ps⟩, EA, en, ec, PA, pn, pc, SA, sn, sc⟩ := v
  simp only at *
  rcases Nat.eq_zero_or_pos en with h0 | h0
  · subst h0
    have HC : Hid (cntE es = 0) := by show _ = _; unfold cntE; rw [if_pos Hl.out]
    rw [HC.out]
    go_enter Try.func47, Try.ntmps47
    go_wp2
    go_ret
    exact ⟨rfl, hA⟩
  · obtain ⟨m, rfl⟩ : ∃ m, en = m + 1 := ⟨en - 1, by omega⟩
    obtain ⟨x, hx⟩ := get_some (zs := es) (k := m) (by have := Hl.out; omega)
    obtain ⟨g, off, rfl, hg, hc⟩ := hre.at (cellsOf_get (k := .u16) hx)
    obtain ⟨b0, b1⟩ := hes x (List.mem_of_getElem? hx)
    have HC : Hid (((cntE es : Nat) : Int) = x + 1) := by
      show _ = _
      unfold cntE
      rw [if_neg (by have := Hl.out; omega), List.getD_eq_getElem?_getD, show es.length - 1 = m by have := Hl.out; omega, hx]
      simp
      omega
    rw [HC.out]
    have e2 : ((m : Int) + 1 - 1) = (m : Int) := by omega
    have hd : ((m : Int) + 1 == 0) = false := by simp; omega
    have hgn : g ≠ w.heap.size := by omega
    clear hx hes hre
    go_enter Try.func47, Try.ntmps47
    go_wp2
    go_ret
    exact ⟨rfl, hA⟩

set_option maxHeartbeats 1000000 in
theorem oindex_any (A : Option Addr) (n c : Nat) (l : List Int) (w : World) (hr : Row w A n (cellsOf .i64 l)) (hn : n ≤ 1000000) :
    Calls Try.prog 110 #[.slice A n c, .func (.func 48) #[] #[]] w fun e w' => (∃ r : Int, e = .returned (.int .i64 r) ∧ decide (0 ≤ r) = !fitL l) ∧ w = w' := by
  have Hl := Lib.hid hr.len
  have eg : ∀ args w, (callFunc 48 args).run Try.prog w = .ok (.enter 48 args) w := enters_of Try.func48 (by kernel_rfl) rfl
  go_enter Try.func110, Try.ntmps110
  go_wp2
  go_loop [8] (fun i => ∃ k : Nat, k ≤ n ∧ i = .int .i64 k ∧ Hid (fitL (l.take k) = true)) (fun i => n - (intOf i).toNat)
  case atStart => exact ⟨0, Nat.zero_le _, rfl, Lib.hid rfl⟩
  case round =>
    obtain ⟨k, hk, rfl, HR⟩ := hrel
    by_cases hlt : k < n
    · obtain ⟨x, hx⟩ := get_some (zs := l) (k := k) (by have := Hl.out; omega)
      obtain ⟨g, off, rfl, hg, hc⟩ := hr.at (cellsOf_get (k := .i64) hx)
      have HS : Hid (fitL (l.take (k + 1)) = fitsB x) := by
        have h1 := HR.out
        show _ = _
        unfold fitL at *
        rw [List.take_add_one, hx, List.all_append, h1]
        simp
      have HN : Hid (fitsB x = false → fitL l = false) := fun h => by
        unfold fitL
        rw [List.all_eq_false]
        exact ⟨x, List.mem_of_getElem? hx, by rw [h]; simp⟩
      have HF := Lib.hid (ofar_any x w)
      clear hx HR
      go_wp2_with fail
      refine HF.out.mono ?_
      rintro e w' ⟨rfl, rfl⟩
      cases hb : fitsB x with
      | false =>
        have HN2 := Lib.hid (HN.out hb)
        clear HN HS hb HF
        go_wp2
        go_ret
        exact ⟨⟨k, rfl, by rw [HN2.out]; simp⟩, rfl⟩
      | true =>
        rw [hb] at HS
        clear HN hb HF
        go_wp2
        go_round
        case rel => exact ⟨k + 1, by omega, by go_num, HS⟩
        case measure => simp [intOf]; omega
    · obtain rfl : k = n := by omega
      rw [List.take_of_length_le (by have := Hl.out; omega)] at HR
      go_wp2
      go_ret
      exact ⟨⟨-1, rfl, by rw [HR.out]; rfl⟩, rfl⟩

theorem ocontains_any (A : Option Addr) (n c : Nat) (l : List Int) (w : World) (hr : Row w A n (cellsOf .i64 l)) (hn : n ≤ 1000000) :
    Calls Try.prog 50 #[.slice A n c, .func (.func 48) #[] #[]] w fun e w' => e = .returned (.bool (!fitL l)) ∧ w = w' := by
  have H := Lib.hid (oindex_any A n c l w hr hn)
  go_enter Try.func50, Try.ntmps50
  go_wp2_with fail
  refine H.out.mono ?_
  rintro e w' ⟨⟨r, rfl, hd⟩, rfl⟩
  have HD := Lib.hid hd
  clear hd
  go_wp2
  go_ret
  rw [← HD.out]
  exact ⟨rfl, rfl⟩

/-- The number ahead. -/
def ahd (xs : List Int) (k : Nat) : Int := if k = 0 then 0 else xs.getD (k - 1) 0

set_option maxRecDepth 100000 in
set_option maxHeartbeats 2000000 in
theorem ochanges_any (f : Nat) (val : Sp → Int) (eg : ∀ args w, (callFunc f args).run Try.prog w = .ok (.enter f args) w) (hf : ∀ (x : Sp) (W : World), Calls Try.prog f #[.agg #[.int .i16 x.1, .int .i16 x.2.1, .bool x.2.2]] W (Ret W (.int .i16 (val x))))
    (v : GlV) (w : World) (hr : v.rows w) (hn : v.sn ≤ 1000000) (hb : ∀ p ∈ v.g.ps, -32768 ≤ val p ∧ val p ≤ 32767) :
    Calls Try.prog 51 #[v.val, .func (.func f) #[] #[]] w (RetN 3 .i64 w (chs (v.g.ps.map val))) := by
  obtain ⟨i0, hi, hz0, hz1, hz2⟩ := info_parts Try.i64info
  have hA := (Below.refl w.heap.size w).alloc (Nat.le_refl _) (.cells v.cells 44)
  have hrs := hr.ps
  have Hl := Lib.hid hrs.len
  have HF := Lib.hid hf
  have HB := Lib.hid hb
  unfold GlV.val GlV.cells
  unfold GlV.cells at hA
  clear hr hf hb
  obtain ⟨⟨x0, x1, x2, x3, es, pr, ps⟩, EA, en, ec, PA, pn, pc, SA, sn, sc⟩ := v
  simp only at *
  go_enter Try.func51, Try.ntmps51
  go_wp2_with (at_make; refine wpList_make_ints rfl (.tmp 12) (.tmp 12) _ rfl 3 .i64 w.heap.size i0 8 Try.underlying71 hi hz0 hz1 hz2 _ _ sn sn rfl rfl (by omega) (by omega) (Nat.le_refl _) (by omega) (by omega) (by simp) ?_; intro w1 hown1 hg1; have k1 := (hg1.block w.heap.size (by simp) (by simp)).trans (heap_alloc_new w (.cells #[.int .i16 x0, .int .i16 x1, .int .i16 x2, .int .i16 x3, .slice EA en ec, .slice PA pn pc, .slice SA sn sc] 44)); have c6 : w1.cell? ⟨w.heap.size, 6, none⟩ = some (.slice SA sn sc) := cell_of_row w1 _ 6 _ _ _ k1; clear k1)
  clear c6
  have hb1 : Below w.heap.size w w1 := hA.grown hg1 hA.size (fun k e => by cases e)
  have hxl : (ps.map val).length = sn := by rw [List.length_map]; exact Hl.out
  have Hxl := Lib.hid hxl
  clear hg1 hA hi hz0 hz1 hz2 hxl
  simp only [show (w.alloc (.cells #[.int .i16 x0, .int .i16 x1, .int .i16 x2, .int .i16 x3, .slice EA en ec, .slice PA pn pc, .slice SA sn sc] 44)).heap.size = w.heap.size + 1 by simp] at *
  generalize hgp : w.heap.size + 1 = gp at *
  have Hgp := Lib.hid hgp
  clear hgp
  go_loopw [6, 17] (fun a i wr => ∃ k : Nat, k ≤ sn ∧ i = .int .i64 k ∧ a = .int .i64 (ahd (ps.map val) k) ∧ Own 3 .i64 wr w.heap.size (some ⟨gp, 0, none⟩) sn sn (chK (ps.map val) k ++ List.replicate (sn - k) 0) ∧ Below w.heap.size w wr) (fun _ i _ => sn - (intOf i).toNat)
  case atStart => exact ⟨0, Nat.zero_le _, rfl, rfl, hown1, hb1⟩
  case round =>
    clear hown1 hb1
    obtain ⟨k, hk, rfl, rfl, hown, hbel⟩ := hrel
    have hsz := hbel.size
    by_cases hlt : k < sn
    · obtain ⟨p, hp⟩ : ∃ p, ps[k]? = some p := ⟨ps[k]'(by have := Hl.out; omega), List.getElem?_eq_getElem (by have := Hl.out; omega)⟩
      obtain ⟨g, off, rfl, hg, q0, q1, q2⟩ := atSp (hrs.below hbel) hp
      obtain ⟨v0, v1⟩ := HB.out p (List.mem_of_getElem? hp)
      have hpv : (ps.map val).getD k 0 = val p := by simp [hp]
      have hch : chA (ps.map val) k = val p - ahd (ps.map val) k := by
        unfold chA ahd
        rw [hpv]
      have hah : ahd (ps.map val) (k + 1) = val p := by
        unfold ahd
        rw [if_neg (by omega), Nat.add_sub_cancel, hpv]
      have hab : -32768 ≤ ahd (ps.map val) k ∧ ahd (ps.map val) k ≤ 32767 := by
        unfold ahd
        split
        · omega
        · obtain ⟨y, hy⟩ : ∃ y, ps[k - 1]? = some y := ⟨ps[k - 1]'(by have := Hl.out; omega), List.getElem?_eq_getElem (by have := Hl.out; omega)⟩
          have := HB.out y (List.mem_of_getElem? hy)
          simp [hy]
          exact this
      obtain ⟨u0, u1⟩ := hab
      have HS := Lib.hid (chK_set (ps.map val) k sn hlt)
      rw [hch] at HS
      have HAH := Lib.hid hah
      obtain ⟨z, hz⟩ : ∃ z, (chK (ps.map val) k ++ List.replicate (sn - k) 0)[k]? = some z := ⟨_, List.getElem?_eq_getElem (by simp [chK_len]; omega)⟩
      have HZ := Lib.hid hz
      have HP := Lib.hid (HF.out p)
      clear hp hpv hch hah hz
      obtain ⟨px, py, po⟩ := p
      simp only at *
      generalize val (px, py, po) = vp at *
      generalize ahd (ps.map val) k = va at *
      have hA2 := (Below.refl wr.heap.size wr).alloc (Nat.le_refl _) (.cells #[.int .i16 px, .int .i16 py, .bool po] 54)
      have hown2 := hown.below hA2
      have hbel2 := hbel.trans (hA2.mono hsz)
      have hgn : g ≠ wr.heap.size := by omega
      clear hown hbel
      go_wp2_with fail
      refine (HP.out _).mono ?_
      rintro e w2 ⟨rfl, hb2⟩
      have hown3 := hown2.below hb2
      have hbel3 := hbel2.trans (hb2.mono hbel2.size)
      obtain ⟨gg, off', e', _, hc'⟩ := hown3.row.at (cellsOf_get (k := .i64) HZ.out)
      simp only [Option.some.injEq, Addr.mk.injEq, and_true] at e'
      obtain ⟨rfl, rfl⟩ := e'
      rw [Nat.zero_add] at hc'
      have f0 := hown3.thaw
      have hs4 := hown3.set k (vp - va)
      rw [HS.out] at hs4
      have H4 := Lib.hid hs4
      have B4 := Lib.hid (hbel3.setCell (p := ⟨gp, k, none⟩) (hown3.from_ gp rfl).1 (.int .i64 (vp - va)))
      clear hown2 hbel2 hA2 hb2 hs4 hown3 hbel3 HP HS q0 q1 q2
      go_wp2
      go_roundw
      case rel => exact ⟨k + 1, by omega, by go_num, by rw [HAH.out], H4.out, B4.out⟩
      case measure => simp [intOf]; omega
    · obtain rfl : k = sn := by omega
      rw [Nat.sub_self, List.replicate_zero, List.append_nil, ← Hxl.out] at hown
      go_wp2
      go_ret
      refine ⟨_, _, _, rfl, ?_, hbel⟩
      rw [← Hxl.out]
      exact hown

end Go.Proofs.Ytdaeffnaoeblpaa
