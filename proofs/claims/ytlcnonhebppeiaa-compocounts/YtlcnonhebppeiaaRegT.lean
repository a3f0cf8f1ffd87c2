/- A region that draws its order and ends in operations that wait for all the rest (stores): what is kept is asked only of those ahead of the end. -/
import Derived.Test.YtlcnonhebppeiaaRegF
import Derived.StillTail
namespace Go.Proofs.Ytlcnonhebppeiaa
open Go.RowKit
set_option linter.unusedVariables false

section
variable {P : Program} {ops : Array Oper} {Q : Exit → Act → World → Prop} {md : Region.Mode} {S : World → Prop} {T : Nat}

/-- Whichever comes up; behind one of the first T the world still meets S. -/
def anyT (P : Program) (md : Region.Mode) (ops : Array Oper) (Q : Exit → Act → World → Prop) (S : World → Prop) (T : Nat) : Nat → Array Bool → Act → World → Prop
  | 0, D, a, w => Region.ready md ops D = [] ∧ Q .normal a w
  | n + 1, D, a, w => (Region.ready md ops D = [] → Q .normal a w) ∧
    ∀ j ∈ Region.ready md ops D, wpOp P ops Q j (fun b u => (j < T → S u) ∧ anyT P md ops Q S T n (D.setIfInBounds j true) b u) a w

theorem anyT_plain : ∀ (n : Nat) (D : Array Bool) (a : Act) (w : World), anyT P md ops Q S T n D a w → wpAny P md ops Q n D a w
  | 0, _, _, _, h => h
  | n + 1, _, _, _, h => ⟨h.1, fun j hj => wpOp_mono (fun _ _ k => anyT_plain n _ _ _ k.2) (h.2 j hj)⟩

theorem regT_start {id : Nat} {a : Act} {w : World} (T : Nat) (S : World → Prop) (hm : P.follows .mixedOrders = true) (h : anyT P .any ops Q S T ops.size (Array.replicate ops.size false) a w.drew) : (Code.region id ops true).wp P Q a w := wp_region_any hm (anyT_plain _ _ _ _ h)

/-- One waits for another, by a way of waits. -/
def pathB (md : Region.Mode) (ops : Array Oper) (i : Nat) : List Nat → Nat → Bool
  | [], j => Region.waitsFor md ops j i
  | k :: ks, j => Region.waitsFor md ops j k && pathB md ops i ks k
/-- The end waits for i. -/
def endWaits (md : Region.Mode) (ops : Array Oper) (T i : Nat) (ks : List Nat) : Bool := (List.range ops.size).all fun j => decide (j < T) || Region.waitsFor md ops j i || pathB md ops i ks j
/-- Nothing of the end has come up, and whatever has come up had what it waits for. -/
def headB (md : Region.Mode) (ops : Array Oper) (T : Nat) (D : Array Bool) : Bool :=
  decide (D.size = ops.size) && (List.range ops.size).all fun j => (decide (j < T) || !(D.getD j true)) && (!(D.getD j false) || (((ops[j]?).map fun o => o.after.all fun e => !(Region.binds md e) || D.getD e.on false).getD true))
theorem headB_inv {D : Array Bool} (h : headB md ops T D = true) : HeadInv md ops T D := by
  unfold headB at h
  simp only [Bool.and_eq_true, decide_eq_true_eq, List.all_eq_true, List.mem_range] at h
  obtain ⟨h1, h2⟩ := h
  refine ⟨h1, ?_, ?_⟩
  · intro j o ho hD e he hb
    have hj := (Array.getElem?_eq_some_iff.1 ho).1
    have h3 := (h2 j hj).2
    rw [ho, hD] at h3
    simp only [Bool.not_true, Bool.false_or, Option.map_some, Option.getD_some, Array.all_eq_true_iff_forall_mem] at h3
    have h4 := h3 e he
    rw [hb] at h4
    simpa using h4
  · intro t ht htn
    have h3 := (h2 t htn).1
    rw [decide_eq_false (by omega)] at h3
    simpa using h3
theorem path_listed {D : Array Bool} (inv : HeadInv md ops T D) {i : Nat} : ∀ (ks : List Nat) (j : Nat) (p : Oper), ops[j]? = some p → (∀ e ∈ p.after, Region.binds md e = true → D.getD e.on false = true) → pathB md ops i ks j = true → D.getD i false = true
  | [], j, p, hp, hd, h => by
    obtain ⟨p', hp', e, he, hb, hei⟩ := Region.waitsFor_spec h
    rw [hp] at hp'
    cases hp'
    exact hei ▸ hd e he hb
  | k :: ks, j, p, hp, hd, h => by
    simp only [pathB, Bool.and_eq_true] at h
    obtain ⟨p', hp', e, he, hb, hei⟩ := Region.waitsFor_spec h.1
    rw [hp] at hp'
    cases hp'
    have hk : D.getD k false = true := hei ▸ hd e he hb
    have hks : k < ops.size := by
      rw [← inv.size]
      rcases Nat.lt_or_ge k D.size with h' | h'
      · exact h'
      · simp [Array.getElem?_eq_none h'] at hk
    exact path_listed inv ks k (ops[k]) (Array.getElem?_eq_getElem hks) (fun e he hb => inv.closed k _ (Array.getElem?_eq_getElem hks) hk e he hb) h.2

theorem anyT_first {i : Nat} {o : Oper} {v : Value} {ks : List Nat} (hi : ops[i]? = some o) (hsel : ∀ (j : Nat) (p : Oper) cs b, ops[j]? = some p → p.op ≠ .select cs b) (hQ : ∀ c a w, Q (.panic c) (a.put o.dst v) w → Q (.panic c) a w) (hT : endWaits md ops T i ks = true) (hiT : i < T) :
    ∀ (n : Nat) (D : Array Bool) (a : Act) (w : World), HeadInv md ops T D →
      (∀ j p, ops[j]? = some p → j ≠ i → D.getD j true = false → (∀ e ∈ p.after, Region.binds md e = true → e.on ≠ i) → o.apart ops p = true) →
      i ∈ Region.ready md ops D → YieldsIf P ops S o v a → S w → anyT P md ops Q S T n (D.setIfInBounds i true) (a.put o.dst v) w → anyT P md ops Q S T (n + 1) D a w := by
  intro n
  induction n with
  | zero =>
    intro D a w _ _ hr hy hS H
    constructor
    · intro h; rw [h] at hr; cases hr
    · intro j hj
      by_cases hji : j = i
      · subst hji
        exact hy.wpOp hi hS ⟨fun _ => hS, H⟩
      · have hm := ready_mono hj hji
        rw [H.1] at hm
        cases hm
  | succ n ih =>
    intro D a w inv hf hr hy hS H
    constructor
    · intro h; rw [h] at hr; cases hr
    · intro j hj
      by_cases hji : j = i
      · subst hji
        exact hy.wpOp hi hS ⟨fun _ => hS, H⟩
      · obtain ⟨hju, p, hp, hd⟩ := mem_ready.1 hj
        have hiu := getD_both (mem_ready.1 hr).1
        have hno : ∀ e ∈ p.after, Region.binds md e = true → e.on ≠ i := by
          intro e he hb hei
          have h1 := hd e he hb
          rw [hei, hiu] at h1
          cases h1
        have hjT : j < T := by
          have hjs : j < ops.size := (Array.getElem?_eq_some_iff.1 hp).1
          have h1 := List.all_eq_true.1 hT j (List.mem_range.2 hjs)
          simp only [Bool.or_eq_true, decide_eq_true_eq] at h1
          rcases h1 with (h1 | h1) | h1
          · exact h1
          · have h2 := path_listed inv [] j p hp hd h1
            rw [hiu] at h2
            cases h2
          · have h2 := path_listed inv ks j p hp hd h1
            rw [hiu] at h2
            cases h2
        have h2 := wpOp_putIf hp (hf j p hp hji hju hno) (fun cs b => hsel i o cs b hi) (fun cs b => hsel j p cs b hp) hQ hy (H.2 j (ready_mono hj hji))
        refine wpOp_mono (fun b u h3 => ⟨fun _ => h3.2.1 hjT, ?_⟩) h2
        refine ih _ b u (inv.set hj hjT) ?_ (ready_mono hr (Ne.symm hji)) h3.1 (h3.2.1 hjT) ?_
        · intro k q hk hki hku hq
          refine hf k q hk hki ?_ hq
          by_cases hjk : j = k
          · exact hjk ▸ hju
          · rwa [getD_set_ne true hjk] at hku
        · rw [Array.setIfInBounds_comm _ _ hji]
          exact h3.2.2

theorem regT_take {i : Nat} {d : Option Tmp} {o : Oper} {v : Value} {n : Nat} {D : Array Bool} {a : Act} {w : World} (ks : List Nat) (hS : S w) (hi : ops[i]? = some o) (hd : o.dst = d) (hs : Region.noSelect ops = true) (hf : Region.free md ops D i = true) (hr : (Region.ready md ops D).contains i = true) (hT : endWaits md ops T i ks = true) (hI : headB md ops T D = true) (hiT : i < T)
    (hQ : ∀ c a w, Q (.panic c) (a.put o.dst v) w → Q (.panic c) a w) (hy : YieldsIf P ops S o v a) (h : anyT P md ops Q S T n (D.setIfInBounds i true) (a.put d v) w) : anyT P md ops Q S T (n + 1) D a w := by
  subst hd
  exact anyT_first hi (Region.noSelect_spec hs) hQ hT hiT n D a w (headB_inv hI) (Region.free_spec hi hf) (by simpa using hr) hy hS h

/-- One of those that may come up. -/
def OneT (P : Program) (md : Region.Mode) (ops : Array Oper) (Q : Exit → Act → World → Prop) (S : World → Prop) (T : Nat) (n : Nat) (D : Array Bool) (a : Act) (w : World) (i : Nat) (o : Oper) : Prop :=
  ∀ K : Act → World → Prop, Shut (∀ b u, (i < T → S u) → anyT P md ops Q S T n (D.setIfInBounds i true) b u → K b u) → if Region.wanted o (yielded ops a.tmps) = true then Oper.wp P o a w K Q else K (a.put o.dst undef) w

theorem oneT_op {n : Nat} {D : Array Bool} {a : Act} {w : World} {i : Nat} {o : Oper} (ho : ops[i]? = some o) (h : OneT P md ops Q S T n D a w i o) : wpOp P ops Q i (fun b u => (i < T → S u) ∧ anyT P md ops Q S T n (D.setIfInBounds i true) b u) a w :=
  wpOp_step ho fun K hK => h K fun b u hx hw => hK b u ⟨hx, hw⟩

theorem regT_all {rs : List Nat} {n : Nat} {D : Array Bool} {a : Act} {w : World} (hr : Region.ready md ops D = rs) (hne : rs ≠ []) (h : ∀ i ∈ rs, ∃ o, ops[i]? = some o ∧ OneT P md ops Q S T n D a w i o) : anyT P md ops Q S T (n + 1) D a w :=
  ⟨fun h0 => absurd (hr ▸ h0) hne, fun i hi => by
    rw [hr] at hi
    obtain ⟨o, ho, h1⟩ := h i hi
    exact oneT_op ho h1⟩
theorem regT_one {n : Nat} {D : Array Bool} {a : Act} {w : World} (i : Nat) (o : Oper) (hr : Region.ready md ops D = [i]) (ho : ops[i]? = some o) (h : OneT P md ops Q S T n D a w i o) : anyT P md ops Q S T (n + 1) D a w :=
  regT_all hr (by simp) fun j hj => by simp at hj; subst hj; exact ⟨o, ho, h⟩
theorem regT_two {n : Nat} {D : Array Bool} {a : Act} {w : World} (i j : Nat) (o p : Oper) (hr : Region.ready md ops D = [i, j]) (ho : ops[i]? = some o) (hp : ops[j]? = some p) (h : OneT P md ops Q S T n D a w i o) (k : OneT P md ops Q S T n D a w j p) : anyT P md ops Q S T (n + 1) D a w :=
  regT_all hr (by simp) fun q hq => by
    simp at hq
    rcases hq with rfl | rfl
    · exact ⟨o, ho, h⟩
    · exact ⟨p, hp, k⟩
theorem regT_three {n : Nat} {D : Array Bool} {a : Act} {w : World} (i j l : Nat) (o p r : Oper) (hr : Region.ready md ops D = [i, j, l]) (ho : ops[i]? = some o) (hp : ops[j]? = some p) (hl : ops[l]? = some r) (h : OneT P md ops Q S T n D a w i o) (k : OneT P md ops Q S T n D a w j p) (m : OneT P md ops Q S T n D a w l r) : anyT P md ops Q S T (n + 1) D a w :=
  regT_all hr (by simp) fun q hq => by
    simp at hq
    rcases hq with rfl | rfl | rfl
    · exact ⟨o, ho, h⟩
    · exact ⟨p, hp, k⟩
    · exact ⟨r, hl, m⟩
theorem regT_done {D : Array Bool} {a : Act} {w : World} (hr : Region.ready md ops D = []) (h : Q .normal a w) : ∀ n, anyT P md ops Q S T n D a w
  | 0 => ⟨hr, h⟩
  | n + 1 => ⟨fun _ => h, fun j hj => by rw [hr] at hj; cases hj⟩
end
end Go.Proofs.Ytlcnonhebppeiaa
