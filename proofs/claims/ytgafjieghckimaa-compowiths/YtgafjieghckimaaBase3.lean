/- What the laws of this seat lean on: RegT ComA ComA2 ComA3 ComB ComB2 JoinN Equal. -/
import Derived.StillTail
import Derived.Deep.DeepCutAuto
import Derived.Laws.StructEq
import Derived.Laws.BytesArg
import Derived.Test.YtgafjieghckimaaBase1
import Derived.Test.YtgafjieghckimaaBase2

/- A region that draws its order and ends in operations that wait for all the rest (stores): what is kept is asked only of those ahead of the end. -/
namespace Go.Proofs.Ytgafjieghckimaa
open Go.RowKit
set_option linter.unusedVariables false

section
variable {P : Program} {ops : Array Oper} {Q : Exit → Act → World → Prop} {md : Region.Mode} {S : World → Prop} {T : Nat}

/-- Whichever comes up; behind one of the first T the world still meets S. -/
def anyT (P : Program) (md : Region.Mode) (ops : Array Oper) (Q : Exit → Act → World → Prop) (S : World → Prop) (T : Nat) : Nat → Array Bool → Act → World → Prop
  | 0, D, a, w => Region.ready md ops D = [] ∧ Q .normal a w
  | n + 1, D, a, w => (Region.ready md ops D = [] → Q .normal a w) ∧
    ∀ j ∈ Region.ready md ops D, wpOp P ops Q j (fun b u => (j < T → S u) ∧ anyT P md ops Q S T n (D.setIfInBounds j true) b u) a w

theorem anyT_plain : ∀ (n : Nat) (D : Array Bool) (a : Act) (w : World), anyT P md ops Q S T n D a w → wpAny P md ops Q n D a w
  | 0, _, _, _, h => h
  | n + 1, _, _, _, h => ⟨h.1, fun j hj => wpOp_mono (fun _ _ k => anyT_plain n _ _ _ k.2) (h.2 j hj)⟩

theorem regT_start {id : Nat} {a : Act} {w : World} (T : Nat) (S : World → Prop) (hm : P.follows .mixedOrders = true) (h : anyT P .any ops Q S T ops.size (Array.replicate ops.size false) a w.drew) : (Code.region id ops true).wp P Q a w := wp_region_any hm (anyT_plain _ _ _ _ h)

/-- One waits for another, by a way of waits. -/
def pathB (md : Region.Mode) (ops : Array Oper) (i : Nat) : List Nat → Nat → Bool
  | [], j => Region.waitsFor md ops j i
  | k :: ks, j => Region.waitsFor md ops j k && pathB md ops i ks k
/-- The end waits for i. -/
def endWaits (md : Region.Mode) (ops : Array Oper) (T i : Nat) (ks : List Nat) : Bool := (List.range ops.size).all fun j => decide (j < T) || Region.waitsFor md ops j i || pathB md ops i ks j
/-- Nothing of the end has come up, and whatever has come up had what it waits for. -/
def headB (md : Region.Mode) (ops : Array Oper) (T : Nat) (D : Array Bool) : Bool :=
  decide (D.size = ops.size) && (List.range ops.size).all fun j => (decide (j < T) || !(D.getD j true)) && (!(D.getD j false) || (((ops[j]?).map fun o => o.after.all fun e => !(Region.binds md e) || D.getD e.on false).getD true))
theorem headB_inv {D : Array Bool} (h : headB md ops T D = true) : HeadInv md ops T D := by
  unfold headB at h
  simp only [Bool.and_eq_true, decide_eq_true_eq, List.all_eq_true, List.mem_range] at h
  obtain ⟨h1, h2⟩ := h
  refine ⟨h1, ?_, ?_⟩
  · intro j o ho hD e he hb
    have hj := (Array.getElem?_eq_some_iff.1 ho).1
    have h3 := (h2 j hj).2
    rw [ho, hD] at h3
    simp only [Bool.not_true, Bool.false_or, Option.map_some, Option.getD_some, Array.all_eq_true_iff_forall_mem] at h3
    have h4 := h3 e he
    rw [hb] at h4
    simpa using h4
  · intro t ht htn
    have h3 := (h2 t htn).1
    rw [decide_eq_false (by omega)] at h3
    simpa using h3
theorem path_listed {D : Array Bool} (inv : HeadInv md ops T D) {i : Nat} : ∀ (ks : List Nat) (j : Nat) (p : Oper), ops[j]? = some p → (∀ e ∈ p.after, Region.binds md e = true → D.getD e.on false = true) → pathB md ops i ks j = true → D.getD i false = true
  | [], j, p, hp, hd, h => by
    obtain ⟨p', hp', e, he, hb, hei⟩ := Region.waitsFor_spec h
    rw [hp] at hp'
    cases hp'
    exact hei ▸ hd e he hb
  | k :: ks, j, p, hp, hd, h => by
    simp only [pathB, Bool.and_eq_true] at h
    obtain ⟨p', hp', e, he, hb, hei⟩ := Region.waitsFor_spec h.1
    rw [hp] at hp'
    cases hp'
    have hk : D.getD k false = true := hei ▸ hd e he hb
    have hks : k < ops.size := by
      rw [← inv.size]
      rcases Nat.lt_or_ge k D.size with h' | h'
      · exact h'
      · simp [Array.getElem?_eq_none h'] at hk
    exact path_listed inv ks k (ops[k]) (Array.getElem?_eq_getElem hks) (fun e he hb => inv.closed k _ (Array.getElem?_eq_getElem hks) hk e he hb) h.2

theorem anyT_first {i : Nat} {o : Oper} {v : Value} {ks : List Nat} (hi : ops[i]? = some o) (hsel : ∀ (j : Nat) (p : Oper) cs b, ops[j]? = some p → p.op ≠ .select cs b) (hQ : ∀ c a w, Q (.panic c) (a.put o.dst v) w → Q (.panic c) a w) (hT : endWaits md ops T i ks = true) (hiT : i < T) :
    ∀ (n : Nat) (D : Array Bool) (a : Act) (w : World), HeadInv md ops T D →
      (∀ j p, ops[j]? = some p → j ≠ i → D.getD j true = false → (∀ e ∈ p.after, Region.binds md e = true → e.on ≠ i) → o.apart ops p = true) →
      i ∈ Region.ready md ops D → YieldsIf P ops S o v a → S w → anyT P md ops Q S T n (D.setIfInBounds i true) (a.put o.dst v) w → anyT P md ops Q S T (n + 1) D a w := by
  intro n
  induction n with
  | zero =>
    intro D a w _ _ hr hy hS H
    constructor
    · intro h; rw [h] at hr; cases hr
    · intro j hj
      by_cases hji : j = i
      · subst hji
        exact hy.wpOp hi hS ⟨fun _ => hS, H⟩
      · have hm := ready_mono hj hji
        rw [H.1] at hm
        cases hm
  | succ n ih =>
    intro D a w inv hf hr hy hS H
    constructor
    · intro h; rw [h] at hr; cases hr
    · intro j hj
      by_cases hji : j = i
      · subst hji
        exact hy.wpOp hi hS ⟨fun _ => hS, H⟩
      · obtain ⟨hju, p, hp, hd⟩ := mem_ready.1 hj
        have hiu := getD_both (mem_ready.1 hr).1
        have hno : ∀ e ∈ p.after, Region.binds md e = true → e.on ≠ i := by
          intro e he hb hei
          have h1 := hd e he hb
          rw [hei, hiu] at h1
          cases h1
        have hjT : j < T := by
          have hjs : j < ops.size := (Array.getElem?_eq_some_iff.1 hp).1
          have h1 := List.all_eq_true.1 hT j (List.mem_range.2 hjs)
          simp only [Bool.or_eq_true, decide_eq_true_eq] at h1
          rcases h1 with (h1 | h1) | h1
          · exact h1
          · have h2 := path_listed inv [] j p hp hd h1
            rw [hiu] at h2
            cases h2
          · have h2 := path_listed inv ks j p hp hd h1
            rw [hiu] at h2
            cases h2
        have h2 := wpOp_putIf hp (hf j p hp hji hju hno) (fun cs b => hsel i o cs b hi) (fun cs b => hsel j p cs b hp) hQ hy (H.2 j (ready_mono hj hji))
        refine wpOp_mono (fun b u h3 => ⟨fun _ => h3.2.1 hjT, ?_⟩) h2
        refine ih _ b u (inv.set hj hjT) ?_ (ready_mono hr (Ne.symm hji)) h3.1 (h3.2.1 hjT) ?_
        · intro k q hk hki hku hq
          refine hf k q hk hki ?_ hq
          by_cases hjk : j = k
          · exact hjk ▸ hju
          · rwa [getD_set_ne true hjk] at hku
        · rw [Array.setIfInBounds_comm _ _ hji]
          exact h3.2.2

theorem regT_take {i : Nat} {d : Option Tmp} {o : Oper} {v : Value} {n : Nat} {D : Array Bool} {a : Act} {w : World} (ks : List Nat) (hS : S w) (hi : ops[i]? = some o) (hd : o.dst = d) (hs : Region.noSelect ops = true) (hf : Region.free md ops D i = true) (hr : (Region.ready md ops D).contains i = true) (hT : endWaits md ops T i ks = true) (hI : headB md ops T D = true) (hiT : i < T)
    (hQ : ∀ c a w, Q (.panic c) (a.put o.dst v) w → Q (.panic c) a w) (hy : YieldsIf P ops S o v a) (h : anyT P md ops Q S T n (D.setIfInBounds i true) (a.put d v) w) : anyT P md ops Q S T (n + 1) D a w := by
  subst hd
  exact anyT_first hi (Region.noSelect_spec hs) hQ hT hiT n D a w (headB_inv hI) (Region.free_spec hi hf) (by simpa using hr) hy hS h

/-- One of those that may come up. -/
def OneT (P : Program) (md : Region.Mode) (ops : Array Oper) (Q : Exit → Act → World → Prop) (S : World → Prop) (T : Nat) (n : Nat) (D : Array Bool) (a : Act) (w : World) (i : Nat) (o : Oper) : Prop :=
  ∀ K : Act → World → Prop, Shut (∀ b u, (i < T → S u) → anyT P md ops Q S T n (D.setIfInBounds i true) b u → K b u) → if Region.wanted o (yielded ops a.tmps) = true then Oper.wp P o a w K Q else K (a.put o.dst undef) w

theorem oneT_op {n : Nat} {D : Array Bool} {a : Act} {w : World} {i : Nat} {o : Oper} (ho : ops[i]? = some o) (h : OneT P md ops Q S T n D a w i o) : wpOp P ops Q i (fun b u => (i < T → S u) ∧ anyT P md ops Q S T n (D.setIfInBounds i true) b u) a w :=
  wpOp_step ho fun K hK => h K fun b u hx hw => hK b u ⟨hx, hw⟩

theorem regT_all {rs : List Nat} {n : Nat} {D : Array Bool} {a : Act} {w : World} (hr : Region.ready md ops D = rs) (hne : rs ≠ []) (h : ∀ i ∈ rs, ∃ o, ops[i]? = some o ∧ OneT P md ops Q S T n D a w i o) : anyT P md ops Q S T (n + 1) D a w :=
  ⟨fun h0 => absurd (hr ▸ h0) hne, fun i hi => by
    rw [hr] at hi
    obtain ⟨o, ho, h1⟩ := h i hi
    exact oneT_op ho h1⟩
theorem regT_one {n : Nat} {D : Array Bool} {a : Act} {w : World} (i : Nat) (o : Oper) (hr : Region.ready md ops D = [i]) (ho : ops[i]? = some o) (h : OneT P md ops Q S T n D a w i o) : anyT P md ops Q S T (n + 1) D a w :=
  regT_all hr (by simp) fun j hj => by simp at hj; subst hj; exact ⟨o, ho, h⟩
theorem regT_two {n : Nat} {D : Array Bool} {a : Act} {w : World} (i j : Nat) (o p : Oper) (hr : Region.ready md ops D = [i, j]) (ho : ops[i]? = some o) (hp : ops[j]? = some p) (h : OneT P md ops Q S T n D a w i o) (k : OneT P md ops Q S T n D a w j p) : anyT P md ops Q S T (n + 1) D a w :=
  regT_all hr (by simp) fun q hq => by
    simp at hq
    rcases hq with rfl | rfl
    · exact ⟨o, ho, h⟩
    · exact ⟨p, hp, k⟩
theorem regT_three {n : Nat} {D : Array Bool} {a : Act} {w : World} (i j l : Nat) (o p r : Oper) (hr : Region.ready md ops D = [i, j, l]) (ho : ops[i]? = some o) (hp : ops[j]? = some p) (hl : ops[l]? = some r) (h : OneT P md ops Q S T n D a w i o) (k : OneT P md ops Q S T n D a w j p) (m : OneT P md ops Q S T n D a w l r) : anyT P md ops Q S T (n + 1) D a w :=
  regT_all hr (by simp) fun q hq => by
    simp at hq
    rcases hq with rfl | rfl | rfl
    · exact ⟨o, ho, h⟩
    · exact ⟨p, hp, k⟩
    · exact ⟨r, hl, m⟩
theorem regT_done {D : Array Bool} {a : Act} {w : World} (hr : Region.ready md ops D = []) (h : Q .normal a w) : ∀ n, anyT P md ops Q S T n D a w
  | 0 => ⟨hr, h⟩
  | n + 1 => ⟨fun _ => h, fun j hj => by rw [hr] at hj; cases hj⟩
end
end Go.Proofs.Ytgafjieghckimaa

/- compo: which parts may be: contracts over this seat's translation. -/
namespace Go.Proofs.Ytgafjieghckimaa
open Go.RowKit
set_option linter.unusedVariables false
set_option linter.unusedSimpArgs false

def Pt.cells (p : Pt) : Array Value := #[.int .u16 p.f, .int .u16 p.i, .int .i16 p.x, .int .i16 p.y, .int .i16 p.xx, .int .i16 p.xy, .int .i16 p.yx, .int .i16 p.yy]
def Pt.val (p : Pt) : Value := .agg p.cells
theorem cells8 {w : World} {b : Nat} {t : TypeId} {x0 x1 x2 x3 x4 x5 x6 x7 : Value} (h : w.heap[b]? = some (.cells #[x0, x1, x2, x3, x4, x5, x6, x7] t (0, 0))) :
    w.cell? ⟨b, 0, none⟩ = some x0 ∧ w.cell? ⟨b, 1, none⟩ = some x1 ∧ w.cell? ⟨b, 2, none⟩ = some x2 ∧ w.cell? ⟨b, 3, none⟩ = some x3 ∧ w.cell? ⟨b, 4, none⟩ = some x4 ∧ w.cell? ⟨b, 5, none⟩ = some x5 ∧ w.cell? ⟨b, 6, none⟩ = some x6 ∧ w.cell? ⟨b, 7, none⟩ = some x7 :=
  ⟨cell_of_row _ _ 0 _ _ _ h, cell_of_row _ _ 1 _ _ _ h, cell_of_row _ _ 2 _ _ _ h, cell_of_row _ _ 3 _ _ _ h, cell_of_row _ _ 4 _ _ _ h, cell_of_row _ _ 5 _ _ _ h, cell_of_row _ _ 6 _ _ _ h, cell_of_row _ _ 7 _ _ _ h⟩

theorem chas_any (p : Pt) (k : Int) (b : Bool) (w : World) (h : (bits .and .u16 p.f k != 0) = b) : Calls Try.prog 55 #[p.val, .int .u16 k] w (Ret w (.bool b)) := by
  have hA := (Below.refl w.heap.size w).alloc (Nat.le_refl _) (.cells p.cells 29)
  unfold Pt.val Pt.cells at *
  obtain ⟨f, i, x, y, xx, xy, yx, yy⟩ := p
  simp only at *
  go_enter Try.func55, Try.ntmps55
  go_wp2
  go_ret
  exact ⟨rfl, hA⟩

theorem cbyte_any (n : Int) (w : World) : Calls Try.prog 97 #[.int .i16 n] w fun e w' => e = .returned (.bool (byteB n)) ∧ w = w' := by
  unfold byteB
  cases h1 : decide (-128 ≤ n) <;> cases h2 : decide (n ≤ 127)
  all_goals
    go_enter Try.func97, Try.ntmps97
    go_wp2
    go_ret
    exact ⟨rfl, rfl⟩

set_option maxRecDepth 100000 in
theorem ones_0 (w : World) : Calls Try.prog 95 #[.int .u16 0] w (Ret w (.int .i64 0)) := by
  have hd : Below w.heap.size w w.drew := (Below.refl _ _).drew
  go_enter Try.func95, Try.ntmps95
  go_upto_region 1 with fail
  have hx0 : Ext w.drew w.drew := Ext.refl _
  refine regT_start 9 (Ext w.drew) (by kernel_rfl) ?_
  refine regT_take (i := 0) (d := some 3) (v := .int .u16 0) [] hx0 rfl rfl (by kernel_rfl) (by kernel_rfl) (by kernel_rfl) (by kernel_rfl) (by kernel_rfl) (by decide) (fun _ _ _ h => h) (Or.inl ⟨by rfl, fun w' hx => by kernel_rfl⟩) ?_
  simp only [Act.put, List.setIfInBounds_toArray, List.set_cons_zero, List.set_cons_succ]
  refine regT_take (i := 1) (d := some 4) (v := .int .u16 0) [] hx0 rfl rfl (by kernel_rfl) (by kernel_rfl) (by kernel_rfl) (by kernel_rfl) (by kernel_rfl) (by decide) (fun _ _ _ h => h) (Or.inl ⟨by rfl, fun w' hx => by kernel_rfl⟩) ?_
  simp only [Act.put, List.setIfInBounds_toArray, List.set_cons_zero, List.set_cons_succ]
  refine regT_take (i := 2) (d := some 5) (v := .int .u8 0) [] hx0 rfl rfl (by kernel_rfl) (by kernel_rfl) (by kernel_rfl) (by kernel_rfl) (by kernel_rfl) (by decide) (fun _ _ _ h => h) (Or.inl ⟨by rfl, fun w' hx => by kernel_rfl⟩) ?_
  simp only [Act.put, List.setIfInBounds_toArray, List.set_cons_zero, List.set_cons_succ]
  refine regT_take (i := 3) (d := some 6) (v := .int .u16 0) [] hx0 rfl rfl (by kernel_rfl) (by kernel_rfl) (by kernel_rfl) (by kernel_rfl) (by kernel_rfl) (by decide) (fun _ _ _ h => h) (Or.inl ⟨by rfl, fun w' hx => by kernel_rfl⟩) ?_
  simp only [Act.put, List.setIfInBounds_toArray, List.set_cons_zero, List.set_cons_succ]
  refine regT_take (i := 4) (d := some 7) (v := .int .u16 0) [] hx0 rfl rfl (by kernel_rfl) (by kernel_rfl) (by kernel_rfl) (by kernel_rfl) (by kernel_rfl) (by decide) (fun _ _ _ h => h) (Or.inl ⟨by rfl, fun w' hx => by kernel_rfl⟩) ?_
  simp only [Act.put, List.setIfInBounds_toArray, List.set_cons_zero, List.set_cons_succ]
  refine regT_take (i := 5) (d := some 8) (v := .int .u8 0) [] hx0 rfl rfl (by kernel_rfl) (by kernel_rfl) (by kernel_rfl) (by kernel_rfl) (by kernel_rfl) (by decide) (fun _ _ _ h => h) (Or.inl ⟨by rfl, fun w' hx => by kernel_rfl⟩) ?_
  simp only [Act.put, List.setIfInBounds_toArray, List.set_cons_zero, List.set_cons_succ]
  refine regT_take (i := 6) (d := some 9) (v := .int .u8 0) [] hx0 rfl rfl (by kernel_rfl) (by kernel_rfl) (by kernel_rfl) (by kernel_rfl) (by kernel_rfl) (by decide) (fun _ _ _ h => h) (Or.inl ⟨by rfl, fun w' hx => by kernel_rfl⟩) ?_
  simp only [Act.put, List.setIfInBounds_toArray, List.set_cons_zero, List.set_cons_succ]
  refine regT_take (i := 7) (d := some 10) (v := .int .i64 0) [] hx0 rfl rfl (by kernel_rfl) (by kernel_rfl) (by kernel_rfl) (by kernel_rfl) (by kernel_rfl) (by decide) (fun _ _ _ h => h) (Or.inl ⟨by rfl, fun w' hx => by kernel_rfl⟩) ?_
  simp only [Act.put, List.setIfInBounds_toArray, List.set_cons_zero, List.set_cons_succ]
  refine regT_take (i := 8) (d := some 2) (v := .int .i64 0) [] hx0 rfl rfl (by kernel_rfl) (by kernel_rfl) (by kernel_rfl) (by kernel_rfl) (by kernel_rfl) (by decide) (fun _ _ _ h => h) (Or.inl ⟨by rfl, fun w' hx => by kernel_rfl⟩) ?_
  simp only [Act.put, List.setIfInBounds_toArray, List.set_cons_zero, List.set_cons_succ]
  refine regT_done (by kernel_rfl) ?_ _
  go_wp2
  go_ret
  exact ⟨rfl, hd⟩

set_option maxRecDepth 100000 in
theorem ones_8 (w : World) : Calls Try.prog 95 #[.int .u16 8] w (Ret w (.int .i64 1)) := by
  have hd : Below w.heap.size w w.drew := (Below.refl _ _).drew
  go_enter Try.func95, Try.ntmps95
  go_upto_region 1 with fail
  have hx0 : Ext w.drew w.drew := Ext.refl _
  refine regT_start 9 (Ext w.drew) (by kernel_rfl) ?_
  refine regT_take (i := 0) (d := some 3) (v := .int .u16 8) [] hx0 rfl rfl (by kernel_rfl) (by kernel_rfl) (by kernel_rfl) (by kernel_rfl) (by kernel_rfl) (by decide) (fun _ _ _ h => h) (Or.inl ⟨by rfl, fun w' hx => by kernel_rfl⟩) ?_
  simp only [Act.put, List.setIfInBounds_toArray, List.set_cons_zero, List.set_cons_succ]
  refine regT_take (i := 1) (d := some 4) (v := .int .u16 0) [] hx0 rfl rfl (by kernel_rfl) (by kernel_rfl) (by kernel_rfl) (by kernel_rfl) (by kernel_rfl) (by decide) (fun _ _ _ h => h) (Or.inl ⟨by rfl, fun w' hx => by kernel_rfl⟩) ?_
  simp only [Act.put, List.setIfInBounds_toArray, List.set_cons_zero, List.set_cons_succ]
  refine regT_take (i := 2) (d := some 5) (v := .int .u8 0) [] hx0 rfl rfl (by kernel_rfl) (by kernel_rfl) (by kernel_rfl) (by kernel_rfl) (by kernel_rfl) (by decide) (fun _ _ _ h => h) (Or.inl ⟨by rfl, fun w' hx => by kernel_rfl⟩) ?_
  simp only [Act.put, List.setIfInBounds_toArray, List.set_cons_zero, List.set_cons_succ]
  refine regT_take (i := 3) (d := some 6) (v := .int .u16 8) [] hx0 rfl rfl (by kernel_rfl) (by kernel_rfl) (by kernel_rfl) (by kernel_rfl) (by kernel_rfl) (by decide) (fun _ _ _ h => h) (Or.inl ⟨by rfl, fun w' hx => by kernel_rfl⟩) ?_
  simp only [Act.put, List.setIfInBounds_toArray, List.set_cons_zero, List.set_cons_succ]
  refine regT_take (i := 4) (d := some 7) (v := .int .u16 8) [] hx0 rfl rfl (by kernel_rfl) (by kernel_rfl) (by kernel_rfl) (by kernel_rfl) (by kernel_rfl) (by decide) (fun _ _ _ h => h) (Or.inl ⟨by rfl, fun w' hx => by kernel_rfl⟩) ?_
  simp only [Act.put, List.setIfInBounds_toArray, List.set_cons_zero, List.set_cons_succ]
  refine regT_take (i := 5) (d := some 8) (v := .int .u8 1) [] hx0 rfl rfl (by kernel_rfl) (by kernel_rfl) (by kernel_rfl) (by kernel_rfl) (by kernel_rfl) (by decide) (fun _ _ _ h => h) (Or.inl ⟨by rfl, fun w' hx => by kernel_rfl⟩) ?_
  simp only [Act.put, List.setIfInBounds_toArray, List.set_cons_zero, List.set_cons_succ]
  refine regT_take (i := 6) (d := some 9) (v := .int .u8 1) [] hx0 rfl rfl (by kernel_rfl) (by kernel_rfl) (by kernel_rfl) (by kernel_rfl) (by kernel_rfl) (by decide) (fun _ _ _ h => h) (Or.inl ⟨by rfl, fun w' hx => by kernel_rfl⟩) ?_
  simp only [Act.put, List.setIfInBounds_toArray, List.set_cons_zero, List.set_cons_succ]
  refine regT_take (i := 7) (d := some 10) (v := .int .i64 1) [] hx0 rfl rfl (by kernel_rfl) (by kernel_rfl) (by kernel_rfl) (by kernel_rfl) (by kernel_rfl) (by decide) (fun _ _ _ h => h) (Or.inl ⟨by rfl, fun w' hx => by kernel_rfl⟩) ?_
  simp only [Act.put, List.setIfInBounds_toArray, List.set_cons_zero, List.set_cons_succ]
  refine regT_take (i := 8) (d := some 2) (v := .int .i64 1) [] hx0 rfl rfl (by kernel_rfl) (by kernel_rfl) (by kernel_rfl) (by kernel_rfl) (by kernel_rfl) (by decide) (fun _ _ _ h => h) (Or.inl ⟨by rfl, fun w' hx => by kernel_rfl⟩) ?_
  simp only [Act.put, List.setIfInBounds_toArray, List.set_cons_zero, List.set_cons_succ]
  refine regT_done (by kernel_rfl) ?_ _
  go_wp2
  go_ret
  exact ⟨rfl, hd⟩

set_option maxRecDepth 100000 in
theorem ones_64 (w : World) : Calls Try.prog 95 #[.int .u16 64] w (Ret w (.int .i64 1)) := by
  have hd : Below w.heap.size w w.drew := (Below.refl _ _).drew
  go_enter Try.func95, Try.ntmps95
  go_upto_region 1 with fail
  have hx0 : Ext w.drew w.drew := Ext.refl _
  refine regT_start 9 (Ext w.drew) (by kernel_rfl) ?_
  refine regT_take (i := 0) (d := some 3) (v := .int .u16 64) [] hx0 rfl rfl (by kernel_rfl) (by kernel_rfl) (by kernel_rfl) (by kernel_rfl) (by kernel_rfl) (by decide) (fun _ _ _ h => h) (Or.inl ⟨by rfl, fun w' hx => by kernel_rfl⟩) ?_
  simp only [Act.put, List.setIfInBounds_toArray, List.set_cons_zero, List.set_cons_succ]
  refine regT_take (i := 1) (d := some 4) (v := .int .u16 0) [] hx0 rfl rfl (by kernel_rfl) (by kernel_rfl) (by kernel_rfl) (by kernel_rfl) (by kernel_rfl) (by decide) (fun _ _ _ h => h) (Or.inl ⟨by rfl, fun w' hx => by kernel_rfl⟩) ?_
  simp only [Act.put, List.setIfInBounds_toArray, List.set_cons_zero, List.set_cons_succ]
  refine regT_take (i := 2) (d := some 5) (v := .int .u8 0) [] hx0 rfl rfl (by kernel_rfl) (by kernel_rfl) (by kernel_rfl) (by kernel_rfl) (by kernel_rfl) (by decide) (fun _ _ _ h => h) (Or.inl ⟨by rfl, fun w' hx => by kernel_rfl⟩) ?_
  simp only [Act.put, List.setIfInBounds_toArray, List.set_cons_zero, List.set_cons_succ]
  refine regT_take (i := 3) (d := some 6) (v := .int .u16 64) [] hx0 rfl rfl (by kernel_rfl) (by kernel_rfl) (by kernel_rfl) (by kernel_rfl) (by kernel_rfl) (by decide) (fun _ _ _ h => h) (Or.inl ⟨by rfl, fun w' hx => by kernel_rfl⟩) ?_
  simp only [Act.put, List.setIfInBounds_toArray, List.set_cons_zero, List.set_cons_succ]
  refine regT_take (i := 4) (d := some 7) (v := .int .u16 64) [] hx0 rfl rfl (by kernel_rfl) (by kernel_rfl) (by kernel_rfl) (by kernel_rfl) (by kernel_rfl) (by decide) (fun _ _ _ h => h) (Or.inl ⟨by rfl, fun w' hx => by kernel_rfl⟩) ?_
  simp only [Act.put, List.setIfInBounds_toArray, List.set_cons_zero, List.set_cons_succ]
  refine regT_take (i := 5) (d := some 8) (v := .int .u8 1) [] hx0 rfl rfl (by kernel_rfl) (by kernel_rfl) (by kernel_rfl) (by kernel_rfl) (by kernel_rfl) (by decide) (fun _ _ _ h => h) (Or.inl ⟨by rfl, fun w' hx => by kernel_rfl⟩) ?_
  simp only [Act.put, List.setIfInBounds_toArray, List.set_cons_zero, List.set_cons_succ]
  refine regT_take (i := 6) (d := some 9) (v := .int .u8 1) [] hx0 rfl rfl (by kernel_rfl) (by kernel_rfl) (by kernel_rfl) (by kernel_rfl) (by kernel_rfl) (by decide) (fun _ _ _ h => h) (Or.inl ⟨by rfl, fun w' hx => by kernel_rfl⟩) ?_
  simp only [Act.put, List.setIfInBounds_toArray, List.set_cons_zero, List.set_cons_succ]
  refine regT_take (i := 7) (d := some 10) (v := .int .i64 1) [] hx0 rfl rfl (by kernel_rfl) (by kernel_rfl) (by kernel_rfl) (by kernel_rfl) (by kernel_rfl) (by decide) (fun _ _ _ h => h) (Or.inl ⟨by rfl, fun w' hx => by kernel_rfl⟩) ?_
  simp only [Act.put, List.setIfInBounds_toArray, List.set_cons_zero, List.set_cons_succ]
  refine regT_take (i := 8) (d := some 2) (v := .int .i64 1) [] hx0 rfl rfl (by kernel_rfl) (by kernel_rfl) (by kernel_rfl) (by kernel_rfl) (by kernel_rfl) (by decide) (fun _ _ _ h => h) (Or.inl ⟨by rfl, fun w' hx => by kernel_rfl⟩) ?_
  simp only [Act.put, List.setIfInBounds_toArray, List.set_cons_zero, List.set_cons_succ]
  refine regT_done (by kernel_rfl) ?_ _
  go_wp2
  go_ret
  exact ⟨rfl, hd⟩

set_option maxRecDepth 100000 in
theorem ones_72 (w : World) : Calls Try.prog 95 #[.int .u16 72] w (Ret w (.int .i64 2)) := by
  have hd : Below w.heap.size w w.drew := (Below.refl _ _).drew
  go_enter Try.func95, Try.ntmps95
  go_upto_region 1 with fail
  have hx0 : Ext w.drew w.drew := Ext.refl _
  refine regT_start 9 (Ext w.drew) (by kernel_rfl) ?_
  refine regT_take (i := 0) (d := some 3) (v := .int .u16 72) [] hx0 rfl rfl (by kernel_rfl) (by kernel_rfl) (by kernel_rfl) (by kernel_rfl) (by kernel_rfl) (by decide) (fun _ _ _ h => h) (Or.inl ⟨by rfl, fun w' hx => by kernel_rfl⟩) ?_
  simp only [Act.put, List.setIfInBounds_toArray, List.set_cons_zero, List.set_cons_succ]
  refine regT_take (i := 1) (d := some 4) (v := .int .u16 0) [] hx0 rfl rfl (by kernel_rfl) (by kernel_rfl) (by kernel_rfl) (by kernel_rfl) (by kernel_rfl) (by decide) (fun _ _ _ h => h) (Or.inl ⟨by rfl, fun w' hx => by kernel_rfl⟩) ?_
  simp only [Act.put, List.setIfInBounds_toArray, List.set_cons_zero, List.set_cons_succ]
  refine regT_take (i := 2) (d := some 5) (v := .int .u8 0) [] hx0 rfl rfl (by kernel_rfl) (by kernel_rfl) (by kernel_rfl) (by kernel_rfl) (by kernel_rfl) (by decide) (fun _ _ _ h => h) (Or.inl ⟨by rfl, fun w' hx => by kernel_rfl⟩) ?_
  simp only [Act.put, List.setIfInBounds_toArray, List.set_cons_zero, List.set_cons_succ]
  refine regT_take (i := 3) (d := some 6) (v := .int .u16 72) [] hx0 rfl rfl (by kernel_rfl) (by kernel_rfl) (by kernel_rfl) (by kernel_rfl) (by kernel_rfl) (by decide) (fun _ _ _ h => h) (Or.inl ⟨by rfl, fun w' hx => by kernel_rfl⟩) ?_
  simp only [Act.put, List.setIfInBounds_toArray, List.set_cons_zero, List.set_cons_succ]
  refine regT_take (i := 4) (d := some 7) (v := .int .u16 72) [] hx0 rfl rfl (by kernel_rfl) (by kernel_rfl) (by kernel_rfl) (by kernel_rfl) (by kernel_rfl) (by decide) (fun _ _ _ h => h) (Or.inl ⟨by rfl, fun w' hx => by kernel_rfl⟩) ?_
  simp only [Act.put, List.setIfInBounds_toArray, List.set_cons_zero, List.set_cons_succ]
  refine regT_take (i := 5) (d := some 8) (v := .int .u8 2) [] hx0 rfl rfl (by kernel_rfl) (by kernel_rfl) (by kernel_rfl) (by kernel_rfl) (by kernel_rfl) (by decide) (fun _ _ _ h => h) (Or.inl ⟨by rfl, fun w' hx => by kernel_rfl⟩) ?_
  simp only [Act.put, List.setIfInBounds_toArray, List.set_cons_zero, List.set_cons_succ]
  refine regT_take (i := 6) (d := some 9) (v := .int .u8 2) [] hx0 rfl rfl (by kernel_rfl) (by kernel_rfl) (by kernel_rfl) (by kernel_rfl) (by kernel_rfl) (by decide) (fun _ _ _ h => h) (Or.inl ⟨by rfl, fun w' hx => by kernel_rfl⟩) ?_
  simp only [Act.put, List.setIfInBounds_toArray, List.set_cons_zero, List.set_cons_succ]
  refine regT_take (i := 7) (d := some 10) (v := .int .i64 2) [] hx0 rfl rfl (by kernel_rfl) (by kernel_rfl) (by kernel_rfl) (by kernel_rfl) (by kernel_rfl) (by decide) (fun _ _ _ h => h) (Or.inl ⟨by rfl, fun w' hx => by kernel_rfl⟩) ?_
  simp only [Act.put, List.setIfInBounds_toArray, List.set_cons_zero, List.set_cons_succ]
  refine regT_take (i := 8) (d := some 2) (v := .int .i64 2) [] hx0 rfl rfl (by kernel_rfl) (by kernel_rfl) (by kernel_rfl) (by kernel_rfl) (by kernel_rfl) (by decide) (fun _ _ _ h => h) (Or.inl ⟨by rfl, fun w' hx => by kernel_rfl⟩) ?_
  simp only [Act.put, List.setIfInBounds_toArray, List.set_cons_zero, List.set_cons_succ]
  refine regT_done (by kernel_rfl) ?_ _
  go_wp2
  go_ret
  exact ⟨rfl, hd⟩

set_option maxRecDepth 100000 in
theorem ones_128 (w : World) : Calls Try.prog 95 #[.int .u16 128] w (Ret w (.int .i64 1)) := by
  have hd : Below w.heap.size w w.drew := (Below.refl _ _).drew
  go_enter Try.func95, Try.ntmps95
  go_upto_region 1 with fail
  have hx0 : Ext w.drew w.drew := Ext.refl _
  refine regT_start 9 (Ext w.drew) (by kernel_rfl) ?_
  refine regT_take (i := 0) (d := some 3) (v := .int .u16 128) [] hx0 rfl rfl (by kernel_rfl) (by kernel_rfl) (by kernel_rfl) (by kernel_rfl) (by kernel_rfl) (by decide) (fun _ _ _ h => h) (Or.inl ⟨by rfl, fun w' hx => by kernel_rfl⟩) ?_
  simp only [Act.put, List.setIfInBounds_toArray, List.set_cons_zero, List.set_cons_succ]
  refine regT_take (i := 1) (d := some 4) (v := .int .u16 0) [] hx0 rfl rfl (by kernel_rfl) (by kernel_rfl) (by kernel_rfl) (by kernel_rfl) (by kernel_rfl) (by decide) (fun _ _ _ h => h) (Or.inl ⟨by rfl, fun w' hx => by kernel_rfl⟩) ?_
  simp only [Act.put, List.setIfInBounds_toArray, List.set_cons_zero, List.set_cons_succ]
  refine regT_take (i := 2) (d := some 5) (v := .int .u8 0) [] hx0 rfl rfl (by kernel_rfl) (by kernel_rfl) (by kernel_rfl) (by kernel_rfl) (by kernel_rfl) (by decide) (fun _ _ _ h => h) (Or.inl ⟨by rfl, fun w' hx => by kernel_rfl⟩) ?_
  simp only [Act.put, List.setIfInBounds_toArray, List.set_cons_zero, List.set_cons_succ]
  refine regT_take (i := 3) (d := some 6) (v := .int .u16 128) [] hx0 rfl rfl (by kernel_rfl) (by kernel_rfl) (by kernel_rfl) (by kernel_rfl) (by kernel_rfl) (by decide) (fun _ _ _ h => h) (Or.inl ⟨by rfl, fun w' hx => by kernel_rfl⟩) ?_
  simp only [Act.put, List.setIfInBounds_toArray, List.set_cons_zero, List.set_cons_succ]
  refine regT_take (i := 4) (d := some 7) (v := .int .u16 128) [] hx0 rfl rfl (by kernel_rfl) (by kernel_rfl) (by kernel_rfl) (by kernel_rfl) (by kernel_rfl) (by decide) (fun _ _ _ h => h) (Or.inl ⟨by rfl, fun w' hx => by kernel_rfl⟩) ?_
  simp only [Act.put, List.setIfInBounds_toArray, List.set_cons_zero, List.set_cons_succ]
  refine regT_take (i := 5) (d := some 8) (v := .int .u8 1) [] hx0 rfl rfl (by kernel_rfl) (by kernel_rfl) (by kernel_rfl) (by kernel_rfl) (by kernel_rfl) (by decide) (fun _ _ _ h => h) (Or.inl ⟨by rfl, fun w' hx => by kernel_rfl⟩) ?_
  simp only [Act.put, List.setIfInBounds_toArray, List.set_cons_zero, List.set_cons_succ]
  refine regT_take (i := 6) (d := some 9) (v := .int .u8 1) [] hx0 rfl rfl (by kernel_rfl) (by kernel_rfl) (by kernel_rfl) (by kernel_rfl) (by kernel_rfl) (by decide) (fun _ _ _ h => h) (Or.inl ⟨by rfl, fun w' hx => by kernel_rfl⟩) ?_
  simp only [Act.put, List.setIfInBounds_toArray, List.set_cons_zero, List.set_cons_succ]
  refine regT_take (i := 7) (d := some 10) (v := .int .i64 1) [] hx0 rfl rfl (by kernel_rfl) (by kernel_rfl) (by kernel_rfl) (by kernel_rfl) (by kernel_rfl) (by decide) (fun _ _ _ h => h) (Or.inl ⟨by rfl, fun w' hx => by kernel_rfl⟩) ?_
  simp only [Act.put, List.setIfInBounds_toArray, List.set_cons_zero, List.set_cons_succ]
  refine regT_take (i := 8) (d := some 2) (v := .int .i64 1) [] hx0 rfl rfl (by kernel_rfl) (by kernel_rfl) (by kernel_rfl) (by kernel_rfl) (by kernel_rfl) (by decide) (fun _ _ _ h => h) (Or.inl ⟨by rfl, fun w' hx => by kernel_rfl⟩) ?_
  simp only [Act.put, List.setIfInBounds_toArray, List.set_cons_zero, List.set_cons_succ]
  refine regT_done (by kernel_rfl) ?_ _
  go_wp2
  go_ret
  exact ⟨rfl, hd⟩

set_option maxRecDepth 100000 in
theorem ones_136 (w : World) : Calls Try.prog 95 #[.int .u16 136] w (Ret w (.int .i64 2)) := by
  have hd : Below w.heap.size w w.drew := (Below.refl _ _).drew
  go_enter Try.func95, Try.ntmps95
  go_upto_region 1 with fail
  have hx0 : Ext w.drew w.drew := Ext.refl _
  refine regT_start 9 (Ext w.drew) (by kernel_rfl) ?_
  refine regT_take (i := 0) (d := some 3) (v := .int .u16 136) [] hx0 rfl rfl (by kernel_rfl) (by kernel_rfl) (by kernel_rfl) (by kernel_rfl) (by kernel_rfl) (by decide) (fun _ _ _ h => h) (Or.inl ⟨by rfl, fun w' hx => by kernel_rfl⟩) ?_
  simp only [Act.put, List.setIfInBounds_toArray, List.set_cons_zero, List.set_cons_succ]
  refine regT_take (i := 1) (d := some 4) (v := .int .u16 0) [] hx0 rfl rfl (by kernel_rfl) (by kernel_rfl) (by kernel_rfl) (by kernel_rfl) (by kernel_rfl) (by decide) (fun _ _ _ h => h) (Or.inl ⟨by rfl, fun w' hx => by kernel_rfl⟩) ?_
  simp only [Act.put, List.setIfInBounds_toArray, List.set_cons_zero, List.set_cons_succ]
  refine regT_take (i := 2) (d := some 5) (v := .int .u8 0) [] hx0 rfl rfl (by kernel_rfl) (by kernel_rfl) (by kernel_rfl) (by kernel_rfl) (by kernel_rfl) (by decide) (fun _ _ _ h => h) (Or.inl ⟨by rfl, fun w' hx => by kernel_rfl⟩) ?_
  simp only [Act.put, List.setIfInBounds_toArray, List.set_cons_zero, List.set_cons_succ]
  refine regT_take (i := 3) (d := some 6) (v := .int .u16 136) [] hx0 rfl rfl (by kernel_rfl) (by kernel_rfl) (by kernel_rfl) (by kernel_rfl) (by kernel_rfl) (by decide) (fun _ _ _ h => h) (Or.inl ⟨by rfl, fun w' hx => by kernel_rfl⟩) ?_
  simp only [Act.put, List.setIfInBounds_toArray, List.set_cons_zero, List.set_cons_succ]
  refine regT_take (i := 4) (d := some 7) (v := .int .u16 136) [] hx0 rfl rfl (by kernel_rfl) (by kernel_rfl) (by kernel_rfl) (by kernel_rfl) (by kernel_rfl) (by decide) (fun _ _ _ h => h) (Or.inl ⟨by rfl, fun w' hx => by kernel_rfl⟩) ?_
  simp only [Act.put, List.setIfInBounds_toArray, List.set_cons_zero, List.set_cons_succ]
  refine regT_take (i := 5) (d := some 8) (v := .int .u8 2) [] hx0 rfl rfl (by kernel_rfl) (by kernel_rfl) (by kernel_rfl) (by kernel_rfl) (by kernel_rfl) (by decide) (fun _ _ _ h => h) (Or.inl ⟨by rfl, fun w' hx => by kernel_rfl⟩) ?_
  simp only [Act.put, List.setIfInBounds_toArray, List.set_cons_zero, List.set_cons_succ]
  refine regT_take (i := 6) (d := some 9) (v := .int .u8 2) [] hx0 rfl rfl (by kernel_rfl) (by kernel_rfl) (by kernel_rfl) (by kernel_rfl) (by kernel_rfl) (by decide) (fun _ _ _ h => h) (Or.inl ⟨by rfl, fun w' hx => by kernel_rfl⟩) ?_
  simp only [Act.put, List.setIfInBounds_toArray, List.set_cons_zero, List.set_cons_succ]
  refine regT_take (i := 7) (d := some 10) (v := .int .i64 2) [] hx0 rfl rfl (by kernel_rfl) (by kernel_rfl) (by kernel_rfl) (by kernel_rfl) (by kernel_rfl) (by decide) (fun _ _ _ h => h) (Or.inl ⟨by rfl, fun w' hx => by kernel_rfl⟩) ?_
  simp only [Act.put, List.setIfInBounds_toArray, List.set_cons_zero, List.set_cons_succ]
  refine regT_take (i := 8) (d := some 2) (v := .int .i64 2) [] hx0 rfl rfl (by kernel_rfl) (by kernel_rfl) (by kernel_rfl) (by kernel_rfl) (by kernel_rfl) (by decide) (fun _ _ _ h => h) (Or.inl ⟨by rfl, fun w' hx => by kernel_rfl⟩) ?_
  simp only [Act.put, List.setIfInBounds_toArray, List.set_cons_zero, List.set_cons_succ]
  refine regT_done (by kernel_rfl) ?_ _
  go_wp2
  go_ret
  exact ⟨rfl, hd⟩

set_option maxRecDepth 100000 in
theorem ones_192 (w : World) : Calls Try.prog 95 #[.int .u16 192] w (Ret w (.int .i64 2)) := by
  have hd : Below w.heap.size w w.drew := (Below.refl _ _).drew
  go_enter Try.func95, Try.ntmps95
  go_upto_region 1 with fail
  have hx0 : Ext w.drew w.drew := Ext.refl _
  refine regT_start 9 (Ext w.drew) (by kernel_rfl) ?_
  refine regT_take (i := 0) (d := some 3) (v := .int .u16 192) [] hx0 rfl rfl (by kernel_rfl) (by kernel_rfl) (by kernel_rfl) (by kernel_rfl) (by kernel_rfl) (by decide) (fun _ _ _ h => h) (Or.inl ⟨by rfl, fun w' hx => by kernel_rfl⟩) ?_
  simp only [Act.put, List.setIfInBounds_toArray, List.set_cons_zero, List.set_cons_succ]
  refine regT_take (i := 1) (d := some 4) (v := .int .u16 0) [] hx0 rfl rfl (by kernel_rfl) (by kernel_rfl) (by kernel_rfl) (by kernel_rfl) (by kernel_rfl) (by decide) (fun _ _ _ h => h) (Or.inl ⟨by rfl, fun w' hx => by kernel_rfl⟩) ?_
  simp only [Act.put, List.setIfInBounds_toArray, List.set_cons_zero, List.set_cons_succ]
  refine regT_take (i := 2) (d := some 5) (v := .int .u8 0) [] hx0 rfl rfl (by kernel_rfl) (by kernel_rfl) (by kernel_rfl) (by kernel_rfl) (by kernel_rfl) (by decide) (fun _ _ _ h => h) (Or.inl ⟨by rfl, fun w' hx => by kernel_rfl⟩) ?_
  simp only [Act.put, List.setIfInBounds_toArray, List.set_cons_zero, List.set_cons_succ]
  refine regT_take (i := 3) (d := some 6) (v := .int .u16 192) [] hx0 rfl rfl (by kernel_rfl) (by kernel_rfl) (by kernel_rfl) (by kernel_rfl) (by kernel_rfl) (by decide) (fun _ _ _ h => h) (Or.inl ⟨by rfl, fun w' hx => by kernel_rfl⟩) ?_
  simp only [Act.put, List.setIfInBounds_toArray, List.set_cons_zero, List.set_cons_succ]
  refine regT_take (i := 4) (d := some 7) (v := .int .u16 192) [] hx0 rfl rfl (by kernel_rfl) (by kernel_rfl) (by kernel_rfl) (by kernel_rfl) (by kernel_rfl) (by decide) (fun _ _ _ h => h) (Or.inl ⟨by rfl, fun w' hx => by kernel_rfl⟩) ?_
  simp only [Act.put, List.setIfInBounds_toArray, List.set_cons_zero, List.set_cons_succ]
  refine regT_take (i := 5) (d := some 8) (v := .int .u8 2) [] hx0 rfl rfl (by kernel_rfl) (by kernel_rfl) (by kernel_rfl) (by kernel_rfl) (by kernel_rfl) (by decide) (fun _ _ _ h => h) (Or.inl ⟨by rfl, fun w' hx => by kernel_rfl⟩) ?_
  simp only [Act.put, List.setIfInBounds_toArray, List.set_cons_zero, List.set_cons_succ]
  refine regT_take (i := 6) (d := some 9) (v := .int .u8 2) [] hx0 rfl rfl (by kernel_rfl) (by kernel_rfl) (by kernel_rfl) (by kernel_rfl) (by kernel_rfl) (by decide) (fun _ _ _ h => h) (Or.inl ⟨by rfl, fun w' hx => by kernel_rfl⟩) ?_
  simp only [Act.put, List.setIfInBounds_toArray, List.set_cons_zero, List.set_cons_succ]
  refine regT_take (i := 7) (d := some 10) (v := .int .i64 2) [] hx0 rfl rfl (by kernel_rfl) (by kernel_rfl) (by kernel_rfl) (by kernel_rfl) (by kernel_rfl) (by decide) (fun _ _ _ h => h) (Or.inl ⟨by rfl, fun w' hx => by kernel_rfl⟩) ?_
  simp only [Act.put, List.setIfInBounds_toArray, List.set_cons_zero, List.set_cons_succ]
  refine regT_take (i := 8) (d := some 2) (v := .int .i64 2) [] hx0 rfl rfl (by kernel_rfl) (by kernel_rfl) (by kernel_rfl) (by kernel_rfl) (by kernel_rfl) (by decide) (fun _ _ _ h => h) (Or.inl ⟨by rfl, fun w' hx => by kernel_rfl⟩) ?_
  simp only [Act.put, List.setIfInBounds_toArray, List.set_cons_zero, List.set_cons_succ]
  refine regT_done (by kernel_rfl) ?_ _
  go_wp2
  go_ret
  exact ⟨rfl, hd⟩

set_option maxRecDepth 100000 in
theorem ones_200 (w : World) : Calls Try.prog 95 #[.int .u16 200] w (Ret w (.int .i64 3)) := by
  have hd : Below w.heap.size w w.drew := (Below.refl _ _).drew
  go_enter Try.func95, Try.ntmps95
  go_upto_region 1 with fail
  have hx0 : Ext w.drew w.drew := Ext.refl _
  refine regT_start 9 (Ext w.drew) (by kernel_rfl) ?_
  refine regT_take (i := 0) (d := some 3) (v := .int .u16 200) [] hx0 rfl rfl (by kernel_rfl) (by kernel_rfl) (by kernel_rfl) (by kernel_rfl) (by kernel_rfl) (by decide) (fun _ _ _ h => h) (Or.inl ⟨by rfl, fun w' hx => by kernel_rfl⟩) ?_
  simp only [Act.put, List.setIfInBounds_toArray, List.set_cons_zero, List.set_cons_succ]
  refine regT_take (i := 1) (d := some 4) (v := .int .u16 0) [] hx0 rfl rfl (by kernel_rfl) (by kernel_rfl) (by kernel_rfl) (by kernel_rfl) (by kernel_rfl) (by decide) (fun _ _ _ h => h) (Or.inl ⟨by rfl, fun w' hx => by kernel_rfl⟩) ?_
  simp only [Act.put, List.setIfInBounds_toArray, List.set_cons_zero, List.set_cons_succ]
  refine regT_take (i := 2) (d := some 5) (v := .int .u8 0) [] hx0 rfl rfl (by kernel_rfl) (by kernel_rfl) (by kernel_rfl) (by kernel_rfl) (by kernel_rfl) (by decide) (fun _ _ _ h => h) (Or.inl ⟨by rfl, fun w' hx => by kernel_rfl⟩) ?_
  simp only [Act.put, List.setIfInBounds_toArray, List.set_cons_zero, List.set_cons_succ]
  refine regT_take (i := 3) (d := some 6) (v := .int .u16 200) [] hx0 rfl rfl (by kernel_rfl) (by kernel_rfl) (by kernel_rfl) (by kernel_rfl) (by kernel_rfl) (by decide) (fun _ _ _ h => h) (Or.inl ⟨by rfl, fun w' hx => by kernel_rfl⟩) ?_
  simp only [Act.put, List.setIfInBounds_toArray, List.set_cons_zero, List.set_cons_succ]
  refine regT_take (i := 4) (d := some 7) (v := .int .u16 200) [] hx0 rfl rfl (by kernel_rfl) (by kernel_rfl) (by kernel_rfl) (by kernel_rfl) (by kernel_rfl) (by decide) (fun _ _ _ h => h) (Or.inl ⟨by rfl, fun w' hx => by kernel_rfl⟩) ?_
  simp only [Act.put, List.setIfInBounds_toArray, List.set_cons_zero, List.set_cons_succ]
  refine regT_take (i := 5) (d := some 8) (v := .int .u8 3) [] hx0 rfl rfl (by kernel_rfl) (by kernel_rfl) (by kernel_rfl) (by kernel_rfl) (by kernel_rfl) (by decide) (fun _ _ _ h => h) (Or.inl ⟨by rfl, fun w' hx => by kernel_rfl⟩) ?_
  simp only [Act.put, List.setIfInBounds_toArray, List.set_cons_zero, List.set_cons_succ]
  refine regT_take (i := 6) (d := some 9) (v := .int .u8 3) [] hx0 rfl rfl (by kernel_rfl) (by kernel_rfl) (by kernel_rfl) (by kernel_rfl) (by kernel_rfl) (by decide) (fun _ _ _ h => h) (Or.inl ⟨by rfl, fun w' hx => by kernel_rfl⟩) ?_
  simp only [Act.put, List.setIfInBounds_toArray, List.set_cons_zero, List.set_cons_succ]
  refine regT_take (i := 7) (d := some 10) (v := .int .i64 3) [] hx0 rfl rfl (by kernel_rfl) (by kernel_rfl) (by kernel_rfl) (by kernel_rfl) (by kernel_rfl) (by decide) (fun _ _ _ h => h) (Or.inl ⟨by rfl, fun w' hx => by kernel_rfl⟩) ?_
  simp only [Act.put, List.setIfInBounds_toArray, List.set_cons_zero, List.set_cons_succ]
  refine regT_take (i := 8) (d := some 2) (v := .int .i64 3) [] hx0 rfl rfl (by kernel_rfl) (by kernel_rfl) (by kernel_rfl) (by kernel_rfl) (by kernel_rfl) (by decide) (fun _ _ _ h => h) (Or.inl ⟨by rfl, fun w' hx => by kernel_rfl⟩) ?_
  simp only [Act.put, List.setIfInBounds_toArray, List.set_cons_zero, List.set_cons_succ]
  refine regT_done (by kernel_rfl) ?_ _
  go_wp2
  go_ret
  exact ⟨rfl, hd⟩

theorem ones_any (k : Int) (h : k ∈ ([0, 8, 64, 72, 128, 136, 192, 200] : List Int)) (w : World) : Calls Try.prog 95 #[.int .u16 k] w (Ret w (.int .i64 (onesK k))) := by
  simp only [List.mem_cons, List.not_mem_nil, or_false] at h
  rcases h with rfl | rfl | rfl | rfl | rfl | rfl | rfl | rfl
  · exact ones_0 w
  · exact ones_8 w
  · exact ones_64 w
  · exact ones_72 w
  · exact ones_128 w
  · exact ones_136 w
  · exact ones_192 w
  · exact ones_200 w

end Go.Proofs.Ytgafjieghckimaa

/- compo: which parts may be: the matrix, and the part, as contracts over this seat's translation. -/
namespace Go.Proofs.Ytgafjieghckimaa
open Go.RowKit
set_option linter.unusedVariables false
set_option linter.unusedSimpArgs false

set_option maxRecDepth 100000 in
set_option maxHeartbeats 2000000 in
theorem cmat_any (p : Pt) (hp : p.ok) (w : World) : Calls Try.prog 96 #[p.val] w (Ret w (.bool (matB (knd p.f) p))) := by
  have hA := (Below.refl w.heap.size w).alloc (Nat.le_refl _) (.cells p.cells 29)
  have hk := heap_alloc_new w (.cells p.cells 29)
  have hK := w_and200 hp.f.1 hp.f.2
  have hin := knd_in p.f
  unfold Pt.val Pt.cells at *
  unfold matB straight unitB at *
  obtain ⟨f, i, x, y, xx, xy, yx, yy⟩ := p
  simp only at *
  generalize knd f = k at *
  obtain ⟨c0, c1, c2, c3, c4, c5, c6, c7⟩ := cells8 hk
  clear hk hp
  have HU := fun W => unit_any W
  rcases Decidable.em (xy = 0) with rfl | h1
  · rcases Decidable.em (yx = 0) with rfl | h2
    · skip
      by_cases k8 : k = 8
      · subst k8
        rw [if_pos rfl]
        by_cases h3 : xx = yy
        · subst h3
          rw [show decide (xx = xx) = true by simp]
          go_enter Try.func96, Try.ntmps96
          go_wp2
          go_ret
          exact ⟨rfl, hA⟩
        · have e3 : (xx == yy) = false := by simp [h3]
          rw [decide_eq_false h3]
          clear h3
          go_enter Try.func96, Try.ntmps96
          go_wp2
          go_ret
          exact ⟨rfl, hA⟩
      · by_cases k64 : k = 64
        · subst k64
          rw [if_neg (by decide), if_pos rfl]
          go_enter Try.func96, Try.ntmps96
          go_wp2
          go_ret
          exact ⟨rfl, hA⟩
        · by_cases k128 : k = 128
          · subst k128
            rw [if_neg (by decide), if_neg (by decide), if_pos rfl]
            go_enter Try.func96, Try.ntmps96
            go_wp2
            go_ret
            exact ⟨rfl, hA⟩
          · rw [if_neg k8, if_neg k64, if_neg k128]
            have e8 : (k == 8) = false := by simp [k8]
            have e64 : (k == 64) = false := by simp [k64]
            have e128 : (k == 128) = false := by simp [k128]
            clear k8 k64 k128 hin
            by_cases u1 : xx = 16384
            · subst u1
              by_cases u2 : yy = 16384
              · subst u2
                go_enter Try.func96, Try.ntmps96
                go_upto_region 3 with fail
                generalize w.alloc _ = V at *
                have hx0 : Ext V.drew V.drew := Ext.refl _
                have q4 : V.drew.cell? ⟨w.heap.size, 4, none⟩ = _ := c4
                have q5 : V.drew.cell? ⟨w.heap.size, 5, none⟩ = _ := c5
                have q6 : V.drew.cell? ⟨w.heap.size, 6, none⟩ = _ := c6
                have q7 : V.drew.cell? ⟨w.heap.size, 7, none⟩ = _ := c7
                refine regT_start 5 (Ext V.drew) (by kernel_rfl) ?_
                refine regT_take (i := 0) (d := some 17) (v := ?_) [] hx0 rfl rfl (by kernel_rfl) (by kernel_rfl) (by kernel_rfl) (by kernel_rfl) (by kernel_rfl) (by decide) (fun _ _ _ h => h) (Or.inl ⟨by rfl, ?_⟩) ?_
                rotate_left
                · intro w' hx; (go_simp <;> with_reducible rfl)
                simp only [Act.put, List.setIfInBounds_toArray, List.set_cons_zero, List.set_cons_succ]
                refine regT_take (i := 1) (d := some 18) (v := ?_) [] hx0 rfl rfl (by kernel_rfl) (by kernel_rfl) (by kernel_rfl) (by kernel_rfl) (by kernel_rfl) (by decide) (fun _ _ _ h => h) (Or.inl ⟨by rfl, ?_⟩) ?_
                rotate_left
                · intro w' hx; have r4 := hx.cell q4; have r5 := hx.cell q5; have r6 := hx.cell q6; have r7 := hx.cell q7; (go_simp <;> with_reducible rfl)
                simp only [Act.put, List.setIfInBounds_toArray, List.set_cons_zero, List.set_cons_succ]
                refine regT_one 2 _ (by kernel_rfl) rfl ?_
                intro K hK
                go_simp
                refine (unit_any _).mono ?_
                rintro e W4 ⟨rfl, hb⟩
                have hX1 := hx0.call hb
                refine hK.out _ _ (fun _ => hX1) ?_
                clear hK K
                refine regT_one 3 _ (by kernel_rfl) rfl ?_
                intro K hK
                go_simp
                refine hK.out _ _ (fun _ => hX1) ?_
                clear hK K
                refine regT_one 4 _ (by kernel_rfl) rfl ?_
                intro K hK
                go_simp
                refine hK.out _ _ (fun _ => hX1) ?_
                clear hK K
                refine regT_done (by kernel_rfl) ?_ _
                go_wp2
                go_ret
                exact ⟨rfl, Below.trans hA.drew (Below.mono hX1 hA.size)⟩
              · have f2 : (yy == 16384) = false := by simp [u2]
                have f3 : decide (yy = 16384) = false := decide_eq_false u2
                rw [decide_eq_false (show ¬ ([16384, 0, 0, yy] : List Int) = [16384, 0, 0, 16384] from fun h => u2 (by simpa using h))]
                clear u2
                go_enter Try.func96, Try.ntmps96
                go_upto_region 3 with fail
                generalize w.alloc _ = V at *
                have hx0 : Ext V.drew V.drew := Ext.refl _
                have q4 : V.drew.cell? ⟨w.heap.size, 4, none⟩ = _ := c4
                have q5 : V.drew.cell? ⟨w.heap.size, 5, none⟩ = _ := c5
                have q6 : V.drew.cell? ⟨w.heap.size, 6, none⟩ = _ := c6
                have q7 : V.drew.cell? ⟨w.heap.size, 7, none⟩ = _ := c7
                refine regT_start 5 (Ext V.drew) (by kernel_rfl) ?_
                refine regT_take (i := 0) (d := some 17) (v := ?_) [] hx0 rfl rfl (by kernel_rfl) (by kernel_rfl) (by kernel_rfl) (by kernel_rfl) (by kernel_rfl) (by decide) (fun _ _ _ h => h) (Or.inl ⟨by rfl, ?_⟩) ?_
                rotate_left
                · intro w' hx; (go_simp <;> with_reducible rfl)
                simp only [Act.put, List.setIfInBounds_toArray, List.set_cons_zero, List.set_cons_succ]
                refine regT_take (i := 1) (d := some 18) (v := ?_) [] hx0 rfl rfl (by kernel_rfl) (by kernel_rfl) (by kernel_rfl) (by kernel_rfl) (by kernel_rfl) (by decide) (fun _ _ _ h => h) (Or.inl ⟨by rfl, ?_⟩) ?_
                rotate_left
                · intro w' hx; have r4 := hx.cell q4; have r5 := hx.cell q5; have r6 := hx.cell q6; have r7 := hx.cell q7; (go_simp <;> with_reducible rfl)
                simp only [Act.put, List.setIfInBounds_toArray, List.set_cons_zero, List.set_cons_succ]
                refine regT_one 2 _ (by kernel_rfl) rfl ?_
                intro K hK
                go_simp
                refine (unit_any _).mono ?_
                rintro e W4 ⟨rfl, hb⟩
                have hX1 := hx0.call hb
                refine hK.out _ _ (fun _ => hX1) ?_
                clear hK K
                refine regT_one 3 _ (by kernel_rfl) rfl ?_
                intro K hK
                go_simp
                refine hK.out _ _ (fun _ => hX1) ?_
                clear hK K
                refine regT_one 4 _ (by kernel_rfl) rfl ?_
                intro K hK
                go_simp
                refine hK.out _ _ (fun _ => hX1) ?_
                clear hK K
                refine regT_done (by kernel_rfl) ?_ _
                go_wp2
                go_ret
                exact ⟨rfl, Below.trans hA.drew (Below.mono hX1 hA.size)⟩
            · have f1 : (xx == 16384) = false := by simp [u1]
              have f3 : decide (xx = 16384) = false := decide_eq_false u1
              rw [decide_eq_false (show ¬ ([xx, 0, 0, yy] : List Int) = [16384, 0, 0, 16384] from fun h => u1 (List.cons.inj h).1)]
              clear u1
              go_enter Try.func96, Try.ntmps96
              go_upto_region 3 with fail
              generalize w.alloc _ = V at *
              have hx0 : Ext V.drew V.drew := Ext.refl _
              have q4 : V.drew.cell? ⟨w.heap.size, 4, none⟩ = _ := c4
              have q5 : V.drew.cell? ⟨w.heap.size, 5, none⟩ = _ := c5
              have q6 : V.drew.cell? ⟨w.heap.size, 6, none⟩ = _ := c6
              have q7 : V.drew.cell? ⟨w.heap.size, 7, none⟩ = _ := c7
              refine regT_start 5 (Ext V.drew) (by kernel_rfl) ?_
              refine regT_take (i := 0) (d := some 17) (v := ?_) [] hx0 rfl rfl (by kernel_rfl) (by kernel_rfl) (by kernel_rfl) (by kernel_rfl) (by kernel_rfl) (by decide) (fun _ _ _ h => h) (Or.inl ⟨by rfl, ?_⟩) ?_
              rotate_left
              · intro w' hx; (go_simp <;> with_reducible rfl)
              simp only [Act.put, List.setIfInBounds_toArray, List.set_cons_zero, List.set_cons_succ]
              refine regT_take (i := 1) (d := some 18) (v := ?_) [] hx0 rfl rfl (by kernel_rfl) (by kernel_rfl) (by kernel_rfl) (by kernel_rfl) (by kernel_rfl) (by decide) (fun _ _ _ h => h) (Or.inl ⟨by rfl, ?_⟩) ?_
              rotate_left
              · intro w' hx; have r4 := hx.cell q4; have r5 := hx.cell q5; have r6 := hx.cell q6; have r7 := hx.cell q7; (go_simp <;> with_reducible rfl)
              simp only [Act.put, List.setIfInBounds_toArray, List.set_cons_zero, List.set_cons_succ]
              refine regT_one 2 _ (by kernel_rfl) rfl ?_
              intro K hK
              go_simp
              refine (unit_any _).mono ?_
              rintro e W4 ⟨rfl, hb⟩
              have hX1 := hx0.call hb
              refine hK.out _ _ (fun _ => hX1) ?_
              clear hK K
              refine regT_one 3 _ (by kernel_rfl) rfl ?_
              intro K hK
              go_simp
              refine hK.out _ _ (fun _ => hX1) ?_
              clear hK K
              refine regT_one 4 _ (by kernel_rfl) rfl ?_
              intro K hK
              go_simp
              refine hK.out _ _ (fun _ => hX1) ?_
              clear hK K
              refine regT_done (by kernel_rfl) ?_ _
              go_wp2
              go_ret
              exact ⟨rfl, Below.trans hA.drew (Below.mono hX1 hA.size)⟩
    · have e2 : (yx == 0) = false := by simp [h2]
      have d2 : decide (yx = 0) = false := decide_eq_false h2
      have du : ¬ (([xx, 0, yx, yy] : List Int) = [16384, 0, 0, 16384]) := fun h => by
        simp at h
        exact h2 h.2.1
      rw [d2]
      clear h2
      by_cases k8 : k = 8
      · subst k8
        rw [if_pos rfl]
        by_cases h3 : xx = yy
        · subst h3
          rw [show decide (xx = xx) = true by simp]
          go_enter Try.func96, Try.ntmps96
          go_wp2
          go_ret
          exact ⟨rfl, hA⟩
        · have e3 : (xx == yy) = false := by simp [h3]
          rw [decide_eq_false h3]
          clear h3
          go_enter Try.func96, Try.ntmps96
          go_wp2
          go_ret
          exact ⟨rfl, hA⟩
      · by_cases k64 : k = 64
        · subst k64
          rw [if_neg (by decide), if_pos rfl]
          go_enter Try.func96, Try.ntmps96
          go_wp2
          go_ret
          exact ⟨rfl, hA⟩
        · by_cases k128 : k = 128
          · subst k128
            rw [if_neg (by decide), if_neg (by decide), if_pos rfl]
            go_enter Try.func96, Try.ntmps96
            go_wp2
            go_ret
            exact ⟨rfl, hA⟩
          · rw [if_neg k8, if_neg k64, if_neg k128]
            have e8 : (k == 8) = false := by simp [k8]
            have e64 : (k == 64) = false := by simp [k64]
            have e128 : (k == 128) = false := by simp [k128]
            clear k8 k64 k128 hin
            rw [decide_eq_false du]
            by_cases u1 : xx = 16384
            · subst u1
              go_enter Try.func96, Try.ntmps96
              go_upto_region 3 with fail
              generalize w.alloc _ = V at *
              have hx0 : Ext V.drew V.drew := Ext.refl _
              have q4 : V.drew.cell? ⟨w.heap.size, 4, none⟩ = _ := c4
              have q5 : V.drew.cell? ⟨w.heap.size, 5, none⟩ = _ := c5
              have q6 : V.drew.cell? ⟨w.heap.size, 6, none⟩ = _ := c6
              have q7 : V.drew.cell? ⟨w.heap.size, 7, none⟩ = _ := c7
              refine regT_start 5 (Ext V.drew) (by kernel_rfl) ?_
              refine regT_take (i := 0) (d := some 17) (v := ?_) [] hx0 rfl rfl (by kernel_rfl) (by kernel_rfl) (by kernel_rfl) (by kernel_rfl) (by kernel_rfl) (by decide) (fun _ _ _ h => h) (Or.inl ⟨by rfl, ?_⟩) ?_
              rotate_left
              · intro w' hx; (go_simp <;> with_reducible rfl)
              simp only [Act.put, List.setIfInBounds_toArray, List.set_cons_zero, List.set_cons_succ]
              refine regT_take (i := 1) (d := some 18) (v := ?_) [] hx0 rfl rfl (by kernel_rfl) (by kernel_rfl) (by kernel_rfl) (by kernel_rfl) (by kernel_rfl) (by decide) (fun _ _ _ h => h) (Or.inl ⟨by rfl, ?_⟩) ?_
              rotate_left
              · intro w' hx; have r4 := hx.cell q4; have r5 := hx.cell q5; have r6 := hx.cell q6; have r7 := hx.cell q7; (go_simp <;> with_reducible rfl)
              simp only [Act.put, List.setIfInBounds_toArray, List.set_cons_zero, List.set_cons_succ]
              refine regT_one 2 _ (by kernel_rfl) rfl ?_
              intro K hK
              go_simp
              refine (unit_any _).mono ?_
              rintro e W4 ⟨rfl, hb⟩
              have hX1 := hx0.call hb
              refine hK.out _ _ (fun _ => hX1) ?_
              clear hK K
              refine regT_one 3 _ (by kernel_rfl) rfl ?_
              intro K hK
              go_simp
              refine hK.out _ _ (fun _ => hX1) ?_
              clear hK K
              refine regT_one 4 _ (by kernel_rfl) rfl ?_
              intro K hK
              go_simp
              refine hK.out _ _ (fun _ => hX1) ?_
              clear hK K
              refine regT_done (by kernel_rfl) ?_ _
              go_wp2
              go_ret
              exact ⟨rfl, Below.trans hA.drew (Below.mono hX1 hA.size)⟩
            · have f1 : (xx == 16384) = false := by simp [u1]
              have f3 : decide (xx = 16384) = false := decide_eq_false u1
              clear u1
              go_enter Try.func96, Try.ntmps96
              go_upto_region 3 with fail
              generalize w.alloc _ = V at *
              have hx0 : Ext V.drew V.drew := Ext.refl _
              have q4 : V.drew.cell? ⟨w.heap.size, 4, none⟩ = _ := c4
              have q5 : V.drew.cell? ⟨w.heap.size, 5, none⟩ = _ := c5
              have q6 : V.drew.cell? ⟨w.heap.size, 6, none⟩ = _ := c6
              have q7 : V.drew.cell? ⟨w.heap.size, 7, none⟩ = _ := c7
              refine regT_start 5 (Ext V.drew) (by kernel_rfl) ?_
              refine regT_take (i := 0) (d := some 17) (v := ?_) [] hx0 rfl rfl (by kernel_rfl) (by kernel_rfl) (by kernel_rfl) (by kernel_rfl) (by kernel_rfl) (by decide) (fun _ _ _ h => h) (Or.inl ⟨by rfl, ?_⟩) ?_
              rotate_left
              · intro w' hx; (go_simp <;> with_reducible rfl)
              simp only [Act.put, List.setIfInBounds_toArray, List.set_cons_zero, List.set_cons_succ]
              refine regT_take (i := 1) (d := some 18) (v := ?_) [] hx0 rfl rfl (by kernel_rfl) (by kernel_rfl) (by kernel_rfl) (by kernel_rfl) (by kernel_rfl) (by decide) (fun _ _ _ h => h) (Or.inl ⟨by rfl, ?_⟩) ?_
              rotate_left
              · intro w' hx; have r4 := hx.cell q4; have r5 := hx.cell q5; have r6 := hx.cell q6; have r7 := hx.cell q7; (go_simp <;> with_reducible rfl)
              simp only [Act.put, List.setIfInBounds_toArray, List.set_cons_zero, List.set_cons_succ]
              refine regT_one 2 _ (by kernel_rfl) rfl ?_
              intro K hK
              go_simp
              refine (unit_any _).mono ?_
              rintro e W4 ⟨rfl, hb⟩
              have hX1 := hx0.call hb
              refine hK.out _ _ (fun _ => hX1) ?_
              clear hK K
              refine regT_one 3 _ (by kernel_rfl) rfl ?_
              intro K hK
              go_simp
              refine hK.out _ _ (fun _ => hX1) ?_
              clear hK K
              refine regT_one 4 _ (by kernel_rfl) rfl ?_
              intro K hK
              go_simp
              refine hK.out _ _ (fun _ => hX1) ?_
              clear hK K
              refine regT_done (by kernel_rfl) ?_ _
              go_wp2
              go_ret
              exact ⟨rfl, Below.trans hA.drew (Below.mono hX1 hA.size)⟩
  · have e1 : (xy == 0) = false := by simp [h1]
    have d1 : decide (xy = 0) = false := decide_eq_false h1
    have du : ¬ (([xx, xy, yx, yy] : List Int) = [16384, 0, 0, 16384]) := fun h => by
      simp at h
      exact h1 h.2.1
    rw [d1]
    clear h1
    by_cases k8 : k = 8
    · subst k8
      rw [if_pos rfl]
      by_cases h3 : xx = yy
      · subst h3
        rw [show decide (xx = xx) = true by simp]
        go_enter Try.func96, Try.ntmps96
        go_wp2
        go_ret
        exact ⟨rfl, hA⟩
      · have e3 : (xx == yy) = false := by simp [h3]
        rw [decide_eq_false h3]
        clear h3
        go_enter Try.func96, Try.ntmps96
        go_wp2
        go_ret
        exact ⟨rfl, hA⟩
    · by_cases k64 : k = 64
      · subst k64
        rw [if_neg (by decide), if_pos rfl]
        go_enter Try.func96, Try.ntmps96
        go_wp2
        go_ret
        exact ⟨rfl, hA⟩
      · by_cases k128 : k = 128
        · subst k128
          rw [if_neg (by decide), if_neg (by decide), if_pos rfl]
          go_enter Try.func96, Try.ntmps96
          go_wp2
          go_ret
          exact ⟨rfl, hA⟩
        · rw [if_neg k8, if_neg k64, if_neg k128]
          have e8 : (k == 8) = false := by simp [k8]
          have e64 : (k == 64) = false := by simp [k64]
          have e128 : (k == 128) = false := by simp [k128]
          clear k8 k64 k128 hin
          rw [decide_eq_false du]
          by_cases u1 : xx = 16384
          · subst u1
            go_enter Try.func96, Try.ntmps96
            go_upto_region 3 with fail
            generalize w.alloc _ = V at *
            have hx0 : Ext V.drew V.drew := Ext.refl _
            have q4 : V.drew.cell? ⟨w.heap.size, 4, none⟩ = _ := c4
            have q5 : V.drew.cell? ⟨w.heap.size, 5, none⟩ = _ := c5
            have q6 : V.drew.cell? ⟨w.heap.size, 6, none⟩ = _ := c6
            have q7 : V.drew.cell? ⟨w.heap.size, 7, none⟩ = _ := c7
            refine regT_start 5 (Ext V.drew) (by kernel_rfl) ?_
            refine regT_take (i := 0) (d := some 17) (v := ?_) [] hx0 rfl rfl (by kernel_rfl) (by kernel_rfl) (by kernel_rfl) (by kernel_rfl) (by kernel_rfl) (by decide) (fun _ _ _ h => h) (Or.inl ⟨by rfl, ?_⟩) ?_
            rotate_left
            · intro w' hx; (go_simp <;> with_reducible rfl)
            simp only [Act.put, List.setIfInBounds_toArray, List.set_cons_zero, List.set_cons_succ]
            refine regT_take (i := 1) (d := some 18) (v := ?_) [] hx0 rfl rfl (by kernel_rfl) (by kernel_rfl) (by kernel_rfl) (by kernel_rfl) (by kernel_rfl) (by decide) (fun _ _ _ h => h) (Or.inl ⟨by rfl, ?_⟩) ?_
            rotate_left
            · intro w' hx; have r4 := hx.cell q4; have r5 := hx.cell q5; have r6 := hx.cell q6; have r7 := hx.cell q7; (go_simp <;> with_reducible rfl)
            simp only [Act.put, List.setIfInBounds_toArray, List.set_cons_zero, List.set_cons_succ]
            refine regT_one 2 _ (by kernel_rfl) rfl ?_
            intro K hK
            go_simp
            refine (unit_any _).mono ?_
            rintro e W4 ⟨rfl, hb⟩
            have hX1 := hx0.call hb
            refine hK.out _ _ (fun _ => hX1) ?_
            clear hK K
            refine regT_one 3 _ (by kernel_rfl) rfl ?_
            intro K hK
            go_simp
            refine hK.out _ _ (fun _ => hX1) ?_
            clear hK K
            refine regT_one 4 _ (by kernel_rfl) rfl ?_
            intro K hK
            go_simp
            refine hK.out _ _ (fun _ => hX1) ?_
            clear hK K
            refine regT_done (by kernel_rfl) ?_ _
            go_wp2
            go_ret
            exact ⟨rfl, Below.trans hA.drew (Below.mono hX1 hA.size)⟩
          · have f1 : (xx == 16384) = false := by simp [u1]
            have f3 : decide (xx = 16384) = false := decide_eq_false u1
            clear u1
            go_enter Try.func96, Try.ntmps96
            go_upto_region 3 with fail
            generalize w.alloc _ = V at *
            have hx0 : Ext V.drew V.drew := Ext.refl _
            have q4 : V.drew.cell? ⟨w.heap.size, 4, none⟩ = _ := c4
            have q5 : V.drew.cell? ⟨w.heap.size, 5, none⟩ = _ := c5
            have q6 : V.drew.cell? ⟨w.heap.size, 6, none⟩ = _ := c6
            have q7 : V.drew.cell? ⟨w.heap.size, 7, none⟩ = _ := c7
            refine regT_start 5 (Ext V.drew) (by kernel_rfl) ?_
            refine regT_take (i := 0) (d := some 17) (v := ?_) [] hx0 rfl rfl (by kernel_rfl) (by kernel_rfl) (by kernel_rfl) (by kernel_rfl) (by kernel_rfl) (by decide) (fun _ _ _ h => h) (Or.inl ⟨by rfl, ?_⟩) ?_
            rotate_left
            · intro w' hx; (go_simp <;> with_reducible rfl)
            simp only [Act.put, List.setIfInBounds_toArray, List.set_cons_zero, List.set_cons_succ]
            refine regT_take (i := 1) (d := some 18) (v := ?_) [] hx0 rfl rfl (by kernel_rfl) (by kernel_rfl) (by kernel_rfl) (by kernel_rfl) (by kernel_rfl) (by decide) (fun _ _ _ h => h) (Or.inl ⟨by rfl, ?_⟩) ?_
            rotate_left
            · intro w' hx; have r4 := hx.cell q4; have r5 := hx.cell q5; have r6 := hx.cell q6; have r7 := hx.cell q7; (go_simp <;> with_reducible rfl)
            simp only [Act.put, List.setIfInBounds_toArray, List.set_cons_zero, List.set_cons_succ]
            refine regT_one 2 _ (by kernel_rfl) rfl ?_
            intro K hK
            go_simp
            refine (unit_any _).mono ?_
            rintro e W4 ⟨rfl, hb⟩
            have hX1 := hx0.call hb
            refine hK.out _ _ (fun _ => hX1) ?_
            clear hK K
            refine regT_one 3 _ (by kernel_rfl) rfl ?_
            intro K hK
            go_simp
            refine hK.out _ _ (fun _ => hX1) ?_
            clear hK K
            refine regT_one 4 _ (by kernel_rfl) rfl ?_
            intro K hK
            go_simp
            refine hK.out _ _ (fun _ => hX1) ?_
            clear hK K
            refine regT_done (by kernel_rfl) ?_ _
            go_wp2
            go_ret
            exact ⟨rfl, Below.trans hA.drew (Below.mono hX1 hA.size)⟩
end Go.Proofs.Ytgafjieghckimaa

/- compo: which parts may be, as a contract over this seat's translation. -/
namespace Go.Proofs.Ytgafjieghckimaa
open Go.RowKit
set_option linter.unusedVariables false
set_option linter.unusedSimpArgs false

set_option maxRecDepth 100000 in
set_option maxHeartbeats 2000000 in
theorem cpart_any (p : Pt) (hp : p.ok) (w : World) : Calls Try.prog 54 #[p.val] w (Ret w (.bool (ptRight p))) := by
  have hA := (Below.refl w.heap.size w).alloc (Nat.le_refl _) (.cells p.cells 29)
  have hk := heap_alloc_new w (.cells p.cells 29)
  have hKn := w_known hp.f.1 hp.f.2
  have hK := w_and200 hp.f.1 hp.f.2
  have H2 := Lib.hid (fun W => chas_any p 2 _ W (w_and2 hp.f.1 hp.f.2))
  have H1 := Lib.hid (fun W => chas_any p 1 _ W (w_and1 hp.f.1 hp.f.2))
  have HO := Lib.hid (fun W => ones_any (knd p.f) (knd_in p.f) W)
  have HT := Lib.hid (twoK_ones p.f)
  have HM := Lib.hid (fun W => cmat_any p hp W)
  have HX := Lib.hid (fun W => cbyte_any p.x W)
  have HY := Lib.hid (fun W => cbyte_any p.y W)
  have hst : (fb p.f 16 || fb p.f 32 || fb p.f 2048 || decide (8192 ≤ p.f)) = strange p.f := rfl
  rw [hst] at hKn
  unfold ptRight
  generalize twoK p.f = tk at *
  generalize strange p.f = sg at *
  generalize matB (knd p.f) p = mb at *
  generalize knd p.f = k at *
  generalize byteB p.x = bx at *
  generalize byteB p.y = bY at *
  generalize fb p.f 2 = f2 at *
  generalize fb p.f 1 = f1 at *
  clear hst hp
  unfold Pt.val Pt.cells at *
  obtain ⟨f, i, x, y, xx, xy, yx, yy⟩ := p
  simp only at *
  obtain ⟨c0, c1, c2, c3, c4, c5, c6, c7⟩ := cells8 hk
  cases sg with
  | true =>
    go_enter Try.func54, Try.ntmps54
    go_wp2_with fail
    go_ret
    exact ⟨rfl, hA⟩
  | false =>
    go_enter Try.func54, Try.ntmps54
    go_wp2_with fail
    generalize w.alloc _ = V at *
    with_reducible refine (H2.out _).mono ?_
    rintro e w1 ⟨rfl, hb1⟩
    have hB1 := hA.trans (hb1.mono hA.size)
    have hk1 := kept_block hk hb1
    clear hk hb1 c0 c1 c2 c3 c4 c5 c6 c7 H2 hA
    obtain ⟨c0, c1, c2, c3, c4, c5, c6, c7⟩ := cells8 hk1
    cases f2 with
    | false =>
      go_wp2_with fail
      go_ret
      exact ⟨rfl, hB1⟩
    | true =>
      go_wp2_with fail
      with_reducible refine (HO.out _).mono ?_
      rintro e w2 ⟨rfl, hb2⟩
      have hB2 := hB1.trans (hb2.mono hB1.size)
      have hk2 := kept_block hk1 hb2
      have ht : decide (1 < onesK k) = tk := HT.out
      generalize onesK k = o at *
      clear hk1 hb2 hB1 c0 c1 c2 c3 c4 c5 c6 c7 HO hKn hK HT
      obtain ⟨c0, c1, c2, c3, c4, c5, c6, c7⟩ := cells8 hk2
      cases tk with
      | true =>
        go_wp2_with fail
        go_ret
        exact ⟨rfl, hB2⟩
      | false =>
        go_wp2_with fail
        with_reducible refine (HM.out _).mono ?_
        rintro e w3 ⟨rfl, hb3⟩
        have hB3 := hB2.trans (hb3.mono hB2.size)
        have hk3 := kept_block hk2 hb3
        clear hk2 hb3 hB2 c0 c1 c2 c3 c4 c5 c6 c7 HM ht
        obtain ⟨c0, c1, c2, c3, c4, c5, c6, c7⟩ := cells8 hk3
        cases mb with
        | false =>
          go_wp2_with fail
          go_ret
          exact ⟨rfl, hB3⟩
        | true =>
          go_wp2_with fail
          with_reducible refine (H1.out _).mono ?_
          rintro e w4 ⟨rfl, hb4⟩
          have hB4 := hB3.trans (hb4.mono hB3.size)
          have hk4 := kept_block hk3 hb4
          clear hk3 hb4 hB3 c0 c1 c2 c3 c4 c5 c6 c7 H1
          obtain ⟨c0, c1, c2, c3, c4, c5, c6, c7⟩ := cells8 hk4
          cases f1 with
          | true =>
            go_wp2_with fail
            go_ret
            exact ⟨rfl, hB4⟩
          | false =>
            go_wp2_with fail
            with_reducible refine (HX.out _).mono ?_
            rintro e w5 ⟨rfl, rfl⟩
            cases bx with
            | false =>
              go_wp2_with fail
              go_ret
              exact ⟨rfl, hB4⟩
            | true =>
              go_wp2_with fail
              with_reducible refine (HY.out _).mono ?_
              rintro e w5 ⟨rfl, rfl⟩
              cases bY
              all_goals
                go_wp2_with fail
                go_ret
                exact ⟨rfl, hB4⟩
end Go.Proofs.Ytgafjieghckimaa

/- compo: which glyphs may be, as a contract over this seat's translation. -/
namespace Go.Proofs.Ytgafjieghckimaa
open Go.RowKit
set_option linter.unusedVariables false
set_option linter.unusedSimpArgs false

def encPt (p : Pt) : List Value := [.int .u16 p.f, .int .u16 p.i, .int .i16 p.x, .int .i16 p.y, .int .i16 p.xx, .int .i16 p.xy, .int .i16 p.yx, .int .i16 p.yy]
theorem encPt_len (p : Pt) : (encPt p).length = 8 := rfl
theorem encPt_one (p : Pt) : ∀ u ∈ encPt p, u.oneCell' = true := by intro u hu; simp [encPt] at hu; rcases hu with rfl | rfl | rfl | rfl | rfl | rfl | rfl | rfl <;> rfl
theorem atPt {w : World} {A : Option Addr} {n : Nat} {l : List Pt} {j : Nat} {p : Pt} (h : RowS encPt 8 w A n l) (hj : l[j]? = some p) :
    ∃ g off, A = some ⟨g, off, none⟩ ∧ g < w.heap.size ∧ w.cell? ⟨g, off + j * 8, none⟩ = some (.int .u16 p.f) ∧ w.cell? ⟨g, off + j * 8 + 1, none⟩ = some (.int .u16 p.i) ∧ w.cell? ⟨g, off + j * 8 + 2, none⟩ = some (.int .i16 p.x) ∧ w.cell? ⟨g, off + j * 8 + 3, none⟩ = some (.int .i16 p.y) ∧
      w.cell? ⟨g, off + j * 8 + 4, none⟩ = some (.int .i16 p.xx) ∧ w.cell? ⟨g, off + j * 8 + 5, none⟩ = some (.int .i16 p.xy) ∧ w.cell? ⟨g, off + j * 8 + 6, none⟩ = some (.int .i16 p.yx) ∧ w.cell? ⟨g, off + j * 8 + 7, none⟩ = some (.int .i16 p.yy) := by
  obtain ⟨g, off, e, hg, hc⟩ := h.at encPt_len (by omega) hj
  exact ⟨g, off, e, hg, hc 0 _ rfl, hc 1 _ rfl, hc 2 _ rfl, hc 3 _ rfl, hc 4 _ rfl, hc 5 _ rfl, hc 6 _ rfl, hc 7 _ rfl⟩

/-- A glyph made of parts as a value, and where its lists lie. -/
structure CgV where
  g : Cg
  QA : Option Addr
  q : Nat
  qc : Nat
  PA : Option Addr
  pn : Nat
  pc : Nat
def CgV.cells (v : CgV) : Array Value := #[.int .i16 v.g.x0, .int .i16 v.g.x1, .int .i16 v.g.x2, .int .i16 v.g.x3, .slice v.QA v.q v.qc, .slice v.PA v.pn v.pc]
def CgV.val (v : CgV) : Value := .agg v.cells
structure CgV.rows (w : World) (v : CgV) : Prop where
  ps : RowS encPt 8 w v.QA v.q v.g.ps
  pr : Row w v.PA v.pn (cellsOf .u8 v.g.pr)
theorem CgV.rows.below {w w' : World} {v : CgV} (h : v.rows w) (hb : Below w.heap.size w w') : v.rows w' := ⟨h.ps.below hb, h.pr.below hb⟩
theorem cells6 {w : World} {b : Nat} {t : TypeId} {x0 x1 x2 x3 x4 x5 : Value} (h : w.heap[b]? = some (.cells #[x0, x1, x2, x3, x4, x5] t (0, 0))) :
    w.cell? ⟨b, 0, none⟩ = some x0 ∧ w.cell? ⟨b, 1, none⟩ = some x1 ∧ w.cell? ⟨b, 2, none⟩ = some x2 ∧ w.cell? ⟨b, 3, none⟩ = some x3 ∧ w.cell? ⟨b, 4, none⟩ = some x4 ∧ w.cell? ⟨b, 5, none⟩ = some x5 :=
  ⟨cell_of_row _ _ 0 _ _ _ h, cell_of_row _ _ 1 _ _ _ h, cell_of_row _ _ 2 _ _ _ h, cell_of_row _ _ 3 _ _ _ h, cell_of_row _ _ 4 _ _ _ h, cell_of_row _ _ 5 _ _ _ h⟩

theorem codeB_last {ps : List Pt} {p : Pt} (h : ps[ps.length - 1]? = some p) : codeB ps = fb p.f 256 := by
  unfold codeB
  rw [List.getLast?_eq_getElem?, h]

set_option maxRecDepth 100000 in
set_option maxHeartbeats 2000000 in
theorem ccode_any (v : CgV) (w : World) (hr : v.rows w) (hq : 1 ≤ v.q) (hq2 : v.q ≤ 1000000) (ho : v.g.ok) : Calls Try.prog 51 #[v.val] w (Ret w (.bool (codeB v.g.ps))) := by
  have hA := (Below.refl w.heap.size w).alloc (Nat.le_refl _) (.cells v.cells 34)
  have hk := heap_alloc_new w (.cells v.cells 34)
  have hl := hr.ps.len
  obtain ⟨p, hp⟩ : ∃ p, v.g.ps[v.q - 1]? = some p := ⟨_, List.getElem?_eq_getElem (by omega)⟩
  have hpo := ho.ps p (List.mem_of_getElem? hp)
  have HC : Hid (codeB v.g.ps = fb p.f 256) := codeB_last (by rw [hl]; exact hp)
  obtain ⟨g, off, hga, hg, d0, d1, d2, d3, d4, d5, d6, d7⟩ := atPt (hr.below hA).ps hp
  have H := Lib.hid (fun W => chas_any p 256 _ W (w_and256 hpo.f.1 hpo.f.2))
  rw [HC.out]
  have hgw : g < w.heap.size := by
    obtain ⟨g', off', e', hg', _⟩ := atPt hr.ps hp
    rw [hga] at e'
    simp only [Option.some.injEq, Addr.mk.injEq, and_true] at e'
    rw [e'.1]
    exact hg'
  have hne : g ≠ w.heap.size := by omega
  clear hr hp ho hl HC
  unfold CgV.val at *
  unfold CgV.cells at *
  unfold Pt.val Pt.cells at H
  obtain ⟨⟨x0, x1, x2, x3, ps, pr⟩, QA, q, qc, PA, pn, pc⟩ := v
  obtain ⟨f, i, x, y, xx, xy, yx, yy⟩ := p
  simp only at *
  subst hga
  obtain ⟨c0, c1, c2, c3, c4, c5⟩ := cells6 hk
  have w1 : ((q : Int) - 1).toNat = q - 1 := by omega
  have w2 : (0 : Int) ≤ (q : Int) - 1 := by omega
  have w3 : (q : Int) - 1 < (q : Int) := by omega
  have w4 : IntKind.i64.wrap ((q : Int) - 1) = (q : Int) - 1 := IntWalk.i64_in _ (by omega)
  clear hk
  go_enter Try.func51, Try.ntmps51
  go_wp2_with fail
  with_reducible refine (H.out _).mono ?_
  rintro e w5 ⟨rfl, hb⟩
  go_wp2
  go_ret
  exact ⟨rfl, hA.trans (hb.mono hA.size)⟩

end Go.Proofs.Ytgafjieghckimaa

/- compo: Right, as a contract over this seat's translation. -/
namespace Go.Proofs.Ytgafjieghckimaa
open Go.RowKit
set_option linter.unusedVariables false
set_option linter.unusedSimpArgs false

set_option maxRecDepth 100000 in
set_option maxHeartbeats 4000000 in
theorem cright_any (v : CgV) (w : World) (hr : v.rows w) (hq1 : v.q ≤ 1000000) (hp1 : v.pn ≤ 1000000) (ho : v.g.ok) : Calls Try.prog 18 #[v.val] w (Ret w (.bool (cRight v.g))) := by
  have hA := (Below.refl w.heap.size w).alloc (Nat.le_refl _) (.cells v.cells 34)
  have hk := heap_alloc_new w (.cells v.cells 34)
  have HS : Hid (v.g.ps.length = v.q) := hr.ps.len
  have HP : Hid (v.g.pr.length = v.pn) := hr.pr.len
  have HPs := Lib.hid ho.ps
  have HRs := Lib.hid hr.ps
  have HRt : Hid (cRight v.g = (decide (1 ≤ v.q) && decide (v.q ≤ 200) && decide (v.pn ≤ 65535) && partsOk v.g.ps v.q && (codeB v.g.ps || decide (v.pn = 0)))) := by show _ = _; unfold cRight; rw [HS.out, HP.out]
  have HCc : Hid (1 ≤ v.q → ∀ W, Below w.heap.size w W → Calls Try.prog 51 #[v.val] W (Ret W (.bool (codeB v.g.ps)))) := fun h W hW => ccode_any v W (hr.below hW) h hq1 ho
  rw [HRt.out]
  clear hr ho HRt
  unfold CgV.val at *
  unfold CgV.cells at *
  obtain ⟨⟨x0, x1, x2, x3, ps, pr⟩, QA, q, qc, PA, pn, pc⟩ := v
  simp only at *
  obtain ⟨c0, c1, c2, c3, c4, c5⟩ := cells6 hk
  by_cases h1 : 1 ≤ q
  · by_cases h2 : q ≤ 200
    · by_cases h3 : pn ≤ 65535
      · rw [decide_eq_true h1, decide_eq_true h2, decide_eq_true h3]
        have e1 : ((q : Int) == 0) = false := by simp; omega
        have w4 : IntKind.i64.wrap ((q : Int) - 1) = (q : Int) - 1 := IntWalk.i64_in _ (by omega)
        go_enter Try.func18, Try.ntmps18
        go_wp2_with fail
        clear c0 c1 c2 c3 c4 c5 e1
        generalize w.alloc _ = V at *
        go_loopw [29] (fun i' wr => ∃ k : Nat, k ≤ q ∧ i' = .int .i64 k ∧ Hid (partsOk ps k = true) ∧ Below w.heap.size w wr ∧ wr.heap[w.heap.size]? = some (.cells #[.int .i16 x0, .int .i16 x1, .int .i16 x2, .int .i16 x3, .slice QA q qc, .slice PA pn pc] 34 (0, 0))) (fun i' _ => q - (intOf i').toNat)
        case atStart => exact ⟨0, Nat.zero_le _, rfl, Lib.hid rfl, hA, hk⟩
        case round =>
          clear hA hk
          obtain ⟨k, hkq, rfl, HO, hb, hk⟩ := hrel
          by_cases hlt : k < q
          · obtain ⟨p, hp⟩ : ∃ p, ps[k]? = some p := ⟨ps[k]'(by have := HS.out; omega), List.getElem?_eq_getElem (by have := HS.out; omega)⟩
            have hpo := HPs.out p (List.mem_of_getElem? hp)
            obtain ⟨g, off, rfl, hg, d0, d1, d2, d3, d4, d5, d6, d7⟩ := atPt (HRs.out.below hb) hp
            have HPt := Lib.hid (fun W => cpart_any p hpo W)
            have HH := Lib.hid (fun W => chas_any p 256 _ W (w_and256 hpo.f.1 hpo.f.2))
            have HNo : Hid ((ptRight p && !(decide (k + 1 < q) && fb p.f 256)) = false → partsOk ps q = false) := fun h => partsOk_not hp (by rw [HS.out]; exact h) hlt
            have HYs : Hid ((ptRight p && !(decide (k + 1 < q) && fb p.f 256)) = true → partsOk ps (k + 1) = true) := fun h => by
              rw [partsOk_succ, HO.out, hp]
              simp only [HS.out]
              rw [h]
              rfl
            have hA2 := (Below.refl wr.heap.size wr).alloc (Nat.le_refl _) (.cells p.cells 29)
            have hkp := heap_alloc_new wr (.cells p.cells 29)
            have hk2 := kept_block hk hA2
            have hb2 := hb.trans (hA2.mono hb.size)
            have hgn : g ≠ wr.heap.size := by omega
            clear hp hpo hA2 hk hb
            unfold Pt.val at *
            unfold Pt.cells at *
            generalize ptRight p = pt at *
            generalize fb p.f 256 = cd at *
            obtain ⟨f, i, x, y, xx, xy, yx, yy⟩ := p
            simp only at *
            obtain ⟨m0, m1, m2, m3, m4, m5, m6, m7⟩ := cells8 hkp
            go_wp2_with fail
            clear d0 d1 d2 d3 d4 d5 d6 d7 m0 m1 m2 m3 m4 m5 m6 m7
            generalize wr.alloc _ = U at *
            with_reducible refine (HPt.out _).mono ?_
            rintro e w1 ⟨rfl, hb3⟩
            have hb4 := hb2.trans (hb3.mono hb2.size)
            have hk4 := kept_block hk2 hb3
            have hkp4 := kept_block hkp hb3
            clear hb2 hk2 hkp hb3 HPt
            cases pt with
            | false =>
              have HF := Lib.hid (HNo.out (by simp))
              go_wp2
              go_ret
              exact ⟨by rw [HF.out]; rfl, hb4⟩
            | true =>
              obtain ⟨m0, m1, m2, m3, m4, m5, m6, m7⟩ := cells8 hkp4
              by_cases hl : k + 1 < q
              · have hl1 : (k : Int) < (q : Int) - 1 := by omega
                go_wp2_with fail
                with_reducible refine (HH.out _).mono ?_
                rintro e w2 ⟨rfl, hb5⟩
                have hb6 := hb4.trans (hb5.mono hb4.size)
                have hk6 := kept_block hk4 hb5
                clear hb4 hk4 hkp4 hb5 HH m0 m1 m2 m3 m4 m5 m6 m7
                cases cd with
                | true =>
                  have HF := Lib.hid (HNo.out (by simp [hl]))
                  go_wp2
                  go_ret
                  exact ⟨by rw [HF.out]; rfl, hb6⟩
                | false =>
                  have HY := Lib.hid (HYs.out (by simp))
                  clear HNo HYs HO
                  go_wp2
                  go_roundw
                  case rel => exact ⟨k + 1, by omega, by go_num, HY, hb6, hk6⟩
                  case measure => simp [intOf]; omega
              · have hl1 : ¬ (k : Int) < (q : Int) - 1 := by omega
                have HY := Lib.hid (HYs.out (by simp [hl]))
                clear HNo HYs HO hkp4 m0 m1 m2 m3 m4 m5 m6 m7
                go_wp2
                go_roundw
                case rel => exact ⟨k + 1, by omega, by go_num, HY, hb4, hk4⟩
                case measure => simp [intOf]; omega
          · obtain rfl : k = q := by omega
            have H := Lib.hid (HCc.out h1 wr hb)
            obtain ⟨c0, c1, c2, c3, c4, c5⟩ := cells6 hk
            generalize codeB ps = cb at *
            go_wp2_with fail
            with_reducible refine H.out.mono ?_
            rintro e w1 ⟨rfl, hb3⟩
            have hb4 := hb.trans (hb3.mono hb.size)
            have hk4 := kept_block hk hb3
            clear c0 c1 c2 c3 c4 c5 H hb3 hb hk
            obtain ⟨c0, c1, c2, c3, c4, c5⟩ := cells6 hk4
            cases cb with
            | true =>
              go_wp2
              go_ret
              exact ⟨by rw [HO.out]; first | rfl | simp, hb4⟩
            | false =>
              by_cases h0 : pn = 0
              · subst h0
                go_wp2
                go_ret
                exact ⟨by rw [HO.out]; first | rfl | simp, hb4⟩
              · have e0 : ((pn : Int) == 0) = false := by simp [h0]
                have d0 : decide (pn = 0) = false := decide_eq_false h0
                go_wp2
                go_ret
                exact ⟨by rw [HO.out, d0]; rfl, hb4⟩
      · rw [decide_eq_false h3]
        have e1 : ((q : Int) == 0) = false := by simp; omega
        have e3 : (65535 : Int) < (pn : Int) := by omega
        go_enter Try.func18, Try.ntmps18
        go_wp2_with fail
        go_ret
        exact ⟨by first | rfl | simp, hA⟩
    · rw [decide_eq_false h2]
      have e1 : ((q : Int) == 0) = false := by simp; omega
      have e2 : (200 : Int) < (q : Int) := by omega
      go_enter Try.func18, Try.ntmps18
      go_wp2_with fail
      go_ret
      exact ⟨by first | rfl | simp, hA⟩
  · rw [decide_eq_false h1]
    obtain rfl : q = 0 := by omega
    go_enter Try.func18, Try.ntmps18
    go_wp2_with fail
    go_ret
    exact ⟨by first | rfl | simp, hA⟩
end Go.Proofs.Ytgafjieghckimaa

/- Join of any written-out row of byte slices; arrays of numbers held against one another. -/
namespace Go.Proofs.Ytgafjieghckimaa
open Go.RowKit
set_option linter.unusedVariables false

theorem joinN_any (V : World) (b : Nat) (l : List BsV) (k : Nat) (cs : Array Value) (hcs : cs = (l.map BsV.val).toArray) (hb : b = V.heap.size) (hk : l.length = k) (hs : ∀ p ∈ l, p.ok V) (hk' : k ≤ 140737488351232) (hl : (joined l).length ≤ 140737488351232) :
    Calls Try.prog 24 #[.slice (some ⟨b, 0, none⟩) k k] (V.alloc (.cells cs 32)) (RetB V (joined l)) := by
  subst hb hcs
  have ha : Below V.heap.size V (V.alloc (.cells (l.map BsV.val).toArray 32)) := (Below.refl _ _).alloc (Nat.le_refl _) _
  refine (join_any _ k k l _ (row_vals V 32 _ k (by rw [List.length_map]; exact hk)) (fun p hp => ?_) hk' hl).mono ?_
  · exact Row.below (hs p hp) ha
  · rintro e w' ⟨A, n, c, rfl, ho, hb⟩
    exact ⟨A, n, c, rfl, ho.mono (by simp), ha.trans (hb.mono (by simp))⟩

/-- A search for the first place where two lists part. -/
theorem forIn_apart {P : Program} (w : World) (xs ys : List Int) (f : Nat → Option Bool × Unit → Sem (ForInStep (Option Bool × Unit)))
    (hf : ∀ i x y, xs[i]? = some x → ys[i]? = some y → ∀ r, (f i r).run P w = .ok (if x = y then .yield (none, ()) else .done (some false, ())) w) (hxy : xs.length = ys.length) :
    ∀ (n s : Nat), s + n = xs.length → xs.take s = ys.take s → (forIn (List.range' s n) (none, ()) f).run P w = .ok (if xs = ys then (none, ()) else (some false, ())) w := by
  intro n
  induction n with
  | zero =>
    intro s hsn ht
    have : xs = ys := by rw [List.take_of_length_le (by omega), List.take_of_length_le (by omega)] at ht; exact ht
    simp [this]
  | succ n ih =>
    intro s hsn ht
    have h1 : xs[s]? = some xs[s] := List.getElem?_eq_getElem (by omega)
    have h2 : ys[s]? = some ys[s] := List.getElem?_eq_getElem (by omega)
    rw [List.range'_succ, List.forIn_cons]
    simp only [Sem.run_bind, hf s _ _ h1 h2, Result.andThen_ok]
    by_cases he : xs[s] = ys[s]
    · rw [if_pos he]
      exact ih (s + 1) (by omega) (by rw [List.take_add_one, List.take_add_one, h1, h2, ht, he])
    · have hne : ¬ xs = ys := by
        rintro rfl
        exact he rfl
      rw [if_neg he, if_neg hne]
      simp [Sem.run_pure]

/-- Arrays of numbers are alike just if all their numbers are. -/
theorem run_equalIn_ints {P : Program} (w : World) (d : Nat) (t e : TypeId) (len : Nat) (k k' : IntKind) (xs ys : List Int) (ht : P.underlying t = some (.array len e)) (he : P.underlying e = some (.int k')) (ha : (isAgg e).run P w = .ok false w) (hs : (Go.sizeOf e).run P w = .ok 1 w) (hx : xs.length = len) (hy : ys.length = len) :
    (Op.equalIn (d + 2) t (.agg (cellsOf k xs).toArray) (.agg (cellsOf k ys).toArray)).run P w = .ok (decide (xs = ys)) w := by
  rw [show d + 2 = (d + 1) + 1 from rfl, Op.equalIn]
  simp only [Sem.run_bind, run_underlying ht, hs, Result.andThen_ok]
  rw [Std.Legacy.Range.forIn_eq_forIn_range']
  rw [show Std.Legacy.Range.size [0:len] = xs.length by simp [Std.Legacy.Range.size, hx]]
  rw [forIn_apart w xs ys _ ?_ (by omega) xs.length 0 (by omega) (by simp)]
  · simp only [Result.andThen_ok]
    by_cases h : xs = ys <;> simp [h, Sem.run_pure]
  · intro i x y h1 h2 r
    simp only [Sem.run_bind, Go.part, ha, Result.andThen_ok, Bool.false_eq_true, if_false, List.getElem?_toArray, Nat.mul_one, cellsOf_get h1, cellsOf_get h2, Sem.run_pure, run_equalIn_int w d e k k' x y he]
    by_cases h : x = y <;> simp [h, Sem.run_pure]

end Go.Proofs.Ytgafjieghckimaa

/- What bytes.Equal answers, as a contract over this seat's translation. -/
namespace Go.Proofs.Ytgafjieghckimaa
open Go.RowKit
set_option linter.unusedVariables false

theorem convert_row {w : World} {A : Option Addr} {n : Nat} {xs : List Int} (h : Row w A n (cellsOf .u8 xs)) (c : Nat) : (convert 32 9 (.slice A n c)).run Try.prog w = .ok (.string (strOfNums xs)) w := by
  have hl := h.len
  rcases Nat.eq_zero_or_pos n with hn | hn
  · subst hn
    obtain rfl : xs = [] := List.eq_nil_of_length_eq_zero hl
    cases A with
    | none => exact run_convert_bytes_nil w 32 5 Try.underlying32 Try.underlying5 0 c 9 Try.underlying9
    | some a =>
      rw [run_convert_bytes_string w 32 9 5 _ 0 c Try.underlying32 Try.underlying5 Try.underlying9, run_bytesToString w a 0 c [] (by simp [loadCells, loadCellsFrom])]
      rfl
  · obtain ⟨g, off, rfl, _, hc⟩ := h.2 hn
    refine run_convert_bytes_arg w 32 5 Try.underlying32 Try.underlying5 g off n c xs hl (fun i hi => ?_) 9 Try.underlying9
    refine hc i _ ?_
    rw [List.getD_eq_getElem?_getD]
    have : xs[i]? = some xs[i] := List.getElem?_eq_getElem (by omega)
    rw [cellsOf_get this, this]
    rfl

theorem strOf_eq {xs ys : List Int} (hx : Bytes xs) (hy : Bytes ys) : ((strOfNums xs).toList == (strOfNums ys).toList) = sameB xs ys := by
  have key : ∀ (a b : List Int), Bytes a → Bytes b → a.map (fun n => UInt8.ofNat n.toNat) = b.map (fun n => UInt8.ofNat n.toNat) → a = b := by
    intro a
    induction a with
    | nil => intro b _ _ h; cases b with
      | nil => rfl
      | cons => simp at h
    | cons x a ih =>
      intro b ha hb h
      cases b with
      | nil => simp at h
      | cons y b =>
        simp only [List.map_cons, List.cons.injEq] at h
        have hx := ha x (by simp)
        have hy := hb y (by simp)
        have e : x = y := by
          have := congrArg UInt8.toNat h.1
          rw [UInt8.toNat_ofNat', UInt8.toNat_ofNat'] at this
          omega
        rw [e, ih b (fun z hz => ha z (List.mem_cons_of_mem _ hz)) (fun z hz => hb z (List.mem_cons_of_mem _ hz)) h.2]
  unfold sameB
  rw [Bool.eq_iff_iff, beq_iff_eq, decide_eq_true_iff, ByteArray.toList_eq, ByteArray.toList_eq, strOfNums_data, strOfNums_data]
  exact ⟨key xs ys hx hy, fun h => by rw [h]⟩

theorem equal_any (A B : Option Addr) (n c m d : Nat) (xs ys : List Int) (w : World) (hx : Row w A n (cellsOf .u8 xs)) (hy : Row w B m (cellsOf .u8 ys)) (bx : Bytes xs) (bY : Bytes ys) :
    Calls Try.prog 67 #[.slice A n c, .slice B m d] w (fun e w' => e = .returned (.bool (sameB xs ys)) ∧ w = w') := by
  have h1 := convert_row hx c
  have h2 := convert_row hy d
  have H := Lib.hid (strOf_eq bx bY)
  clear hx hy bx bY
  go_enter Try.func67, Try.ntmps67
  go_wp2
  go_ret
  rw [← H.out]
  exact ⟨rfl, rfl⟩

end Go.Proofs.Ytgafjieghckimaa
