/- Words for slices of structs: rows of elements of k cells, fresh ones, what appends and stores leave, and what comes in. -/
import Derived.Test.YtlkidnacfljpkaaMem
import Derived.ChangeSame
import Derived.Deep.Slices
import Derived.OwnWalk
namespace Go.Proofs.Ytlkidnacfljpkaa
open Go.RowKit Go.ChangeShapes Go.WideShapes
set_option linter.unusedVariables false

/-- The cells of all elements, one behind the other. -/
def flat {α : Type} (enc : α → List Value) (l : List α) : List Value := l.flatMap enc

section
variable {α : Type} {enc : α → List Value} {k : Nat} (hk : ∀ x, (enc x).length = k)
include hk
theorem flat_length (l : List α) : (flat enc l).length = l.length * k := by
  unfold flat
  induction l with
  | nil => simp
  | cons x l ih => rw [List.flatMap_cons, List.length_append, ih, hk, List.length_cons, Nat.succ_mul]; omega
theorem flat_get {l : List α} {j : Nat} {x : α} (h : l[j]? = some x) {i : Nat} (hi : i < k) : (flat enc l)[j * k + i]? = (enc x)[i]? := by
  induction l generalizing j with
  | nil => simp at h
  | cons y l ih =>
    unfold flat at *
    rw [List.flatMap_cons]
    cases j with
    | zero =>
      simp at h
      subst h
      rw [Nat.zero_mul, Nat.zero_add, List.getElem?_append_left (by rw [hk]; exact hi)]
    | succ j =>
      rw [List.getElem?_append_right (by rw [hk, Nat.succ_mul]; omega), hk, Nat.succ_mul, show j * k + k + i - k = j * k + i by omega]
      exact ih (by simpa using h)
theorem flat_take (l : List α) (n : Nat) : (flat enc l).take (n * k) = flat enc (l.take n) := by
  induction l generalizing n with
  | nil => simp [flat]
  | cons y l ih =>
    cases n with
    | zero => simp [flat]
    | succ n =>
      unfold flat at *
      rw [List.flatMap_cons, List.take_succ_cons, List.flatMap_cons, List.take_append, hk, List.take_of_length_le (by rw [hk, Nat.succ_mul]; omega), Nat.succ_mul, show n * k + k - k = n * k by omega, ih]
theorem flat_drop (l : List α) (n : Nat) : (flat enc l).drop (n * k) = flat enc (l.drop n) := by
  induction l generalizing n with
  | nil => simp [flat]
  | cons y l ih =>
    cases n with
    | zero => simp [flat]
    | succ n =>
      unfold flat at *
      rw [List.flatMap_cons, List.drop_succ_cons, List.drop_append, hk, List.drop_of_length_le (by rw [hk, Nat.succ_mul]; omega), List.nil_append, Nat.succ_mul, show n * k + k - k = n * k by omega, ih]
end
theorem flat_append {α : Type} (enc : α → List Value) (a b : List α) : flat enc a ++ flat enc b = flat enc (a ++ b) := by simp [flat]
theorem flat_nil {α : Type} (enc : α → List Value) : flat enc ([] : List α) = [] := rfl
theorem flat_one {α : Type} (enc : α → List Value) (x : α) : flat enc [x] = enc x := by simp [flat]

/-- A slice of n elements of k cells each, that begins at A, shows the elements l. -/
def RowS {α : Type} (enc : α → List Value) (k : Nat) (w : World) (A : Option Addr) (n : Nat) (l : List α) : Prop := l.length = n ∧ Row w A (n * k) (flat enc l)

section
variable {α : Type} {enc : α → List Value} {k : Nat} {w w' : World} {A : Option Addr} {n : Nat} {l : List α}
theorem RowS.len (h : RowS enc k w A n l) : l.length = n := h.1
theorem RowS.empty (w : World) (A : Option Addr) : RowS enc k w A 0 [] := ⟨rfl, by rw [Nat.zero_mul]; exact Row.empty w A⟩
theorem RowS.below (h : RowS enc k w A n l) (hb : Below w.heap.size w w') : RowS enc k w' A n l := ⟨h.1, h.2.below hb⟩
theorem RowS.drewN (h : RowS enc k w A n l) (q : Nat) : RowS enc k (w.drewN q) A n l := h
theorem RowS.drew (h : RowS enc k w A n l) : RowS enc k w.drew A n l := h
theorem RowS.grown {row : Option Nat} (h : RowS enc k w A n l) (hb : w.grownBy w' row) (hne : ∀ g, blockOf A = some g → some g ≠ row) : RowS enc k w' A n l := ⟨h.1, h.2.grown hb hne⟩
theorem RowS.keep (h : RowS enc k w A n l) (hs : w.heap.size ≤ w'.heap.size) (hk : ∀ g, blockOf A = some g → g < w.heap.size → w'.heap[g]? = w.heap[g]?) : RowS enc k w' A n l := ⟨h.1, h.2.keep hs hk⟩
theorem RowS.take (hk : ∀ x, (enc x).length = k) (h : RowS enc k w A n l) {m : Nat} (hm : m ≤ n) : RowS enc k w A m (l.take m) :=
  ⟨by rw [List.length_take, h.1]; omega, by rw [← flat_take hk]; exact h.2.take (Nat.mul_le_mul_right k hm)⟩
/-- The cells of element j. -/
theorem RowS.at (hk : ∀ x, (enc x).length = k) (hk0 : 0 < k) (h : RowS enc k w A n l) {j : Nat} {x : α} (hj : l[j]? = some x) :
    ∃ g off, A = some ⟨g, off, none⟩ ∧ g < w.heap.size ∧ ∀ i u, (enc x)[i]? = some u → w.cell? ⟨g, off + j * k + i, none⟩ = some u := by
  have hl := (List.getElem?_eq_some_iff.1 hj).1
  have hn : 0 < n * k := Nat.mul_pos (by have := h.1; omega) hk0
  obtain ⟨g, off, e, hg, hc⟩ := h.2.2 hn
  refine ⟨g, off, e, hg, fun i u hu => ?_⟩
  rw [Nat.add_assoc]
  refine hc _ u ?_
  have hi : i < k := by have := (List.getElem?_eq_some_iff.1 hu).1; rw [hk] at this; exact this
  rw [flat_get hk hj hi]
  exact hu
end

/-- A slice of elements in memory that was made from block B on: nil, or at the head of a block of its own. -/
def OwnS {α : Type} (t : TypeId) (enc : α → List Value) (k : Nat) (w : World) (B : Nat) (A : Option Addr) (n c : Nat) (l : List α) : Prop := l.length = n ∧ w.ownsRow B t k (.slice A n c) n (flat enc l)

section
variable {α : Type} {t : TypeId} {enc : α → List Value} {k : Nat} {w w' : World} {B : Nat} {A : Option Addr} {n c : Nat} {l : List α}

theorem OwnS.len (h : OwnS t enc k w B A n c l) : l.length = n := h.1

theorem OwnS.shape (h : OwnS t enc k w B A n c l) :
    (A = none ∧ l = [] ∧ n = 0 ∧ c = 0) ∨ ∃ g cur, A = some ⟨g, 0, none⟩ ∧ B ≤ g ∧ g < w.heap.size ∧ w.heap[g]? = some (.cells cur t (0, 0)) ∧ n ≤ c ∧ c ≤ maxLen ∧ cur.size = c * k ∧ cur.toList.take (n * k) = flat enc l := by
  obtain ⟨hl, h⟩ := h
  rcases h.2 with ⟨e, h0⟩ | ⟨g, cap, cur, e, hB, hh, h1, h2, h3, h4⟩
  · injection e with e1 _ e3
    exact .inl ⟨e1, List.eq_nil_of_length_eq_zero (by omega), h0, e3⟩
  · injection e with e1 _ e3
    subst e1 e3
    exact .inr ⟨g, cur, rfl, hB, lt_of_block hh, hh, h1, h2, h3, h4⟩

theorem OwnS.nil (t : TypeId) (enc : α → List Value) (k : Nat) (w : World) (B : Nat) : OwnS t enc k w B none 0 0 [] := ⟨rfl, World.ownsRow_nil _ _ _ _⟩

theorem OwnS.cap (h : OwnS t enc k w B A n c l) : n ≤ c := by
  rcases h.shape with ⟨_, _, rfl, _⟩ | ⟨_, _, _, _, _, _, h1, _⟩
  · simp
  · exact h1

theorem OwnS.row (hk : ∀ x, (enc x).length = k) (h : OwnS t enc k w B A n c l) : RowS enc k w A n l := by
  refine ⟨h.1, by rw [flat_length hk, h.1], fun hn => ?_⟩
  rcases h.shape with ⟨_, _, rfl, _⟩ | ⟨g, cur, rfl, _, hg, hh, _, _, _, h4⟩
  · rw [Nat.zero_mul] at hn; omega
  · refine ⟨g, 0, rfl, hg, fun j u hu => ?_⟩
    rw [Nat.zero_add, cell_of_row w g j cur t (0, 0) hh]
    rw [← h4, List.getElem?_take] at hu
    split at hu
    · simpa using hu
    · cases hu

theorem OwnS.from_ (h : OwnS t enc k w B A n c l) : ∀ g, blockOf A = some g → B ≤ g ∧ g < w.heap.size := by
  intro g hg
  rcases h.shape with ⟨rfl, _⟩ | ⟨g', cur, rfl, h1, h2, _⟩
  · simp [blockOf] at hg
  · simp [blockOf] at hg
    subst hg
    exact ⟨h1, h2⟩

theorem OwnS.keep (h : OwnS t enc k w B A n c l) (hk : ∀ g, blockOf A = some g → w'.heap[g]? = w.heap[g]?) : OwnS t enc k w' B A n c l := by
  refine ⟨h.1, h.2.1, ?_⟩
  rcases h.2.2 with h2 | ⟨g, cap, cur, e, hB, hh, r⟩
  · exact .inl h2
  · refine .inr ⟨g, cap, cur, e, hB, ?_, r⟩
    injection e with e1
    rw [hk g (by rw [e1]; rfl)]
    exact hh

theorem OwnS.grown {row : Option Nat} (h : OwnS t enc k w B A n c l) (hb : w.grownBy w' row) (hne : ∀ g, blockOf A = some g → some g ≠ row) : OwnS t enc k w' B A n c l :=
  h.keep fun g e => hb.block g (h.from_ g e).2 (hne g e)
theorem OwnS.below (h : OwnS t enc k w B A n c l) (hb : Below w.heap.size w w') : OwnS t enc k w' B A n c l := h.keep fun g e => hb.block g (h.from_ g e).2
theorem OwnS.drewN (h : OwnS t enc k w B A n c l) (q : Nat) : OwnS t enc k (w.drewN q) B A n c l := h
theorem OwnS.drew (h : OwnS t enc k w B A n c l) : OwnS t enc k w.drew B A n c l := h
theorem OwnS.alloc (h : OwnS t enc k w B A n c l) (o : Obj) : OwnS t enc k (w.alloc o) B A n c l := h.below ((Below.refl _ _).alloc (Nat.le_refl _) o)
theorem OwnS.mono {B' : Nat} (h : OwnS t enc k w B A n c l) (hB : B' ≤ B) : OwnS t enc k w B' A n c l := by
  refine ⟨h.1, h.2.1, ?_⟩
  rcases h.2.2 with h2 | ⟨g, cap, cur, e, hg, r⟩
  · exact .inl h2
  · exact .inr ⟨g, cap, cur, e, by omega, r⟩

theorem ownS_shape {v : Value} (hl : l.length = n) (h : w.ownsRow B t k v n (flat enc l)) : ∃ A c, v = .slice A n c ∧ OwnS t enc k w B A n c l := by
  rcases h.2 with ⟨e, h0⟩ | ⟨g, cap, cur, e, r⟩
  · subst h0 e
    exact ⟨none, 0, rfl, hl, h⟩
  · subst e
    exact ⟨_, cap, rfl, hl, h⟩

/-- Fresh elements, written out. -/
theorem ownS_lit (w : World) (B : Nat) (t : TypeId) (enc : α → List Value) (k : Nat) (hk : ∀ x, (enc x).length = k) (l : List α) (cs : Array Value) (hcs : cs = (flat enc l).toArray) (n : Nat) (hn : l.length = n) (hB : B ≤ w.heap.size) (hm : n ≤ maxLen) : OwnS t enc k (w.alloc (.cells cs t)) B (some ⟨w.heap.size, 0, none⟩) n n l := by
  subst hcs
  have := World.ownsRow_lit (base := B) (e := t) (size := k) w (flat enc l).toArray n hB hm (by simp [flat_length hk]; rw [hn])
  exact ⟨hn, by simpa using this⟩

/-- A store of one cell into a fresh row. -/
theorem ownS_setCell {g : Nat} (h : OwnS t enc k w B (some ⟨g, 0, none⟩) n c l) {j : Nat} {u : Value} {l' : List α} (hl : l'.length = l.length) (hf : flat enc l' = (flat enc l).set j u) : OwnS t enc k (w.setCell ⟨g, j, none⟩ u) B (some ⟨g, 0, none⟩) n c l' := by
  rcases h.shape with ⟨e, _⟩ | ⟨g', cur, e, hB, hg, hh, h1, h2, h3, h4⟩
  · cases e
  · simp only [Option.some.injEq, Addr.mk.injEq, and_true] at e
    subst e
    refine ⟨by rw [hl]; exact h.1, by rw [hf, List.length_set]; exact h.2.1, .inr ⟨g, c, cur.setIfInBounds j u, rfl, hB, ?_, h1, h2, by simpa using h3, ?_⟩⟩
    · simp [World.setCell, Array.getElem?_modify, hh]
    · rw [hf, ← h4]
      simp [List.take_set]
end

/-- What a call that answers fresh elements and turns nothing old leaves. -/
def RetS {α : Type} (t : TypeId) (enc : α → List Value) (k : Nat) (w : World) (l : List α) (e : Ending) (w' : World) : Prop := ∃ A n c, e = .returned (.slice A n c) ∧ OwnS t enc k w' w.heap.size A n c l ∧ Below w.heap.size w w'

/-- The run of an append of elements that are read onto a fresh slice: the source nil or not. -/
theorem run_append_rowS {P : Program} {α : Type} (w : World) (t : TypeId) (enc : α → List Value) (k : Nat) (hk : ∀ x, (enc x).length = k) (hk0 : 0 < k) (h1 : ∀ x, ∀ u ∈ enc x, u.oneCell' = true) (base T ty : Nat) (i : TypeInfo) (z : Value) (b : Nat) (ht : P.underlying T = some (.slice t)) (hi : P.info? t = some i) (hz : i.zero = some z) (hs : i.size = k) (hzs : z.cells.size = k) (hby : i.bytes = b)
    (A : Option Addr) (n c : Nat) (l : List α) (hown : OwnS t enc k w base A n c l) (A' : Option Addr) (n' c' : Nat) (l' : List α) (hr : RowS enc k w A' n' l')
    (hb : (n + n') * b ≤ 140737488355328) (hm : n + n' ≤ 140737488355328) (hbase : base ≤ w.heap.size) :
    ∃ A2 c2 w', (Builtin.append_ #[T, T] ty #[.slice A n c, .slice A' n' c']).run P w = .ok (.slice A2 (n + n') c2) w' ∧ OwnS t enc k w' base A2 (n + n') c2 (l ++ l') ∧ w.grownBy w' (blockOf A) := by
  have hbo : (Value.slice A n c).ownBlock = blockOf A := by
    rcases hown.shape with ⟨rfl, _⟩ | ⟨g, cur, rfl, _⟩ <;> rfl
  have hyl := hr.len
  by_cases hy : n' = 0
  · obtain rfl : l' = [] := List.eq_nil_of_length_eq_zero (by omega)
    subst hy
    refine ⟨A, c, w, ?_, by simpa using hown, World.grownBy.refl w _⟩
    rcases hown.shape with ⟨rfl, rfl, rfl, rfl⟩ | ⟨g, cur, rfl, _, _, _, hle, _⟩
    · cases A' <;> simp [Builtin.append_, run_underlying ht, sizeOf, typeInfo, hi, Builtin.lenOf, Builtin.firstCells, loadCells, loadCellsFrom]
    · cases A' <;> simp [Builtin.append_, run_underlying ht, sizeOf, typeInfo, hi, Builtin.lenOf, Builtin.firstCells, loadCells, loadCellsFrom, hle, storeCells]
  · obtain ⟨g, off, rfl, hg, hc⟩ := hr.2.2 (Nat.mul_pos (by omega) hk0)
    obtain ⟨v', w', hrun, h2, h3, _⟩ := run_append_own (P := P) w base T ty t i z k b ht hi hz hs hby hzs hk0 (.slice A n c) n (flat enc l) hown.2 ⟨g, off, none⟩ n' c' (flat enc l') (by rw [flat_length hk, hyl])
      (fun j u hu => by rw [Addr.add_lit]; exact hc j u hu) (fun u hu => by unfold flat at hu; obtain ⟨x, _, hx⟩ := List.mem_flatMap.1 hu; exact h1 x u hx) (by simp only [maxLen]; omega) hb hbase
    rw [flat_append] at h2
    obtain ⟨A2, c2, rfl, h2'⟩ := ownS_shape (by rw [List.length_append, hown.len, hyl]) h2
    exact ⟨A2, c2, w', hrun, h2', by rw [← hbo]; exact h3⟩

/-- The same at an operation of the walk. -/
theorem wpList_append_rowS {P : Program} {α : Type} {w : World} {ops : Array Oper} {rest : List Oper} {o : Oper} {a : Act} {Q : Exit → Act → World → Prop} (hgd : o.guard = none) (s x : Operand) (T : TypeId)
    (ho : o.op = .call { callee := .builtin .append, args := #[s, x], argTypes := #[T, T] }) (t : TypeId) (enc : α → List Value) (k : Nat) (hk : ∀ x, (enc x).length = k) (hk0 : 0 < k) (h1 : ∀ x, ∀ u ∈ enc x, u.oneCell' = true)
    (base : Nat) (i : TypeInfo) (z : Value) (b : Nat) (ht : P.underlying T = some (.slice t)) (hi : P.info? t = some i) (hz : i.zero = some z) (hs : i.size = k) (hzs : z.cells.size = k) (hby : i.bytes = b)
    (A : Option Addr) (n c : Nat) (l : List α) (hes : a.eval s = .slice A n c) (hown : OwnS t enc k w base A n c l) (A' : Option Addr) (n' c' : Nat) (l' : List α) (hex : a.eval x = .slice A' n' c') (hr : RowS enc k w A' n' l')
    (hb : (n + n') * b ≤ 140737488355328) (hm : n + n' ≤ 140737488355328) (hbase : base ≤ w.heap.size)
    (h : ∀ A2 c2 w', OwnS t enc k w' base A2 (n + n') c2 (l ++ l') → w.grownBy w' (blockOf A) → wpList P ops Q rest (a.put o.dst (.slice A2 (n + n') c2)) w') : wpList P ops Q (o :: rest) a w := by
  refine wpList_plain hgd fun _ hK => ?_
  obtain ⟨A2, c2, w', hrun, h2, h3⟩ := run_append_rowS (P := P) w t enc k hk hk0 h1 base T o.type i z b ht hi hz hs hzs hby A n c l hown A' n' c' l' hr hb hm hbase
  unfold Oper.wp execOp
  simp only [ho, resolve, invoke, builtin, Sem.run_bind, Sem.run_pure, Result.andThen_ok, List.map_toArray, List.map_cons, List.map_nil, hes, hex, hrun]
  exact hK _ _ (h A2 c2 w' h2 h3)

/-- Elements written out in a block of their own. -/
theorem rowS_vals {α : Type} {enc : α → List Value} {k : Nat} (hk : ∀ x, (enc x).length = k) (w : World) (t : TypeId) (l : List α) (cs : Array Value) (hcs : cs = (flat enc l).toArray) (n : Nat) (hn : l.length = n) : RowS enc k (w.alloc (.cells cs t)) (some ⟨w.heap.size, 0, none⟩) n l := by
  subst hcs
  refine ⟨hn, by rw [flat_length hk, hn], fun _ => ⟨w.heap.size, 0, rfl, by simp, fun j u hu => ?_⟩⟩
  rw [Nat.zero_add, cell_of_row _ _ j _ t (0, 0) (heap_alloc_new w _)]
  simpa using hu

/-- A list out of its elements. -/
theorem list_of {α : Type} {p : Nat → α → Prop} (n : Nat) (h : ∀ i, i < n → ∃ x, p i x) : ∃ l : List α, l.length = n ∧ ∀ i x, l[i]? = some x → p i x := by
  induction n with
  | zero => exact ⟨[], rfl, fun i x hx => by simp at hx⟩
  | succ n ih =>
    obtain ⟨l, hl, hp⟩ := ih fun i hi => h i (by omega)
    obtain ⟨x, hx⟩ := h n (by omega)
    refine ⟨l ++ [x], by simp [hl], fun i y hy => ?_⟩
    rw [List.getElem?_append] at hy
    split at hy
    · exact hp i y hy
    · rename_i hi
      have : i - l.length = 0 := by
        rcases Nat.eq_zero_or_pos (i - l.length) with h0 | h0
        · exact h0
        · rw [List.getElem?_eq_none (by simp; omega)] at hy; cases hy
      rw [this] at hy
      simp at hy
      subst hy
      rw [show i = n by omega]
      exact hx

/-- A slice that comes in: each element's cells, and how they read. -/
theorem open_sliceK {H : Type} {enc : TypeId × Value → H} {P : Program} {w : World} {t e : TypeId} {k : Nat} (ht : P.underlying t = some (.slice e)) (hk : P.cellsOf e = k) {a : Option Addr} {len cap : Nat} {d : DataW H} {p : List MemPlace}
    (h : DataW.Trod enc P w 0 (fun _ => true) true t (.slice a len cap) d p) :
    (a = none ∧ len = 0 ∧ cap = 0) ∨ ∃ x, a = some x ∧ len ≤ cap ∧ cap ≤ maxLen ∧ ∀ i, i < len → ∃ (cs : List Value) (m : Nat) (y : DataW H × List MemPlace), cs.length = k ∧ (∀ j, j < k → w.cell? (x.add (i * k + j)) = cs[j]?) ∧ DataW.trod enc P w 0 (fun _ => true) true m e cs = some y := by
  obtain ⟨fuel, hf⟩ := h
  rcases DataW.trod_slice ht hf with ⟨hcs, _⟩ | ⟨x, l, c, elems, rest, n, _, hcs, _, _, hl, hm, hel, hi, _, _⟩
  · simp [Value.cells] at hcs
    exact .inl ⟨hcs.1, hcs.2.1, hcs.2.2⟩
  · simp [Value.cells] at hcs
    obtain ⟨rfl, rfl, rfl⟩ := hcs
    refine .inr ⟨x, rfl, hl, hm, fun i hlt => ?_⟩
    have h1 := hi i hlt
    rw [hk] at h1
    rw [List.getElem?_eq_getElem (by omega)] at h1
    cases hc : w.cells? 0 (x.add (i * k)) k with
    | none => rw [hc] at h1; simp at h1
    | some cs =>
      rw [hc] at h1
      obtain ⟨_, hcl, hat⟩ := World.cells?_some hc
      exact ⟨cs, n, _, hcl, fun j hj => by rw [← Go.Deep.add_add]; exact hat j hj, h1⟩

/-- Such a slice, once each element is known, is a row. -/
theorem rowS_in {α : Type} {enc : α → List Value} {k : Nat} (hk : ∀ x, (enc x).length = k) {w : World} {x : Addr} {len : Nat} (l : List α) (hl : l.length = len) (hc : ∀ i y, l[i]? = some y → ∀ j u, (enc y)[j]? = some u → w.cell? (x.add (i * k + j)) = some u) : RowS enc k w (some x) len l := by
  refine ⟨hl, by rw [flat_length hk, hl], fun hn => ?_⟩
  have hk0 : 0 < k := Nat.pos_of_mul_pos_left hn
  have hl0 : 0 < len := Nat.pos_of_mul_pos_right hn
  have key : ∀ q u, (flat enc l)[q]? = some u → w.cell? (x.add q) = some u := by
    intro q u hu
    have hq := (List.getElem?_eq_some_iff.1 hu).1
    rw [flat_length hk] at hq
    have hqk : q / k < l.length := Nat.div_lt_of_lt_mul (by rw [Nat.mul_comm]; exact hq)
    have hy : l[q / k]? = some l[q / k] := List.getElem?_eq_getElem hqk
    have he : q / k * k + q % k = q := by rw [Nat.mul_comm]; exact Nat.div_add_mod q k
    have h2 := flat_get hk hy (Nat.mod_lt q hk0)
    rw [he] at h2
    have := hc _ _ hy (q % k) u (by rw [← h2]; exact hu)
    rwa [he] at this
  have h0 : ∃ u, (flat enc l)[0]? = some u := ⟨_, List.getElem?_eq_getElem (by rw [flat_length hk, hl]; exact Nat.mul_pos hl0 hk0)⟩
  obtain ⟨u0, h0⟩ := h0
  have hx := key 0 u0 h0
  have hsp : x.spot = none := by
    cases hs : x.spot with
    | none => rfl
    | some s =>
      rw [show x.add 0 = x by unfold Addr.add; simp] at hx
      unfold World.cell? at hx
      split at hx <;> simp [hs] at hx
  obtain ⟨g, off, sp⟩ := x
  simp only at hsp
  subst hsp
  refine ⟨g, off, rfl, ?_, fun j u hu => by have := key j u hu; rwa [Addr.add_lit] at this⟩
  rw [Addr.add_lit] at hx
  exact World.block_lt_of_cell? w _ hx

theorem madeCells_flat {α : Type} {enc : α → List Value} {k : Nat} (hk : ∀ x, (enc x).length = k) (hk0 : 0 < k) (z : Array Value) (x0 : α) (hz : z.toList = enc x0) (n : Nat) : (madeCells z (n * k)).toList = flat enc (List.replicate n x0) := by
  have hzs : z.size = k := by rw [← hk x0, ← hz, Array.length_toList]
  apply List.ext_getElem?
  intro q
  by_cases hq : q < n * k
  · have hqk : q / k < n := Nat.div_lt_of_lt_mul (by rw [Nat.mul_comm]; exact hq)
    have he : q / k * k + q % k = q := by rw [Nat.mul_comm]; exact Nat.div_add_mod q k
    have h1 := flat_get hk (l := List.replicate n x0) (j := q / k) (x := x0) (by simp [hqk]) (Nat.mod_lt q hk0)
    rw [he] at h1
    rw [h1, ← hz]
    have hm : q % z.size < z.size := Nat.mod_lt _ (by omega)
    simp only [madeCells, Array.toList_map, Array.toList_range, List.getElem?_map, List.getElem?_range hq, Option.map_some, Array.getElem?_toList]
    rw [getElem!_pos z _ hm, ← hzs, Array.getElem?_eq_getElem hm]
  · rw [List.getElem?_eq_none (by simp [madeCells]; omega), List.getElem?_eq_none (by rw [flat_length hk, List.length_replicate]; omega)]

/-- 'make([]T, n)' for structs. -/
theorem wpList_make_S {P : Program} {α : Type} {w : World} {ops : Array Oper} {rest : List Oper} {o : Oper} {a : Act} {Q : Exit → Act → World → Prop} (hg : o.guard = none) (l c : Operand) (T : TypeId) (hop : o.op = Op.makeSlice T l c)
    (t : TypeId) (enc : α → List Value) (k : Nat) (hk : ∀ x, (enc x).length = k) (hk0 : 0 < k) (B : Nat) (i : TypeInfo) (z : Value) (x0 : α) (b : Nat) (h1 : P.underlying T = some (.slice t)) (h2 : P.info? t = some i) (h3 : i.zero = some z) (h4 : i.size = k) (hz : z.cells.toList = enc x0) (h5 : i.bytes = b)
    (L C : Int) (n : Nat) (hl : a.eval l = .int .i64 L) (hc : a.eval c = .int .i64 C) (hL : L = (n : Int)) (hC : C = (n : Int)) (b2 : b * n ≤ 281474976710656) (b3 : n ≤ 9223372036854775807) (b4 : B ≤ w.heap.size)
    (hK : ∀ w', OwnS t enc k w' B (some ⟨w.heap.size, 0, none⟩) n n (List.replicate n x0) → w.grownBy w' none → wpList P ops Q rest (a.put o.dst (.slice (some ⟨w.heap.size, 0, none⟩) n n)) w') : wpList P ops Q (o :: rest) a w := by
  refine wpList_make_full w hg l c T hop B t i z k h1 h2 h3 h4 .i64 .i64 L C n hl hc hL hC (by rw [h5]; exact b2) (by simp only [maxLen]; exact b3) b4 fun w' ho hgr => hK w' ⟨by simp, ?_⟩ hgr
  rw [madeCells_flat hk hk0 _ x0 hz] at ho
  exact ho

/-- One element of a fresh row turned, cell by cell. -/
theorem flat_set {α : Type} {enc : α → List Value} {k : Nat} (hk : ∀ x, (enc x).length = k) (l : List α) (i : Nat) (x : α) (hi : i < l.length) : flat enc (l.set i x) = (flat enc l).take (i * k) ++ (enc x ++ (flat enc l).drop ((i + 1) * k)) := by
  rw [flat_take hk, flat_drop hk, List.set_eq_take_append_cons_drop, if_pos hi]
  simp [flat]

/-- Cells written one behind the other. -/
def setFrom (xs : List Value) (j : Nat) : List Value → List Value
  | [] => xs
  | v :: vs => setFrom (xs.set j v) (j + 1) vs
def setCells (w : World) (g j : Nat) : List Value → World
  | [] => w
  | v :: vs => setCells (w.setCell ⟨g, j, none⟩ v) g (j + 1) vs

theorem setFrom_eq (vs : List Value) : ∀ (xs : List Value) (j : Nat), j + vs.length ≤ xs.length → setFrom xs j vs = xs.take j ++ (vs ++ xs.drop (j + vs.length)) := by
  induction vs with
  | nil => intro xs j _; simp [setFrom]
  | cons v vs ih =>
    intro xs j hj
    simp only [List.length_cons] at hj
    rw [setFrom, ih _ _ (by rw [List.length_set]; omega), List.take_set, List.drop_set_of_lt (by omega), List.set_eq_take_append_cons_drop, if_pos (by rw [List.length_take]; omega), List.take_take, Nat.min_eq_left (by omega), List.drop_take, show j + 1 - (j + 1) = 0 by omega]
    simp only [List.take_zero, List.length_cons, List.append_assoc, List.cons_append, List.nil_append]
    rw [show j + 1 + vs.length = j + (vs.length + 1) by omega]

theorem ownsRow_setCells {t : TypeId} {k g n c B : Nat} (vs : List Value) : ∀ (w : World) (xs : List Value) (j : Nat), w.ownsRow B t k (.slice (some ⟨g, 0, none⟩) n c) n xs → (setCells w g j vs).ownsRow B t k (.slice (some ⟨g, 0, none⟩) n c) n (setFrom xs j vs) := by
  induction vs with
  | nil => intro w xs j h; exact h
  | cons v vs ih =>
    intro w xs j h
    refine ih _ _ _ ?_
    rcases h.2 with ⟨e, _⟩ | ⟨g', cap, cur, e, hB, hh, h1, h2, h3, h4⟩
    · cases e
    · injection e with e1 _ e3
      simp only [Option.some.injEq, Addr.mk.injEq, and_true] at e1
      subst e1 e3
      refine ⟨by rw [List.length_set]; exact h.1, .inr ⟨g, c, cur.setIfInBounds j v, rfl, hB, ?_, h1, h2, by simpa using h3, ?_⟩⟩
      · simp [World.setCell, Array.getElem?_modify, hh]
      · rw [← h4]
        simp [List.take_set]

section
variable {α : Type} {t : TypeId} {enc : α → List Value} {k : Nat} {w : World} {B g n c : Nat} {l : List α}
/-- A store of one element into a fresh row. -/
theorem ownS_store (hk : ∀ x, (enc x).length = k) (h : OwnS t enc k w B (some ⟨g, 0, none⟩) n c l) {i : Nat} (hi : i < n) (x : α) : OwnS t enc k (setCells w g (i * k) (enc x)) B (some ⟨g, 0, none⟩) n c (l.set i x) := by
  refine ⟨by rw [List.length_set]; exact h.1, ?_⟩
  have h1 := ownsRow_setCells (enc x) w (flat enc l) (i * k) h.2
  have hl := h.1
  have hik : (i + 1) * k ≤ n * k := Nat.mul_le_mul_right k (by omega)
  rw [Nat.succ_mul] at hik
  rw [setFrom_eq _ _ _ (by rw [hk, flat_length hk, hl]; exact hik), hk, ← Nat.succ_mul, ← flat_set hk l i x (by omega)] at h1
  exact h1
theorem OwnS.thaw (h : OwnS t enc k w B (some ⟨g, 0, none⟩) n c l) (o : Nat) : w.frozen? ⟨g, o, none⟩ = false := by
  rcases h.shape with ⟨e, _⟩ | ⟨g', cur, e, _, _, hh, _⟩
  · cases e
  · simp only [Option.some.injEq, Addr.mk.injEq, and_true] at e
    subst e
    simp [World.frozen?, hh]
end
theorem setCells_below {w0 : World} {B g : Nat} (hg : B ≤ g) (vs : List Value) : ∀ (w : World) (j : Nat), Below B w0 w → Below B w0 (setCells w g j vs) := by
  induction vs with
  | nil => intro w j h; exact h
  | cons v vs ih => intro w j h; exact ih _ _ (h.setCell (p := ⟨g, j, none⟩) hg v)
theorem setCells_block {g q : Nat} (hq : q ≠ g) (vs : List Value) : ∀ (w : World) (j : Nat), (setCells w g j vs).heap[q]? = w.heap[q]? := by
  induction vs with
  | nil => intro w j; rfl
  | cons v vs ih => intro w j; exact (ih _ _).trans (Below.heap_setCell w _ v q hq)
theorem setCells_size (g : Nat) (vs : List Value) : ∀ (w : World) (j : Nat), (setCells w g j vs).heap.size = w.heap.size := by
  induction vs with
  | nil => intro w j; rfl
  | cons v vs ih => intro w j; exact (ih _ _).trans (by simp [World.setCell])

/-- The append of elements, as one step of a region that draws its order. -/
theorem step_append_rowS {P : Program} {α : Type} {w : World} {ops : Array Oper} {o : Oper} {a : Act} {K : Act → World → Prop} {Q : Exit → Act → World → Prop} {E : Prop} (hgd : o.guard = none) (s x : Operand) (T : TypeId)
    (ho : o.op = .call { callee := .builtin .append, args := #[s, x], argTypes := #[T, T] }) (t : TypeId) (enc : α → List Value) (k : Nat) (hk : ∀ x, (enc x).length = k) (hk0 : 0 < k) (h1 : ∀ x, ∀ u ∈ enc x, u.oneCell' = true)
    (base : Nat) (i : TypeInfo) (z : Value) (b : Nat) (ht : P.underlying T = some (.slice t)) (hi : P.info? t = some i) (hz : i.zero = some z) (hs : i.size = k) (hzs : z.cells.size = k) (hby : i.bytes = b)
    (A : Option Addr) (n c : Nat) (l : List α) (hes : a.eval s = .slice A n c) (hown : OwnS t enc k w base A n c l) (A' : Option Addr) (n' c' : Nat) (l' : List α) (hex : a.eval x = .slice A' n' c') (hr : RowS enc k w A' n' l')
    (hb : (n + n') * b ≤ 140737488355328) (hm : n + n' ≤ 140737488355328) (hbase : base ≤ w.heap.size)
    (h : ∀ A2 c2 w', OwnS t enc k w' base A2 (n + n') c2 (l ++ l') → w.grownBy w' (blockOf A) → K (a.put o.dst (.slice A2 (n + n') c2)) w') : if Region.wanted o (yielded ops a.tmps) = true then Oper.wp P o a w K Q else E := by
  have hw : Region.wanted o (yielded ops a.tmps) = true := by simp [Region.wanted, hgd]
  rw [if_pos hw]
  obtain ⟨A2, c2, w', hrun, h2, h3⟩ := run_append_rowS (P := P) w t enc k hk hk0 h1 base T o.type i z b ht hi hz hs hzs hby A n c l hown A' n' c' l' hr hb hm hbase
  unfold Oper.wp execOp
  simp only [ho, resolve, invoke, builtin, Sem.run_bind, Sem.run_pure, Result.andThen_ok, List.map_toArray, List.map_cons, List.map_nil, hes, hex, hrun]
  exact h A2 c2 w' h2 h3

end Go.Proofs.Ytlkidnacfljpkaa
