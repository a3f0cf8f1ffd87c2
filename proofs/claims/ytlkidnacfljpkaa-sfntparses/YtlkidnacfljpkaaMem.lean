/- Words for memory of this seat's own proofs: a slice that reads as cells, a fresh slice, frames by blocks. Nothing here speaks of the program but its table of types. -/
import Derived.Test.YtlkidnacfljpkaaChecked
import Derived.WalkKit
import Derived.Below
import Derived.Lib.Hide
import Derived.Deep.Draws
import Derived.KernelRfl
import Derived.WalkSpells
import Derived.OpenShut
import Derived.WalkLawsBesides
namespace Go.Proofs.Ytlkidnacfljpkaa
open Go.RowKit
set_option linter.unusedVariables false

/-- The slice of n cells that begins at A shows the cells xs (of no cells nothing is asked of A). -/
def Row (w : World) (A : Option Addr) (n : Nat) (xs : List Value) : Prop :=
  xs.length = n ∧ (0 < n → ∃ g off, A = some ⟨g, off, none⟩ ∧ g < w.heap.size ∧ ∀ j u, xs[j]? = some u → w.cell? ⟨g, off + j, none⟩ = some u)

/-- In which block a slice begins. -/
def blockOf (A : Option Addr) : Option Nat := A.map (·.block)

section
variable {w w' : World} {A : Option Addr} {n : Nat} {xs : List Value}

theorem Row.empty (w : World) (A : Option Addr) : Row w A 0 [] := ⟨rfl, fun h => absurd h (by omega)⟩

theorem Row.at (h : Row w A n xs) {j : Nat} {u : Value} (hj : xs[j]? = some u) :
    ∃ g off, A = some ⟨g, off, none⟩ ∧ g < w.heap.size ∧ w.cell? ⟨g, off + j, none⟩ = some u := by
  have hl := (List.getElem?_eq_some_iff.1 hj).1
  obtain ⟨g, off, e, hg, hc⟩ := h.2 (by have := h.1; omega)
  exact ⟨g, off, e, hg, hc j u hj⟩

theorem Row.keep (h : Row w A n xs) (hs : w.heap.size ≤ w'.heap.size) (hk : ∀ g, blockOf A = some g → g < w.heap.size → w'.heap[g]? = w.heap[g]?) : Row w' A n xs :=
  ⟨h.1, fun hne => by
    obtain ⟨g, off, rfl, hg, hc⟩ := h.2 hne
    exact ⟨g, off, rfl, by omega, fun j u hu => (World.cell?_of_block (w := w) (hk g rfl hg)).trans (hc j u hu)⟩⟩

theorem Row.below (h : Row w A n xs) (hb : Below w.heap.size w w') : Row w' A n xs := h.keep hb.size fun g _ hg => hb.block g hg

theorem Row.belowAt {B : Nat} (h : Row w A n xs) (hb : Below B w w') (hA : ∀ g, blockOf A = some g → g < B) : Row w' A n xs := h.keep hb.size fun g e _ => hb.block g (hA g e)

theorem Row.grown {row : Option Nat} (h : Row w A n xs) (hb : w.grownBy w' row) (hne : ∀ g, blockOf A = some g → some g ≠ row) : Row w' A n xs :=
  h.keep hb.size fun g e hg => hb.block g hg (hne g e)

/-- What was there is not what is new. -/
theorem Row.ne (h : Row w A n xs) {r : Nat} (hr : w.heap.size ≤ r) : 0 < n → blockOf A ≠ some r := fun hn => by
  obtain ⟨g, off, rfl, hg, _⟩ := h.2 hn
  simp only [blockOf, Option.map_some]
  intro e
  cases e
  omega

theorem Row.ask {r : Nat} (h : Row w A n xs) (hb : w.grownBy w' (some r)) (hne : 0 < n → blockOf A ≠ some r) : Row w' A n xs :=
  ⟨h.1, fun hn => by
    obtain ⟨g, off, rfl, hg, hc⟩ := h.2 hn
    have hk := hb.block g hg (fun e => hne hn (by rw [← e]; rfl))
    exact ⟨g, off, rfl, Nat.lt_of_lt_of_le hg hb.size, fun j u hu => (World.cell?_of_block (w := w) hk).trans (hc j u hu)⟩⟩

theorem Row.take (h : Row w A n xs) {k : Nat} (hk : k ≤ n) : Row w A k (xs.take k) :=
  ⟨by rw [List.length_take, h.1]; omega, fun hne => by
    obtain ⟨g, off, e, hg, hc⟩ := h.2 (by omega)
    exact ⟨g, off, e, hg, fun j u hu => hc j u (by rw [List.getElem?_take] at hu; split at hu; exact hu; cases hu)⟩⟩

theorem Row.drew (h : Row w A n xs) : Row w.drew A n xs := h
theorem Row.drewN (h : Row w A n xs) (q : Nat) : Row (w.drewN q) A n xs := h

/-- 's[k:]', the address moved on. -/
theorem Row.drop (h : Row w A n xs) (k : Nat) : Row w (A.map (·.add k)) (n - k) (xs.drop k) :=
  ⟨by rw [List.length_drop, h.1], fun hne => by
    obtain ⟨g, off, rfl, hg, hc⟩ := h.2 (by omega)
    refine ⟨g, off + k, by simp [Addr.add_lit], hg, fun j u hu => ?_⟩
    rw [Nat.add_assoc]
    exact hc _ u (by rw [← hu, List.getElem?_drop])⟩

theorem blockOf_add (A : Option Addr) (k : Nat) : blockOf (A.map (·.add k)) = blockOf A := by
  cases A with
  | none => rfl
  | some a => simp only [blockOf, Option.map_some]; congr 1; unfold Addr.add; split <;> rfl
end

/-- Numbers as cells. -/
def cellsOf (k : IntKind) (zs : List Int) : List Value := zs.map (Value.int k)

theorem cellsOf_get {k : IntKind} {zs : List Int} {j : Nat} {x : Int} (h : zs[j]? = some x) : (cellsOf k zs)[j]? = some (.int k x) := by simp [cellsOf, h]
theorem cellsOf_take (k : IntKind) (zs : List Int) (n : Nat) : (cellsOf k zs).take n = cellsOf k (zs.take n) := by simp [cellsOf]
theorem cellsOf_drop (k : IntKind) (zs : List Int) (n : Nat) : (cellsOf k zs).drop n = cellsOf k (zs.drop n) := by simp [cellsOf]
theorem cellsOf_length (k : IntKind) (zs : List Int) : (cellsOf k zs).length = zs.length := by simp [cellsOf]
theorem cellsOf_append (k : IntKind) (a b : List Int) : cellsOf k a ++ cellsOf k b = cellsOf k (a ++ b) := by simp [cellsOf]
theorem cellsOf_one (k : IntKind) (zs : List Int) : ∀ u ∈ cellsOf k zs, u.oneCell' = true := ints_oneCell k zs

theorem Row.len {w : World} {A : Option Addr} {n : Nat} {k : IntKind} {zs : List Int} (h : Row w A n (cellsOf k zs)) : zs.length = n := by rw [← cellsOf_length k]; exact h.1

/-- One number in a block of its own (what 'append(out, x)' lays first). -/
theorem row_one (w : World) (k : IntKind) (x : Int) (t : TypeId) : Row (w.alloc (.cells #[.int k x] t)) (some ⟨w.heap.size, 0, none⟩) 1 (cellsOf k [x]) :=
  ⟨rfl, fun _ => ⟨w.heap.size, 0, rfl, by simp, fun j u hu => by
    match j, hu with
    | 0, hu => simp [cellsOf] at hu; subst hu; simp⟩⟩

/-- A slice of numbers in memory that was made from block B on: nil, or at the head of a block of its own (its elements' type: t). -/
def Own (t : TypeId) (k : IntKind) (w : World) (B : Nat) (A : Option Addr) (n c : Nat) (zs : List Int) : Prop := w.ownsRow B t 1 (.slice A n c) n (cellsOf k zs)

section
variable {t : TypeId} {k : IntKind} {w w' : World} {B : Nat} {A : Option Addr} {n c : Nat} {zs : List Int}

theorem Own.len (h : Own t k w B A n c zs) : zs.length = n := by
  have := h.1
  rw [cellsOf_length] at this
  omega

theorem Own.shape (h : Own t k w B A n c zs) :
    (A = none ∧ zs = [] ∧ n = 0 ∧ c = 0) ∨ ∃ g cur, A = some ⟨g, 0, none⟩ ∧ B ≤ g ∧ g < w.heap.size ∧ w.heap[g]? = some (.cells cur t (0, 0)) ∧ n ≤ c ∧ c ≤ maxLen ∧ cur.size = c ∧ cur.toList.take n = cellsOf k zs := by
  have hl := h.len
  rcases h.2 with ⟨e, h0⟩ | ⟨g, cap, cur, e, hB, hh, h1, h2, h3, h4⟩
  · injection e with e1 _ e3
    exact .inl ⟨e1, List.eq_nil_of_length_eq_zero (by omega), h0, e3⟩
  · injection e with e1 _ e3
    subst e1 e3
    exact .inr ⟨g, cur, rfl, hB, lt_of_block hh, hh, h1, h2, by omega, by simpa using h4⟩

theorem Own.nil (t : TypeId) (k : IntKind) (w : World) (B : Nat) : Own t k w B none 0 0 [] := World.ownsRow_nil _ _ _ _

theorem Own.cap (h : Own t k w B A n c zs) : n ≤ c := by
  rcases h.shape with ⟨_, _, rfl, _⟩ | ⟨_, _, _, _, _, _, h1, _⟩
  · simp
  · exact h1

theorem Own.row (h : Own t k w B A n c zs) : Row w A n (cellsOf k zs) := by
  refine ⟨by rw [cellsOf_length]; exact h.len, fun hn => ?_⟩
  rcases h.shape with ⟨_, _, rfl, _⟩ | ⟨g, cur, rfl, _, hg, hh, _, _, _, h4⟩
  · exact absurd hn (by omega)
  · refine ⟨g, 0, rfl, hg, fun j u hu => ?_⟩
    rw [Nat.zero_add, cell_of_row w g j cur t (0, 0) hh]
    rw [← h4, List.getElem?_take] at hu
    split at hu
    · simpa using hu
    · cases hu

theorem Own.from_ (h : Own t k w B A n c zs) : ∀ g, blockOf A = some g → B ≤ g ∧ g < w.heap.size := by
  intro g hg
  rcases h.shape with ⟨rfl, _⟩ | ⟨g', cur, rfl, h1, h2, _⟩
  · simp [blockOf] at hg
  · simp [blockOf] at hg
    subst hg
    exact ⟨h1, h2⟩

theorem Own.keep (h : Own t k w B A n c zs) (hk : ∀ g, blockOf A = some g → w'.heap[g]? = w.heap[g]?) : Own t k w' B A n c zs := by
  refine ⟨h.1, ?_⟩
  rcases h.2 with h2 | ⟨g, cap, cur, e, hB, hh, r⟩
  · exact .inl h2
  · refine .inr ⟨g, cap, cur, e, hB, ?_, r⟩
    injection e with e1
    rw [hk g (by rw [e1]; rfl)]
    exact hh

theorem Own.grown {row : Option Nat} (h : Own t k w B A n c zs) (hb : w.grownBy w' row) (hne : ∀ g, blockOf A = some g → some g ≠ row) : Own t k w' B A n c zs :=
  h.keep fun g e => hb.block g (h.from_ g e).2 (hne g e)

theorem Own.below (h : Own t k w B A n c zs) (hb : Below w.heap.size w w') : Own t k w' B A n c zs := h.keep fun g e => hb.block g (h.from_ g e).2

theorem Own.drewN (h : Own t k w B A n c zs) (q : Nat) : Own t k (w.drewN q) B A n c zs := h

theorem Own.alloc (h : Own t k w B A n c zs) (o : Obj) : Own t k (w.alloc o) B A n c zs := h.below ((Below.refl _ _).alloc (Nat.le_refl _) o)

theorem Own.mono {B' : Nat} (h : Own t k w B A n c zs) (hB : B' ≤ B) : Own t k w B' A n c zs := by
  refine ⟨h.1, ?_⟩
  rcases h.2 with h2 | ⟨g, cap, cur, e, hg, r⟩
  · exact .inl h2
  · exact .inr ⟨g, cap, cur, e, by omega, r⟩

/-- Behind an append onto a fresh slice the value has the shape of a slice again. -/
theorem own_shape {v : Value} (h : w.ownsRow B t 1 v n (cellsOf k zs)) : ∃ A c, v = .slice A n c ∧ Own t k w B A n c zs := by
  rcases h.2 with ⟨e, h0⟩ | ⟨g, cap, cur, e, r⟩
  · subst h0 e
    exact ⟨none, 0, rfl, h⟩
  · subst e
    exact ⟨_, cap, rfl, h⟩
end

/-- What a call that answers fresh numbers and turns nothing old leaves. -/
def RetN (t : TypeId) (k : IntKind) (w : World) (zs : List Int) (e : Ending) (w' : World) : Prop := ∃ A n c, e = .returned (.slice A n c) ∧ Own t k w' w.heap.size A n c zs ∧ Below w.heap.size w w'
abbrev RetB := RetN 5 .u8
abbrev OwnB := Own 5 .u8

/-- What a call that computes, draws and makes memory, and turns nothing old, leaves. -/
def Ret (w : World) (v : Value) (e : Ending) (w' : World) : Prop := e = .returned v ∧ Below w.heap.size w w'

theorem below_of_grown {w w' : World} {row : Option Nat} {B : Nat} (hg : w.grownBy w' row) (hB : B ≤ w.heap.size) (hr : ∀ k, row = some k → B ≤ k) : Below B w w' :=
  (Below.refl _ _).grown hg hB hr

theorem grown_of_below {w w' : World} (h : Below w.heap.size w w') (row : Option Nat) : w.grownBy w' row := ⟨h.os, h.tape, h.output, h.size, fun i hi _ => h.block i hi⟩

theorem grown_trans {a b c : World} {row : Option Nat} (h : a.grownBy b row) (k : b.grownBy c row) : a.grownBy c row :=
  ⟨k.os.trans h.os, k.tape.trans h.tape, k.output.trans h.output, Nat.le_trans h.size k.size, fun i hi hne => (k.block i (Nat.lt_of_lt_of_le hi h.size) hne).trans (h.block i hi hne)⟩

theorem below_drewN {B : Nat} {a w : World} (h : Below B a w) (n : Nat) : Below B a (w.drewN n) := ⟨h.os, h.tape, h.output, h.size, h.block⟩

/-- The run of an append of a slice that is read ('append(out, xs...)') onto a fresh slice of numbers: the source nil or not. -/
theorem run_append_row {P : Program} (w : World) (t : TypeId) (k : IntKind) (base T ty : Nat) (i : TypeInfo) (b : Nat) (ht : P.underlying T = some (.slice t)) (hi : P.info? t = some i) (hz : i.zero = some (.int k 0)) (hs : i.size = 1) (hby : i.bytes = b)
    (A : Option Addr) (n c : Nat) (zs : List Int) (hown : Own t k w base A n c zs) (A' : Option Addr) (n' c' : Nat) (ys : List Int) (hr : Row w A' n' (cellsOf k ys))
    (hb : (n + n') * b ≤ 140737488355328) (hm : n + n' ≤ 140737488355328) (hbase : base ≤ w.heap.size) :
    ∃ A2 c2 w', (Builtin.append_ #[T, T] ty #[.slice A n c, .slice A' n' c']).run P w = .ok (.slice A2 (n + n') c2) w' ∧ Own t k w' base A2 (n + n') c2 (zs ++ ys) ∧ w.grownBy w' (blockOf A) := by
  have hbo : (Value.slice A n c).ownBlock = blockOf A := by
    rcases hown.shape with ⟨rfl, _⟩ | ⟨g, cur, rfl, _⟩ <;> rfl
  have hyl := hr.len
  by_cases hy : n' = 0
  · obtain rfl : ys = [] := List.eq_nil_of_length_eq_zero (by omega)
    subst hy
    refine ⟨A, c, w, ?_, by simpa using hown, World.grownBy.refl w _⟩
    rcases hown.shape with ⟨rfl, rfl, rfl, rfl⟩ | ⟨g, cur, rfl, _, _, _, hle, _⟩
    · cases A' <;> simp [Builtin.append_, run_underlying ht, sizeOf, typeInfo, hi, Builtin.lenOf, Builtin.firstCells, loadCells, loadCellsFrom]
    · cases A' <;> simp [Builtin.append_, run_underlying ht, sizeOf, typeInfo, hi, Builtin.lenOf, Builtin.firstCells, loadCells, loadCellsFrom, hle, storeCells]
  · obtain ⟨g, off, rfl, hg, hc⟩ := hr.2 (by omega)
    obtain ⟨v', w', hrun, h2, h3, _⟩ := run_append_own (P := P) w base T ty t i (.int k 0) 1 b ht hi hz hs hby rfl (by omega) (.slice A n c) n (cellsOf k zs) hown ⟨g, off, none⟩ n' c' (cellsOf k ys) (by rw [cellsOf_length]; omega)
      (fun j u hu => by rw [Addr.add_lit]; exact hc j u hu) (cellsOf_one _ _) (by simp only [maxLen]; omega) hb hbase
    rw [cellsOf_append] at h2
    obtain ⟨A2, c2, rfl, h2'⟩ := own_shape h2
    exact ⟨A2, c2, w', hrun, h2', by rw [← hbo]; exact h3⟩

/-- The same at an operation of the walk. -/
theorem wpList_append_row {P : Program} {w : World} {ops : Array Oper} {rest : List Oper} {o : Oper} {a : Act} {Q : Exit → Act → World → Prop} (hgd : o.guard = none) (s x : Operand) (T : TypeId)
    (ho : o.op = .call { callee := .builtin .append, args := #[s, x], argTypes := #[T, T] }) (t : TypeId) (k : IntKind)
    (base : Nat) (i : TypeInfo) (b : Nat) (ht : P.underlying T = some (.slice t)) (hi : P.info? t = some i) (hz : i.zero = some (.int k 0)) (hs : i.size = 1) (hby : i.bytes = b)
    (A : Option Addr) (n c : Nat) (zs : List Int) (hes : a.eval s = .slice A n c) (hown : Own t k w base A n c zs) (A' : Option Addr) (n' c' : Nat) (ys : List Int) (hex : a.eval x = .slice A' n' c') (hr : Row w A' n' (cellsOf k ys))
    (hb : (n + n') * b ≤ 140737488355328) (hm : n + n' ≤ 140737488355328) (hbase : base ≤ w.heap.size)
    (h : ∀ A2 c2 w', Own t k w' base A2 (n + n') c2 (zs ++ ys) → w.grownBy w' (blockOf A) → wpList P ops Q rest (a.put o.dst (.slice A2 (n + n') c2)) w') : wpList P ops Q (o :: rest) a w := by
  refine wpList_plain hgd fun _ hK => ?_
  obtain ⟨A2, c2, w', hrun, h2, h3⟩ := run_append_row (P := P) w t k base T o.type i b ht hi hz hs hby A n c zs hown A' n' c' ys hr hb hm hbase
  unfold Oper.wp execOp
  simp only [ho, resolve, invoke, builtin, Sem.run_bind, Sem.run_pure, Result.andThen_ok, List.map_toArray, List.map_cons, List.map_nil, hes, hex, hrun]
  exact hK _ _ (h A2 c2 w' h2 h3)

theorem Try.u8info : (Try.prog.info? 5).map (fun i => (i.zero, i.size, i.bytes)) = some (some (.int .u8 0), 1, 1) := by kernel_rfl

/-- From what the frame of a law's proof says of a slice of numbers that came in. -/
theorem row_of {k : IntKind} {w : World} {a : Option Addr} {len cap : Nat} {zs : List Int}
    (h : (a = none ∧ len = 0 ∧ cap = 0 ∧ zs = []) ∨ ∃ x, a = some x ∧ len ≤ cap ∧ cap ≤ maxLen ∧ zs.length = cap ∧ (∀ i, i < zs.length → w.cell? (x.add i) = some (.int k (zs.getD i 0))) ∧ ∀ n ∈ zs, (Lit.int k n).wf = true) :
    Row w a len (cellsOf k (zs.take len)) ∧ len ≤ 9223372036854775807 ∧ ∀ n ∈ zs.take len, (Lit.int k n).wf = true := by
  rcases h with ⟨rfl, rfl, rfl, rfl⟩ | ⟨x, rfl, hl, hm, hz, hc, hw⟩
  · exact ⟨Row.empty _ _, by omega, fun n hn => by cases hn⟩
  · simp only [maxLen] at hm
    refine ⟨⟨by rw [cellsOf_length, List.length_take]; omega, fun hn => ?_⟩, by omega, fun n hn => hw n (List.mem_of_mem_take hn)⟩
    obtain ⟨b, off, rfl, hc'⟩ := ints_at hc (by omega)
    have h0 := hc' 0 (by omega)
    refine ⟨b, off, rfl, ?_, fun j u hu => ?_⟩
    · rcases Nat.lt_or_ge b w.heap.size with hlt | hge
      · exact hlt
      · simp [World.cell?, Array.getElem?_eq_none hge] at h0
    · simp only [cellsOf, List.getElem?_map, List.getElem?_take] at hu
      split at hu
      · rw [hc' j (by omega)]
        rw [List.getElem?_eq_getElem (by omega)] at hu
        rw [List.getD_eq_getElem?_getD, List.getElem?_eq_getElem (by omega)]
        simpa using hu
      · simp at hu

/-- All are bytes. -/
def Bytes (zs : List Int) : Prop := ∀ x ∈ zs, 0 ≤ x ∧ x ≤ 255

theorem bytes_of {zs : List Int} (h : ∀ n ∈ zs, (Lit.int .u8 n).wf = true) : Bytes zs := fun x hx => bounds_u8 (h x hx)

theorem eql_nil_bs (w : World) (a : Option Addr) (n c : Nat) : (binOp .eql 27 (.slice a n c) (.slice none 0 0)).run Try.prog w = .ok (.bool a.isNone) w := Lib.run_eql_slice_nil w 27 5 a n c 0 0 Try.underlying27
theorem neq_nil_bs (w : World) (a : Option Addr) (n c : Nat) : (binOp .neq 27 (.slice a n c) (.slice none 0 0)).run Try.prog w = .ok (.bool (!a.isNone)) w := run_neq_slice_nil_any w 27 5 a n c 0 0 Try.underlying27
attribute [go_sem] eql_nil_bs neq_nil_bs

theorem get_some {zs : List Int} {k : Nat} (h : k < zs.length) : ∃ x, zs[k]? = some x := ⟨zs[k], List.getElem?_eq_getElem h⟩

end Go.Proofs.Ytlkidnacfljpkaa
