/- What the laws of this seat lean on: Mem Ref Ref2 Word Word2 Word3 RdBox Law01 Writer Writes Win. -/
import Derived.Test.YtgafjieghckimaaChecked
import Derived.WalkKit
import Derived.Below
import Derived.Lib.Hide
import Derived.Deep.Draws
import Derived.KernelRfl
import Derived.WalkSpells
import Derived.OpenShut
import Derived.WalkLawsBesides
import Derived.BigQuiet

/- Words for memory of this seat's own proofs: a slice that reads as cells, a fresh slice, frames by blocks. Nothing here speaks of the program but its table of types. -/
namespace Go.Proofs.Ytgafjieghckimaa
open Go.RowKit
set_option linter.unusedVariables false

/-- The slice of n cells that begins at A shows the cells xs (of no cells nothing is asked of A). -/
def Row (w : World) (A : Option Addr) (n : Nat) (xs : List Value) : Prop :=
  xs.length = n ∧ (0 < n → ∃ g off, A = some ⟨g, off, none⟩ ∧ g < w.heap.size ∧ ∀ j u, xs[j]? = some u → w.cell? ⟨g, off + j, none⟩ = some u)

/-- In which block a slice begins. -/
def blockOf (A : Option Addr) : Option Nat := A.map (·.block)

section
variable {w w' : World} {A : Option Addr} {n : Nat} {xs : List Value}

theorem Row.empty (w : World) (A : Option Addr) : Row w A 0 [] := ⟨rfl, fun h => absurd h (by omega)⟩

theorem Row.at (h : Row w A n xs) {j : Nat} {u : Value} (hj : xs[j]? = some u) :
    ∃ g off, A = some ⟨g, off, none⟩ ∧ g < w.heap.size ∧ w.cell? ⟨g, off + j, none⟩ = some u := by
  have hl := (List.getElem?_eq_some_iff.1 hj).1
  obtain ⟨g, off, e, hg, hc⟩ := h.2 (by have := h.1; omega)
  exact ⟨g, off, e, hg, hc j u hj⟩

theorem Row.keep (h : Row w A n xs) (hs : w.heap.size ≤ w'.heap.size) (hk : ∀ g, blockOf A = some g → g < w.heap.size → w'.heap[g]? = w.heap[g]?) : Row w' A n xs :=
  ⟨h.1, fun hne => by
    obtain ⟨g, off, rfl, hg, hc⟩ := h.2 hne
    exact ⟨g, off, rfl, by omega, fun j u hu => (World.cell?_of_block (w := w) (hk g rfl hg)).trans (hc j u hu)⟩⟩

theorem Row.below (h : Row w A n xs) (hb : Below w.heap.size w w') : Row w' A n xs := h.keep hb.size fun g _ hg => hb.block g hg

theorem Row.belowAt {B : Nat} (h : Row w A n xs) (hb : Below B w w') (hA : ∀ g, blockOf A = some g → g < B) : Row w' A n xs := h.keep hb.size fun g e _ => hb.block g (hA g e)

theorem Row.grown {row : Option Nat} (h : Row w A n xs) (hb : w.grownBy w' row) (hne : ∀ g, blockOf A = some g → some g ≠ row) : Row w' A n xs :=
  h.keep hb.size fun g e hg => hb.block g hg (hne g e)

/-- What was there is not what is new. -/
theorem Row.ne (h : Row w A n xs) {r : Nat} (hr : w.heap.size ≤ r) : 0 < n → blockOf A ≠ some r := fun hn => by
  obtain ⟨g, off, rfl, hg, _⟩ := h.2 hn
  simp only [blockOf, Option.map_some]
  intro e
  cases e
  omega

theorem Row.ask {r : Nat} (h : Row w A n xs) (hb : w.grownBy w' (some r)) (hne : 0 < n → blockOf A ≠ some r) : Row w' A n xs :=
  ⟨h.1, fun hn => by
    obtain ⟨g, off, rfl, hg, hc⟩ := h.2 hn
    have hk := hb.block g hg (fun e => hne hn (by rw [← e]; rfl))
    exact ⟨g, off, rfl, Nat.lt_of_lt_of_le hg hb.size, fun j u hu => (World.cell?_of_block (w := w) hk).trans (hc j u hu)⟩⟩

theorem Row.take (h : Row w A n xs) {k : Nat} (hk : k ≤ n) : Row w A k (xs.take k) :=
  ⟨by rw [List.length_take, h.1]; omega, fun hne => by
    obtain ⟨g, off, e, hg, hc⟩ := h.2 (by omega)
    exact ⟨g, off, e, hg, fun j u hu => hc j u (by rw [List.getElem?_take] at hu; split at hu; exact hu; cases hu)⟩⟩

theorem Row.drew (h : Row w A n xs) : Row w.drew A n xs := h
theorem Row.drewN (h : Row w A n xs) (q : Nat) : Row (w.drewN q) A n xs := h

/-- 's[k:]', the address moved on. -/
theorem Row.drop (h : Row w A n xs) (k : Nat) : Row w (A.map (·.add k)) (n - k) (xs.drop k) :=
  ⟨by rw [List.length_drop, h.1], fun hne => by
    obtain ⟨g, off, rfl, hg, hc⟩ := h.2 (by omega)
    refine ⟨g, off + k, by simp [Addr.add_lit], hg, fun j u hu => ?_⟩
    rw [Nat.add_assoc]
    exact hc _ u (by rw [← hu, List.getElem?_drop])⟩

theorem blockOf_add (A : Option Addr) (k : Nat) : blockOf (A.map (·.add k)) = blockOf A := by
  cases A with
  | none => rfl
  | some a => simp only [blockOf, Option.map_some]; congr 1; unfold Addr.add; split <;> rfl
end

/-- Numbers as cells. -/
def cellsOf (k : IntKind) (zs : List Int) : List Value := zs.map (Value.int k)

theorem cellsOf_get {k : IntKind} {zs : List Int} {j : Nat} {x : Int} (h : zs[j]? = some x) : (cellsOf k zs)[j]? = some (.int k x) := by simp [cellsOf, h]
theorem cellsOf_take (k : IntKind) (zs : List Int) (n : Nat) : (cellsOf k zs).take n = cellsOf k (zs.take n) := by simp [cellsOf]
theorem cellsOf_drop (k : IntKind) (zs : List Int) (n : Nat) : (cellsOf k zs).drop n = cellsOf k (zs.drop n) := by simp [cellsOf]
theorem cellsOf_length (k : IntKind) (zs : List Int) : (cellsOf k zs).length = zs.length := by simp [cellsOf]
theorem cellsOf_append (k : IntKind) (a b : List Int) : cellsOf k a ++ cellsOf k b = cellsOf k (a ++ b) := by simp [cellsOf]
theorem cellsOf_one (k : IntKind) (zs : List Int) : ∀ u ∈ cellsOf k zs, u.oneCell' = true := ints_oneCell k zs

theorem Row.len {w : World} {A : Option Addr} {n : Nat} {k : IntKind} {zs : List Int} (h : Row w A n (cellsOf k zs)) : zs.length = n := by rw [← cellsOf_length k]; exact h.1

/-- One number in a block of its own (what 'append(out, x)' lays first). -/
theorem row_one (w : World) (k : IntKind) (x : Int) (t : TypeId) : Row (w.alloc (.cells #[.int k x] t)) (some ⟨w.heap.size, 0, none⟩) 1 (cellsOf k [x]) :=
  ⟨rfl, fun _ => ⟨w.heap.size, 0, rfl, by simp, fun j u hu => by
    match j, hu with
    | 0, hu => simp [cellsOf] at hu; subst hu; simp⟩⟩

/-- A slice of numbers in memory that was made from block B on: nil, or at the head of a block of its own (its elements' type: t). -/
def Own (t : TypeId) (k : IntKind) (w : World) (B : Nat) (A : Option Addr) (n c : Nat) (zs : List Int) : Prop := w.ownsRow B t 1 (.slice A n c) n (cellsOf k zs)

section
variable {t : TypeId} {k : IntKind} {w w' : World} {B : Nat} {A : Option Addr} {n c : Nat} {zs : List Int}

theorem Own.len (h : Own t k w B A n c zs) : zs.length = n := by
  have := h.1
  rw [cellsOf_length] at this
  omega

theorem Own.shape (h : Own t k w B A n c zs) :
    (A = none ∧ zs = [] ∧ n = 0 ∧ c = 0) ∨ ∃ g cur, A = some ⟨g, 0, none⟩ ∧ B ≤ g ∧ g < w.heap.size ∧ w.heap[g]? = some (.cells cur t (0, 0)) ∧ n ≤ c ∧ c ≤ maxLen ∧ cur.size = c ∧ cur.toList.take n = cellsOf k zs := by
  have hl := h.len
  rcases h.2 with ⟨e, h0⟩ | ⟨g, cap, cur, e, hB, hh, h1, h2, h3, h4⟩
  · injection e with e1 _ e3
    exact .inl ⟨e1, List.eq_nil_of_length_eq_zero (by omega), h0, e3⟩
  · injection e with e1 _ e3
    subst e1 e3
    exact .inr ⟨g, cur, rfl, hB, lt_of_block hh, hh, h1, h2, by omega, by simpa using h4⟩

theorem Own.nil (t : TypeId) (k : IntKind) (w : World) (B : Nat) : Own t k w B none 0 0 [] := World.ownsRow_nil _ _ _ _

theorem Own.cap (h : Own t k w B A n c zs) : n ≤ c := by
  rcases h.shape with ⟨_, _, rfl, _⟩ | ⟨_, _, _, _, _, _, h1, _⟩
  · simp
  · exact h1

theorem Own.row (h : Own t k w B A n c zs) : Row w A n (cellsOf k zs) := by
  refine ⟨by rw [cellsOf_length]; exact h.len, fun hn => ?_⟩
  rcases h.shape with ⟨_, _, rfl, _⟩ | ⟨g, cur, rfl, _, hg, hh, _, _, _, h4⟩
  · exact absurd hn (by omega)
  · refine ⟨g, 0, rfl, hg, fun j u hu => ?_⟩
    rw [Nat.zero_add, cell_of_row w g j cur t (0, 0) hh]
    rw [← h4, List.getElem?_take] at hu
    split at hu
    · simpa using hu
    · cases hu

theorem Own.from_ (h : Own t k w B A n c zs) : ∀ g, blockOf A = some g → B ≤ g ∧ g < w.heap.size := by
  intro g hg
  rcases h.shape with ⟨rfl, _⟩ | ⟨g', cur, rfl, h1, h2, _⟩
  · simp [blockOf] at hg
  · simp [blockOf] at hg
    subst hg
    exact ⟨h1, h2⟩

theorem Own.keep (h : Own t k w B A n c zs) (hk : ∀ g, blockOf A = some g → w'.heap[g]? = w.heap[g]?) : Own t k w' B A n c zs := by
  refine ⟨h.1, ?_⟩
  rcases h.2 with h2 | ⟨g, cap, cur, e, hB, hh, r⟩
  · exact .inl h2
  · refine .inr ⟨g, cap, cur, e, hB, ?_, r⟩
    injection e with e1
    rw [hk g (by rw [e1]; rfl)]
    exact hh

theorem Own.grown {row : Option Nat} (h : Own t k w B A n c zs) (hb : w.grownBy w' row) (hne : ∀ g, blockOf A = some g → some g ≠ row) : Own t k w' B A n c zs :=
  h.keep fun g e => hb.block g (h.from_ g e).2 (hne g e)

theorem Own.below (h : Own t k w B A n c zs) (hb : Below w.heap.size w w') : Own t k w' B A n c zs := h.keep fun g e => hb.block g (h.from_ g e).2

theorem Own.drewN (h : Own t k w B A n c zs) (q : Nat) : Own t k (w.drewN q) B A n c zs := h

theorem Own.alloc (h : Own t k w B A n c zs) (o : Obj) : Own t k (w.alloc o) B A n c zs := h.below ((Below.refl _ _).alloc (Nat.le_refl _) o)

theorem Own.mono {B' : Nat} (h : Own t k w B A n c zs) (hB : B' ≤ B) : Own t k w B' A n c zs := by
  refine ⟨h.1, ?_⟩
  rcases h.2 with h2 | ⟨g, cap, cur, e, hg, r⟩
  · exact .inl h2
  · exact .inr ⟨g, cap, cur, e, by omega, r⟩

/-- Behind an append onto a fresh slice the value has the shape of a slice again. -/
theorem own_shape {v : Value} (h : w.ownsRow B t 1 v n (cellsOf k zs)) : ∃ A c, v = .slice A n c ∧ Own t k w B A n c zs := by
  rcases h.2 with ⟨e, h0⟩ | ⟨g, cap, cur, e, r⟩
  · subst h0 e
    exact ⟨none, 0, rfl, h⟩
  · subst e
    exact ⟨_, cap, rfl, h⟩
end

/-- What a call that answers fresh numbers and turns nothing old leaves. -/
def RetN (t : TypeId) (k : IntKind) (w : World) (zs : List Int) (e : Ending) (w' : World) : Prop := ∃ A n c, e = .returned (.slice A n c) ∧ Own t k w' w.heap.size A n c zs ∧ Below w.heap.size w w'
abbrev RetB := RetN 5 .u8
abbrev OwnB := Own 5 .u8

/-- What a call that computes, draws and makes memory, and turns nothing old, leaves. -/
def Ret (w : World) (v : Value) (e : Ending) (w' : World) : Prop := e = .returned v ∧ Below w.heap.size w w'

theorem below_of_grown {w w' : World} {row : Option Nat} {B : Nat} (hg : w.grownBy w' row) (hB : B ≤ w.heap.size) (hr : ∀ k, row = some k → B ≤ k) : Below B w w' :=
  (Below.refl _ _).grown hg hB hr

theorem grown_of_below {w w' : World} (h : Below w.heap.size w w') (row : Option Nat) : w.grownBy w' row := ⟨h.os, h.tape, h.output, h.size, fun i hi _ => h.block i hi⟩

theorem grown_trans {a b c : World} {row : Option Nat} (h : a.grownBy b row) (k : b.grownBy c row) : a.grownBy c row :=
  ⟨k.os.trans h.os, k.tape.trans h.tape, k.output.trans h.output, Nat.le_trans h.size k.size, fun i hi hne => (k.block i (Nat.lt_of_lt_of_le hi h.size) hne).trans (h.block i hi hne)⟩

theorem below_drewN {B : Nat} {a w : World} (h : Below B a w) (n : Nat) : Below B a (w.drewN n) := ⟨h.os, h.tape, h.output, h.size, h.block⟩

/-- The run of an append of a slice that is read ('append(out, xs...)') onto a fresh slice of numbers: the source nil or not. -/
theorem run_append_row {P : Program} (w : World) (t : TypeId) (k : IntKind) (base T ty : Nat) (i : TypeInfo) (b : Nat) (ht : P.underlying T = some (.slice t)) (hi : P.info? t = some i) (hz : i.zero = some (.int k 0)) (hs : i.size = 1) (hby : i.bytes = b)
    (A : Option Addr) (n c : Nat) (zs : List Int) (hown : Own t k w base A n c zs) (A' : Option Addr) (n' c' : Nat) (ys : List Int) (hr : Row w A' n' (cellsOf k ys))
    (hb : (n + n') * b ≤ 140737488355328) (hm : n + n' ≤ 140737488355328) (hbase : base ≤ w.heap.size) :
    ∃ A2 c2 w', (Builtin.append_ #[T, T] ty #[.slice A n c, .slice A' n' c']).run P w = .ok (.slice A2 (n + n') c2) w' ∧ Own t k w' base A2 (n + n') c2 (zs ++ ys) ∧ w.grownBy w' (blockOf A) := by
  have hbo : (Value.slice A n c).ownBlock = blockOf A := by
    rcases hown.shape with ⟨rfl, _⟩ | ⟨g, cur, rfl, _⟩ <;> rfl
  have hyl := hr.len
  by_cases hy : n' = 0
  · obtain rfl : ys = [] := List.eq_nil_of_length_eq_zero (by omega)
    subst hy
    refine ⟨A, c, w, ?_, by simpa using hown, World.grownBy.refl w _⟩
    rcases hown.shape with ⟨rfl, rfl, rfl, rfl⟩ | ⟨g, cur, rfl, _, _, _, hle, _⟩
    · cases A' <;> simp [Builtin.append_, run_underlying ht, sizeOf, typeInfo, hi, Builtin.lenOf, Builtin.firstCells, loadCells, loadCellsFrom]
    · cases A' <;> simp [Builtin.append_, run_underlying ht, sizeOf, typeInfo, hi, Builtin.lenOf, Builtin.firstCells, loadCells, loadCellsFrom, hle, storeCells]
  · obtain ⟨g, off, rfl, hg, hc⟩ := hr.2 (by omega)
    obtain ⟨v', w', hrun, h2, h3, _⟩ := run_append_own (P := P) w base T ty t i (.int k 0) 1 b ht hi hz hs hby rfl (by omega) (.slice A n c) n (cellsOf k zs) hown ⟨g, off, none⟩ n' c' (cellsOf k ys) (by rw [cellsOf_length]; omega)
      (fun j u hu => by rw [Addr.add_lit]; exact hc j u hu) (cellsOf_one _ _) (by simp only [maxLen]; omega) hb hbase
    rw [cellsOf_append] at h2
    obtain ⟨A2, c2, rfl, h2'⟩ := own_shape h2
    exact ⟨A2, c2, w', hrun, h2', by rw [← hbo]; exact h3⟩

/-- The same at an operation of the walk. -/
theorem wpList_append_row {P : Program} {w : World} {ops : Array Oper} {rest : List Oper} {o : Oper} {a : Act} {Q : Exit → Act → World → Prop} (hgd : o.guard = none) (s x : Operand) (T : TypeId)
    (ho : o.op = .call { callee := .builtin .append, args := #[s, x], argTypes := #[T, T] }) (t : TypeId) (k : IntKind)
    (base : Nat) (i : TypeInfo) (b : Nat) (ht : P.underlying T = some (.slice t)) (hi : P.info? t = some i) (hz : i.zero = some (.int k 0)) (hs : i.size = 1) (hby : i.bytes = b)
    (A : Option Addr) (n c : Nat) (zs : List Int) (hes : a.eval s = .slice A n c) (hown : Own t k w base A n c zs) (A' : Option Addr) (n' c' : Nat) (ys : List Int) (hex : a.eval x = .slice A' n' c') (hr : Row w A' n' (cellsOf k ys))
    (hb : (n + n') * b ≤ 140737488355328) (hm : n + n' ≤ 140737488355328) (hbase : base ≤ w.heap.size)
    (h : ∀ A2 c2 w', Own t k w' base A2 (n + n') c2 (zs ++ ys) → w.grownBy w' (blockOf A) → wpList P ops Q rest (a.put o.dst (.slice A2 (n + n') c2)) w') : wpList P ops Q (o :: rest) a w := by
  refine wpList_plain hgd fun _ hK => ?_
  obtain ⟨A2, c2, w', hrun, h2, h3⟩ := run_append_row (P := P) w t k base T o.type i b ht hi hz hs hby A n c zs hown A' n' c' ys hr hb hm hbase
  unfold Oper.wp execOp
  simp only [ho, resolve, invoke, builtin, Sem.run_bind, Sem.run_pure, Result.andThen_ok, List.map_toArray, List.map_cons, List.map_nil, hes, hex, hrun]
  exact hK _ _ (h A2 c2 w' h2 h3)

theorem Try.u8info : (Try.prog.info? 5).map (fun i => (i.zero, i.size, i.bytes)) = some (some (.int .u8 0), 1, 1) := by kernel_rfl

/-- From what the frame of a law's proof says of a slice of numbers that came in. -/
theorem row_of {k : IntKind} {w : World} {a : Option Addr} {len cap : Nat} {zs : List Int}
    (h : (a = none ∧ len = 0 ∧ cap = 0 ∧ zs = []) ∨ ∃ x, a = some x ∧ len ≤ cap ∧ cap ≤ maxLen ∧ zs.length = cap ∧ (∀ i, i < zs.length → w.cell? (x.add i) = some (.int k (zs.getD i 0))) ∧ ∀ n ∈ zs, (Lit.int k n).wf = true) :
    Row w a len (cellsOf k (zs.take len)) ∧ len ≤ 9223372036854775807 ∧ ∀ n ∈ zs.take len, (Lit.int k n).wf = true := by
  rcases h with ⟨rfl, rfl, rfl, rfl⟩ | ⟨x, rfl, hl, hm, hz, hc, hw⟩
  · exact ⟨Row.empty _ _, by omega, fun n hn => by cases hn⟩
  · simp only [maxLen] at hm
    refine ⟨⟨by rw [cellsOf_length, List.length_take]; omega, fun hn => ?_⟩, by omega, fun n hn => hw n (List.mem_of_mem_take hn)⟩
    obtain ⟨b, off, rfl, hc'⟩ := ints_at hc (by omega)
    have h0 := hc' 0 (by omega)
    refine ⟨b, off, rfl, ?_, fun j u hu => ?_⟩
    · rcases Nat.lt_or_ge b w.heap.size with hlt | hge
      · exact hlt
      · simp [World.cell?, Array.getElem?_eq_none hge] at h0
    · simp only [cellsOf, List.getElem?_map, List.getElem?_take] at hu
      split at hu
      · rw [hc' j (by omega)]
        rw [List.getElem?_eq_getElem (by omega)] at hu
        rw [List.getD_eq_getElem?_getD, List.getElem?_eq_getElem (by omega)]
        simpa using hu
      · simp at hu

/-- All are bytes. -/
def Bytes (zs : List Int) : Prop := ∀ x ∈ zs, 0 ≤ x ∧ x ≤ 255

theorem bytes_of {zs : List Int} (h : ∀ n ∈ zs, (Lit.int .u8 n).wf = true) : Bytes zs := fun x hx => bounds_u8 (h x hx)

theorem eql_nil_bs (w : World) (a : Option Addr) (n c : Nat) : (binOp .eql 32 (.slice a n c) (.slice none 0 0)).run Try.prog w = .ok (.bool a.isNone) w := Lib.run_eql_slice_nil w 32 5 a n c 0 0 Try.underlying32
theorem neq_nil_bs (w : World) (a : Option Addr) (n c : Nat) : (binOp .neq 32 (.slice a n c) (.slice none 0 0)).run Try.prog w = .ok (.bool (!a.isNone)) w := run_neq_slice_nil_any w 32 5 a n c 0 0 Try.underlying32
attribute [go_sem] eql_nil_bs neq_nil_bs

theorem get_some {zs : List Int} {k : Nat} (h : k < zs.length) : ∃ x, zs[k]? = some x := ⟨zs[k], List.getElem?_eq_getElem h⟩

end Go.Proofs.Ytgafjieghckimaa

/- What the document's own small functions on bytes answer (Cut, Part, Same, Join, B2, B4, S2, N2, N4, Sign), as contracts over this seat's translation. -/
namespace Go.Proofs.Ytgafjieghckimaa
open Go.RowKit
set_option linter.unusedVariables false

theorem take_take_snoc (zs : List Int) (k m : Nat) (x : Int) (hx : zs[k]? = some x) (hm : k < m) : ((zs.take k).take m) ++ [x] = ((zs.take (k + 1)).take m) := by
  have hk : k < zs.length := (List.getElem?_eq_some_iff.1 hx).1
  rw [List.take_take, List.take_take, Nat.min_eq_right (by omega), Nat.min_eq_right (by omega), List.take_add_one, hx]
  rfl

theorem take_take_same (zs : List Int) (k m : Nat) (hm : m ≤ k) : ((zs.take k).take m) = ((zs.take (k + 1)).take m) := by
  rw [List.take_take, List.take_take, Nat.min_eq_left (by omega), Nat.min_eq_left (by omega)]

set_option maxHeartbeats 400000 in
theorem cut_any (A : Option Addr) (n c : Nat) (zs : List Int) (m : Int) (w : World) (hr : Row w A n (cellsOf .u8 zs)) (hl : n ≤ 9223372036854775807) (hm : m ≤ 140737488355327) :
    Calls Try.prog 21 #[.slice A n c, .int .i64 m] w (RetB w (zs.take m.toNat)) := by
  obtain ⟨i0, hi, hz0, hz1, hz2⟩ := info_parts Try.u8info
  have Hn := Lib.hid hr.len
  go_enter Try.func21, Try.ntmps21
  go_wp2
  go_loopw [5, 10] (fun v i wr => ∃ (k : Nat) (A2 : Option Addr) (n2 c2 : Nat), k ≤ n ∧ n2 ≤ k ∧ i = .int .i64 k ∧ v = .slice A2 n2 c2 ∧ OwnB wr w.heap.size A2 n2 c2 ((zs.take k).take m.toNat) ∧ Below w.heap.size w wr) (fun _ i _ => n - (intOf i).toNat)
  case atStart => exact ⟨0, none, 0, 0, Nat.zero_le _, Nat.le_refl _, rfl, rfl, by simpa using Own.nil _ _ _ _, Below.refl _ _⟩
  case round =>
    obtain ⟨k, A2, n2, c2, hk, hn2, rfl, rfl, hown, hbel⟩ := hrel
    by_cases hlt : k < n
    · obtain ⟨x, hx⟩ := get_some (zs := zs) (k := k) (by have := Hn.out; omega)
      obtain ⟨g, off, rfl, hg, hc⟩ := (hr.below hbel).at (cellsOf_get (k := .u8) hx)
      have Hx := Lib.hid hx
      clear hx
      by_cases hkm : (k : Int) < m
      · have hsz : w.heap.size ≤ wr.heap.size := hbel.size
        go_wp2_with (at_builtin; refine wpList_append_row rfl (.tmp 18) (.tmp 20) _ rfl 5 .u8 w.heap.size i0 1 Try.underlying32 hi hz0 hz1 hz2 A2 n2 c2 _ rfl (hown.alloc _) (some ⟨wr.heap.size, 0, none⟩) 1 1 [x] rfl (row_one _ _ _ _) (by omega) (by omega) (by simp; omega) ?_)
        intro A3 c3 w1 hown1 hg1
        rw [take_take_snoc zs k m.toNat x Hx.out (by omega)] at hown1
        have hbel1 : Below w.heap.size w w1 := (hbel.alloc hsz _).grown hg1 (by simp; omega) (fun q e => (hown.from_ q e).1)
        clear hg1 hown hbel hc
        go_wp2
        go_roundw
        case rel => exact ⟨k + 1, A3, n2 + 1, c3, by omega, by omega, by go_num, rfl, hown1, hbel1⟩
        case measure => simp [intOf]; omega
      · rw [take_take_same zs k m.toNat (by omega)] at hown
        go_wp2
        go_roundw
        case rel => exact ⟨k + 1, A2, n2, c2, by omega, by omega, by go_num, rfl, hown, hbel⟩
        case measure => simp [intOf]; omega
    · rw [show zs.take k = zs from List.take_of_length_le (by have := Hn.out; omega)] at hown
      go_wp2
      go_ret
      exact ⟨A2, n2, c2, rfl, hown, hbel⟩

/-- The numbers from a place to another one, as many as there are. -/
def part (zs : List Int) (a b : Nat) : List Int := (zs.take b).drop a

theorem part_snoc (zs : List Int) (a b k : Nat) (x : Int) (hx : zs[k]? = some x) (ha : a ≤ k) (hb : k < b) : part (zs.take k) a b ++ [x] = part (zs.take (k + 1)) a b := by
  have hk : k < zs.length := (List.getElem?_eq_some_iff.1 hx).1
  unfold part
  rw [← take_take_snoc zs k b x hx hb, List.drop_append_of_le_length (by simp; omega)]

theorem part_same_hi (zs : List Int) (a b k : Nat) (hb : b ≤ k) : part (zs.take k) a b = part (zs.take (k + 1)) a b := by
  unfold part
  rw [take_take_same zs k b hb]

theorem part_same_lo (zs : List Int) (a b k : Nat) (ha : k < a) : part (zs.take k) a b = part (zs.take (k + 1)) a b := by
  unfold part
  rw [List.drop_of_length_le (by simp; omega), List.drop_of_length_le (by simp; omega)]

set_option maxHeartbeats 400000 in
theorem part_any (A : Option Addr) (n c : Nat) (zs : List Int) (a b : Int) (w : World) (hr : Row w A n (cellsOf .u8 zs)) (hl : n ≤ 140737488351232) (ha0 : 0 ≤ a) :
    Calls Try.prog 119 #[.slice A n c, .int .i64 a, .int .i64 b] w (RetB w (part zs a.toNat b.toNat)) := by
  obtain ⟨i0, hi, hz0, hz1, hz2⟩ := info_parts Try.u8info
  have Hn := Lib.hid hr.len
  go_enter Try.func119, Try.ntmps119
  go_wp2
  go_loopw [7, 12] (fun v i wr => ∃ (k : Nat) (A2 : Option Addr) (n2 c2 : Nat), k ≤ n ∧ n2 ≤ k ∧ i = .int .i64 k ∧ v = .slice A2 n2 c2 ∧ OwnB wr w.heap.size A2 n2 c2 (part (zs.take k) a.toNat b.toNat) ∧ Below w.heap.size w wr) (fun _ i _ => n - (intOf i).toNat)
  case atStart => exact ⟨0, none, 0, 0, Nat.zero_le _, Nat.le_refl _, rfl, rfl, by simpa [part] using Own.nil _ _ _ _, Below.refl _ _⟩
  case round =>
    obtain ⟨k, A2, n2, c2, hk, hn2, rfl, rfl, hown, hbel⟩ := hrel
    by_cases hlt : k < n
    · obtain ⟨x, hx⟩ := get_some (zs := zs) (k := k) (by have := Hn.out; omega)
      obtain ⟨g, off, rfl, hg, hc⟩ := (hr.below hbel).at (cellsOf_get (k := .u8) hx)
      have Hx := Lib.hid hx
      clear hx
      by_cases ha : a ≤ (k : Int)
      · by_cases hb : (k : Int) < b
        · have hsz : w.heap.size ≤ wr.heap.size := hbel.size
          go_wp2_with (at_builtin; refine wpList_append_row rfl (.tmp 25) (.tmp 27) _ rfl 5 .u8 w.heap.size i0 1 Try.underlying32 hi hz0 hz1 hz2 A2 n2 c2 _ rfl (hown.alloc _) (some ⟨wr.heap.size, 0, none⟩) 1 1 [x] rfl (row_one _ _ _ _) (by omega) (by omega) (by simp; omega) ?_)
          intro A3 c3 w1 hown1 hg1
          rw [part_snoc zs a.toNat b.toNat k x Hx.out (by omega) (by omega)] at hown1
          have hbel1 : Below w.heap.size w w1 := (hbel.alloc hsz _).grown hg1 (by simp; omega) (fun q e => (hown.from_ q e).1)
          clear hg1 hown hbel hc
          go_wp2
          go_roundw
          case rel => exact ⟨k + 1, A3, n2 + 1, c3, by omega, by omega, by go_num, rfl, hown1, hbel1⟩
          case measure => simp [intOf]; omega
        · rw [part_same_hi zs a.toNat b.toNat k (by omega)] at hown
          go_wp2
          go_roundw
          case rel => exact ⟨k + 1, A2, n2, c2, by omega, by omega, by go_num, rfl, hown, hbel⟩
          case measure => simp [intOf]; omega
      · rw [part_same_lo zs a.toNat b.toNat k (by omega)] at hown
        go_wp2
        go_roundw
        case rel => exact ⟨k + 1, A2, n2, c2, by omega, by omega, by go_num, rfl, hown, hbel⟩
        case measure => simp [intOf]; omega
    · rw [show zs.take k = zs from List.take_of_length_le (by have := Hn.out; omega)] at hown
      go_wp2
      go_ret
      exact ⟨A2, n2, c2, rfl, hown, hbel⟩

/-- Are two lists alike? -/
def sameB (a b : List Int) : Bool := decide (a = b)

theorem sameB_refl (l : List Int) : sameB l l = true := by simp [sameB]

/-- What a call that only reads leaves. -/
def Quiet (w : World) (v : Value) (e : Ending) (w' : World) : Prop := e = .returned v ∧ ∃ q, w' = w.drewN q

set_option maxHeartbeats 400000 in
theorem same_any (A B : Option Addr) (n c m d : Nat) (xs ys : List Int) (w : World) (hx : Row w A n (cellsOf .u8 xs)) (hy : Row w B m (cellsOf .u8 ys)) (hl : n ≤ 140737488355328) (hl' : m ≤ 140737488355328) :
    Calls Try.prog 25 #[.slice A n c, .slice B m d] w (Quiet w (.bool (sameB xs ys))) := by
  have Hx := Lib.hid hx.len
  have Hy := Lib.hid hy.len
  by_cases hnm : n = m
  · subst hnm
    have hne : ((n : Int) != (n : Int)) = false := by simp
    go_enter Try.func25, Try.ntmps25
    go_wp2
    clear hne
    go_loopw [13] (fun i wr => ∃ k q : Nat, k ≤ n ∧ i = .int .i64 k ∧ xs.take k = ys.take k ∧ wr = w.drewN q) (fun i _ => n - (intOf i).toNat)
    case atStart => exact ⟨0, 0, Nat.zero_le _, rfl, by simp, rfl⟩
    case round =>
      obtain ⟨k, q, hk, rfl, hp, rfl⟩ := hrel
      have Hp := Lib.hid hp
      clear hp
      by_cases hlt : k < n
      · obtain ⟨x, ex⟩ := get_some (zs := xs) (k := k) (by have := Hx.out; omega)
        obtain ⟨y, ey⟩ := get_some (zs := ys) (k := k) (by have := Hy.out; omega)
        obtain ⟨g, off, rfl, hg, hc⟩ := hx.at (cellsOf_get (k := .u8) ex)
        obtain ⟨g', off', rfl, hg', hc'⟩ := hy.at (cellsOf_get (k := .u8) ey)
        have Ex := Lib.hid ex
        have Ey := Lib.hid ey
        clear ex ey
        by_cases he : x = y
        · have hb : (x != y) = false := by simp [he]
          have He := Lib.hid he
          clear he
          go_wp2
          go_quiet (fail)
          go_wp2
          go_roundw
          case rel => exact ⟨k + 1, _, by omega, by go_num, by rw [List.take_add_one, List.take_add_one, Ex.out, Ey.out, Hp.out, He.out], by first | rfl | (rw [World.drewN_drewN])⟩
          case measure => simp [intOf]; omega
        · have hb : (x != y) = true := by simp [he]
          have He := Lib.hid he
          clear he
          go_wp2
          go_quiet (fail)
          go_wp2
          go_ret
          refine ⟨?_, _, by first | rfl | (rw [World.drewN_drewN])⟩
          have hf : sameB xs ys = false := by
            unfold sameB
            rw [decide_eq_false_iff_not]
            rintro rfl
            have e1 := Ex.out
            rw [Ey.out] at e1
            exact He.out (Option.some.inj e1).symm
          rw [hf]
          rfl
      · go_wp2
        go_ret
        refine ⟨?_, q, rfl⟩
        have hp := Hp.out
        rw [List.take_of_length_le (by have := Hx.out; omega), List.take_of_length_le (by have := Hy.out; omega)] at hp
        have hf : sameB xs ys = true := by unfold sameB; simp [hp]
        rw [hf]
        rfl
  · have hne : ((n : Int) != (m : Int)) = true := by simp; omega
    go_enter Try.func25, Try.ntmps25
    go_wp2
    go_ret
    refine ⟨?_, 0, rfl⟩
    have hf : sameB xs ys = false := by
      unfold sameB
      rw [decide_eq_false_iff_not]
      rintro rfl
      have := Hx.out
      have := Hy.out
      omega
    rw [hf]
    rfl

end Go.Proofs.Ytgafjieghckimaa

/- What Join, B2, B4, S2, N2, N4 and Sign of the document's own functions answer, as contracts over this seat's translation. -/
namespace Go.Proofs.Ytgafjieghckimaa
open Go.RowKit
set_option linter.unusedVariables false

/-- A slice of bytes as a value, with the numbers that it shows. -/
structure BsV where
  A : Option Addr
  n : Nat
  c : Nat
  ys : List Int
def BsV.val (p : BsV) : Value := .slice p.A p.n p.c
def BsV.ok (w : World) (p : BsV) : Prop := Row w p.A p.n (cellsOf .u8 p.ys)
/-- All numbers, one list behind the other. -/
def joined (l : List BsV) : List Int := l.flatMap BsV.ys

theorem joined_snoc (l : List BsV) (k : Nat) (p : BsV) (h : l[k]? = some p) : joined (l.take k) ++ p.ys = joined (l.take (k + 1)) := by
  unfold joined
  rw [List.take_add_one, h]
  simp

theorem joined_le (l : List BsV) (k : Nat) : (joined (l.take k)).length ≤ (joined l).length := by
  have h : joined l = joined (l.take k) ++ joined (l.drop k) := by
    unfold joined
    rw [← List.flatMap_append, List.take_append_drop]
  rw [h, List.length_append]
  omega

/-- Values written out in a block of their own. -/
theorem row_vals (w : World) (t : TypeId) (l : List Value) (n : Nat) (hn : l.length = n) : Row (w.alloc (.cells l.toArray t)) (some ⟨w.heap.size, 0, none⟩) n l :=
  ⟨hn, fun _ => ⟨w.heap.size, 0, rfl, by simp, fun j u hu => by
    rw [Nat.zero_add, cell_of_row _ _ j _ t (0, 0) (heap_alloc_new w _)]
    simpa using hu⟩⟩

set_option maxHeartbeats 400000 in
theorem join_any (A : Option Addr) (n c : Nat) (l : List BsV) (w : World) (hr : Row w A n (l.map BsV.val)) (hs : ∀ p ∈ l, p.ok w) (hn : n ≤ 140737488351232) (hl : (joined l).length ≤ 140737488351232) :
    Calls Try.prog 24 #[.slice A n c] w (RetB w (joined l)) := by
  obtain ⟨i0, hi, hz0, hz1, hz2⟩ := info_parts Try.u8info
  have Hn : Hid (l.length = n) := by have := hr.1; rw [List.length_map] at this; exact this
  have Hs := Lib.hid hs
  clear hs
  go_enter Try.func24, Try.ntmps24
  go_wp2
  go_loopw [3, 8] (fun v i wr => ∃ (k : Nat) (A2 : Option Addr) (n2 c2 : Nat), k ≤ n ∧ i = .int .i64 k ∧ v = .slice A2 n2 c2 ∧ OwnB wr w.heap.size A2 n2 c2 (joined (l.take k)) ∧ Below w.heap.size w wr) (fun _ i _ => n - (intOf i).toNat)
  case atStart => exact ⟨0, none, 0, 0, Nat.zero_le _, rfl, rfl, by simpa [joined] using Own.nil _ _ _ _, Below.refl _ _⟩
  case round =>
    obtain ⟨k, A2, n2, c2, hk, rfl, rfl, hown, hbel⟩ := hrel
    by_cases hlt : k < n
    · obtain ⟨p, hp⟩ : ∃ p, l[k]? = some p := ⟨l[k]'(by have := Hn.out; omega), List.getElem?_eq_getElem (by have := Hn.out; omega)⟩
      obtain ⟨g, off, rfl, hg, hc⟩ := (hr.below hbel).at (j := k) (u := p.val) (by simp [hp])
      have Hp := Lib.hid hp
      have hok : Row wr p.A p.n (cellsOf .u8 p.ys) := (show Row w p.A p.n (cellsOf .u8 p.ys) from Hs.out p (List.mem_of_getElem? hp)).below hbel
      clear hp
      have hsz : w.heap.size ≤ wr.heap.size := hbel.size
      have hlen : n2 + p.n ≤ 140737488351232 := by
        have h1 := joined_le l (k + 1)
        rw [← joined_snoc l k p Hp.out, List.length_append, hok.len, hown.len] at h1
        omega
      obtain ⟨pA, pn, pc, pys⟩ := p
      simp only [BsV.val] at hc hok hlen
      go_wp2_with (at_builtin; refine wpList_append_row rfl (.tmp 12) (.tmp 13) _ rfl 5 .u8 w.heap.size i0 1 Try.underlying32 hi hz0 hz1 hz2 A2 n2 c2 _ rfl hown pA pn pc pys rfl hok (by omega) (by omega) hsz ?_)
      intro A3 c3 w1 hown1 hg1
      rw [joined_snoc l k ⟨pA, pn, pc, pys⟩ Hp.out] at hown1
      have hbel1 : Below w.heap.size w w1 := hbel.grown hg1 hsz (fun q e => (hown.from_ q e).1)
      clear hg1 hown hbel hc hok
      go_wp2
      go_roundw
      case rel => exact ⟨k + 1, A3, n2 + pn, c3, by omega, by go_num, rfl, hown1, hbel1⟩
      case measure => simp [intOf]; omega
    · rw [show l.take k = l from List.take_of_length_le (by have := Hn.out; omega)] at hown
      go_wp2
      go_ret
      exact ⟨A2, n2, c2, rfl, hown, hbel⟩

/-- Two bytes of a number. -/
def b2 (n : Int) : List Int := [n / 256 % 256, n % 256]

/-- Fresh numbers, written out. -/
theorem own_lit (w : World) (B : Nat) (t : TypeId) (k : IntKind) (zs : List Int) (n : Nat) (hn : zs.length = n) (hB : B ≤ w.heap.size) (hm : n ≤ maxLen) : Own t k (w.alloc (.cells (cellsOf k zs).toArray t)) B (some ⟨w.heap.size, 0, none⟩) n n zs := by
  have := World.ownsRow_lit (base := B) (e := t) (size := 1) w (cellsOf k zs).toArray n hB hm (by simp [cellsOf]; omega)
  simpa [Own] using this

theorem b2_any (n : Int) (w : World) (h0 : 0 ≤ n) (h1 : n < 4294967296) : Calls Try.prog 63 #[.int .i64 n] w (RetB w (b2 n)) := by
  go_enter Try.func63, Try.ntmps63
  go_wp2
  go_ret
  exact ⟨some ⟨w.heap.size, 0, none⟩, 2, 2, rfl, own_lit w _ _ _ (b2 n) 2 rfl (Nat.le_refl _) (by simp only [maxLen]; omega), (Below.refl _ _).alloc (Nat.le_refl _) _⟩

theorem s2_any (n : Int) (w : World) (h0 : -32768 ≤ n) (h1 : n < 32768) : Calls Try.prog 64 #[.int .i64 n] w (RetB w (b2 (n % 65536))) := by
  go_enter Try.func64, Try.ntmps64
  go_wp2_with fail
  refine (b2_any _ _ (by omega) (by omega)).mono ?_
  rintro e w1 ⟨A, m, c, rfl, hown, hb⟩
  go_wp2
  go_ret
  exact ⟨A, m, c, rfl, hown, hb⟩

/-- Four bytes of a number. -/
def b4 (n : Int) : List Int := b2 (n / 65536) ++ b2 (n % 65536)

/-- The number of two bytes from a place on; 0 where they aren't all there. -/
def n2v (zs : List Int) (a : Nat) : Int := match zs[a]?, zs[a + 1]? with
  | some x, some y => 256 * x + y
  | _, _ => 0
/-- Are two bytes there? -/
def n2b (zs : List Int) (a : Nat) : Bool := decide (a + 2 ≤ zs.length)

theorem n2_any (A : Option Addr) (n c : Nat) (zs : List Int) (a : Nat) (w : World) (hr : Row w A n (cellsOf .u8 zs)) (hB : Bytes zs) (hn : n ≤ 140737488351232) (ha : a ≤ 140737488351232) :
    Calls Try.prog 69 #[.slice A n c, .int .i64 a] w (Quiet w (.tuple #[.int .i64 (n2v zs a), .bool (n2b zs a)])) := by
  have Hn := Lib.hid hr.len
  have HB := Lib.hid hB
  clear hB
  by_cases h : a + 2 ≤ n
  · obtain ⟨x, ex⟩ := get_some (zs := zs) (k := a) (by have := Hn.out; omega)
    obtain ⟨y, ey⟩ := get_some (zs := zs) (k := a + 1) (by have := Hn.out; omega)
    obtain ⟨g, off, rfl, hg, hc⟩ := hr.at (cellsOf_get (k := .u8) ex)
    obtain ⟨g', off', e', _, hc'⟩ := hr.at (cellsOf_get (k := .u8) ey)
    simp only [Option.some.injEq, Addr.mk.injEq, and_true] at e'
    obtain ⟨rfl, rfl⟩ := e'
    have hx := HB.out x (List.mem_of_getElem? ex)
    have hy := HB.out y (List.mem_of_getElem? ey)
    have HV : Hid (n2v zs a = 256 * x + y) := by unfold n2v; rw [ex, ey]; exact rfl
    have HT : Hid (n2b zs a = true) := by unfold n2b; rw [decide_eq_true_iff, Hn.out]; exact h
    clear ex ey
    obtain ⟨hx0, hx1⟩ := hx
    obtain ⟨hy0, hy1⟩ := hy
    have w1 : IntKind.i64.wrap ((a : Int) + 1) = (a : Int) + 1 := IntWalk.i64_in _ (by omega)
    have w2 : ((a : Int) + 1).toNat = a + 1 := by omega
    have w3 : (0 : Int) ≤ (a : Int) + 1 := by omega
    have w4 : (a : Int) + 1 < (n : Int) := by omega
    have w5 : IntKind.i64.wrap (256 * x) = 256 * x := IntWalk.i64_in _ (by omega)
    have w6 : IntKind.i64.wrap (256 * x + y) = 256 * x + y := IntWalk.i64_in _ (by omega)
    have w7 : IntKind.i64.wrap x = x := IntWalk.i64_in _ (by omega)
    have w8 : IntKind.i64.wrap y = y := IntWalk.i64_in _ (by omega)
    go_enter Try.func69, Try.ntmps69
    go_wp2
    go_quiet (fail)
    go_wp2
    go_ret2
    rw [HV.out, HT.out]
    exact ⟨rfl, _, rfl⟩
  · have HT : Hid (n2b zs a = false) := by unfold n2b; rw [decide_eq_false_iff_not, Hn.out]; exact h
    have HV : Hid (n2v zs a = 0) := by
      unfold n2v
      have : zs[a + 1]? = none := List.getElem?_eq_none (by have := Hn.out; omega)
      rw [this]
      cases zs[a]? <;> exact rfl
    go_enter Try.func69, Try.ntmps69
    go_wp2
    go_ret2
    rw [HV.out, HT.out]
    exact ⟨rfl, 0, rfl⟩

theorem sign_any (n : Int) (w : World) (h0 : 0 ≤ n) (h1 : n < 65536) : Calls Try.prog 70 #[.int .i64 n] w fun e w' => e = .returned (.int .i64 (if 32767 < n then n - 65536 else n)) ∧ w = w' := by
  by_cases h : 32767 < n
  · rw [if_pos h]
    go_enter Try.func70, Try.ntmps70
    go_wp2
    go_ret
    exact ⟨rfl, rfl⟩
  · rw [if_neg h]
    go_enter Try.func70, Try.ntmps70
    go_wp2
    go_ret
    exact ⟨rfl, rfl⟩

/-- The number of four bytes from a place on; 0 where they aren't all there. -/
def n4v (zs : List Int) (a : Nat) : Int := if a + 4 ≤ zs.length then 65536 * n2v zs a + n2v zs (a + 2) else 0
def n4b (zs : List Int) (a : Nat) : Bool := decide (a + 4 ≤ zs.length)

theorem n2v_le {zs : List Int} (hB : Bytes zs) (a : Nat) : 0 ≤ n2v zs a ∧ n2v zs a ≤ 65535 := by
  unfold n2v
  split
  · rename_i x y ex ey
    have := hB x (List.mem_of_getElem? ex)
    have := hB y (List.mem_of_getElem? ey)
    omega
  · omega

end Go.Proofs.Ytgafjieghckimaa

/- What package word answers: bytes.Clone, New, and a Reader's calls, as contracts over this seat's translation. -/
namespace Go.Proofs.Ytgafjieghckimaa
open Go.RowKit
set_option linter.unusedVariables false

theorem clone_any (A : Option Addr) (n c : Nat) (zs : List Int) (w : World) (hr : Row w A n (cellsOf .u8 zs)) (hn : n ≤ 140737488351232) :
    Calls Try.prog 71 #[.slice A n c] w (RetB w zs) := by
  obtain ⟨i0, hi, hz0, hz1, hz2⟩ := info_parts Try.u8info
  have Hn := Lib.hid hr.len
  cases A with
  | none =>
    have h0 : Hid (zs = []) := by
      have := Hn.out
      rcases Nat.eq_zero_or_pos n with h | h
      · exact List.eq_nil_of_length_eq_zero (by omega)
      · obtain ⟨g, off, e, _⟩ := hr.2 h
        cases e
    go_enter Try.func71, Try.ntmps71
    go_wp2
    go_ret
    refine ⟨none, 0, 0, rfl, ?_, Below.refl _ _⟩
    rw [h0.out]
    exact Own.nil _ _ _ _
  | some a =>
    go_enter Try.func71, Try.ntmps71
    go_wp2_with (at_builtin; refine wpList_append_row rfl (.tmp 5) (.tmp 6) _ rfl 5 .u8 w.heap.size i0 1 Try.underlying32 hi hz0 hz1 hz2 (some ⟨w.heap.size, 0, none⟩) 0 0 [] rfl (own_lit w w.heap.size 5 .u8 [] 0 rfl (Nat.le_refl _) (by simp only [maxLen]; omega)) (some a) n c zs rfl (hr.below ((Below.refl _ _).alloc (Nat.le_refl _) _)) (by omega) (by omega) (by simp) ?_)
    intro A2 c2 w' hown hg
    have hb : Below w.heap.size w w' := ((Below.refl _ _).alloc (Nat.le_refl _) _).grown hg (by simp) (fun k hk => by simp [blockOf] at hk; omega)
    clear hg
    go_wp2
    go_ret
    exact ⟨A2, n, c2, rfl, hown, hb⟩

/-- A Reader in block b: the numbers zs are left, a bytes were gone through. It, and the bytes that it reads, lie from block B on. -/
def Rd (w : World) (B b : Nat) (zs : List Int) (a : Int) (bad : Bool) : Prop :=
  ∃ A n c, w.heap[b]? = some (.cells #[.slice A n c, .int .i64 a, .bool bad] 156 (0, 0)) ∧ B ≤ b ∧ Row w A n (cellsOf .u8 zs) ∧ n ≤ c ∧ ∀ g, blockOf A = some g → B ≤ g ∧ ∃ cur, w.heap[g]? = some (.cells cur 5 (0, 0))

/-- Block b holds a Reader. -/
def RdBlock (w : World) (b : Nat) : Prop := ∃ cs, w.heap[b]? = some (.cells cs 156 (0, 0))

theorem Rd.block {w : World} {B b : Nat} {zs : List Int} {a : Int} {bad : Bool} (h : Rd w B b zs a bad) : RdBlock w b := by
  obtain ⟨A, n, c, hb, _⟩ := h
  exact ⟨_, hb⟩

theorem Rd.lt {w : World} {B b : Nat} {zs : List Int} {a : Int} {bad : Bool} (h : Rd w B b zs a bad) : b < w.heap.size := by
  obtain ⟨A, n, c, hb, _⟩ := h
  exact lt_of_block hb

theorem Rd.from_ {w : World} {B b : Nat} {zs : List Int} {a : Int} {bad : Bool} (h : Rd w B b zs a bad) : B ≤ b := by
  obtain ⟨A, n, c, hb, h1, _⟩ := h
  exact h1

theorem Rd.mono {w : World} {B B' b : Nat} {zs : List Int} {a : Int} {bad : Bool} (h : Rd w B b zs a bad) (hB : B' ≤ B) : Rd w B' b zs a bad := by
  obtain ⟨A, n, c, hb, h1, h2, h3, h4⟩ := h
  exact ⟨A, n, c, hb, by omega, h2, h3, fun g hg => ⟨by have := (h4 g hg).1; omega, (h4 g hg).2⟩⟩

theorem u8_ne_rd {w : World} {g b : Nat} {cur cs : Array Value} (h1 : w.heap[g]? = some (.cells cur 5 (0, 0))) (h2 : w.heap[b]? = some (.cells cs 156 (0, 0))) : g ≠ b := by
  rintro rfl
  rw [h1] at h2
  simp at h2

theorem Rd.keep {w w' : World} {B b : Nat} {zs : List Int} {a : Int} {bad : Bool} (h : Rd w B b zs a bad) (hs : w.heap.size ≤ w'.heap.size)
    (hk : ∀ g, g < w.heap.size → B ≤ g → (g = b ∨ ∃ cur, w.heap[g]? = some (.cells cur 5 (0, 0))) → w'.heap[g]? = w.heap[g]?) : Rd w' B b zs a bad := by
  obtain ⟨A, n, c, hb, h1, h2, h3, h4⟩ := h
  refine ⟨A, n, c, by rw [hk b (lt_of_block hb) h1 (.inl rfl)]; exact hb, h1, h2.keep hs (fun g e hg => hk g hg (h4 g e).1 (.inr (h4 g e).2)), h3, fun g e => ⟨(h4 g e).1, ?_⟩⟩
  obtain ⟨cur, hc⟩ := (h4 g e).2
  exact ⟨cur, by rw [hk g (lt_of_block hc) (h4 g e).1 (.inr ⟨cur, hc⟩)]; exact hc⟩

theorem Rd.below {w w' : World} {B b : Nat} {zs : List Int} {a : Int} {bad : Bool} (h : Rd w B b zs a bad) (hb : Below w.heap.size w w') : Rd w' B b zs a bad :=
  h.keep hb.size fun g hg _ _ => hb.block g hg

theorem Rd.drewN {w : World} {B b : Nat} {zs : List Int} {a : Int} {bad : Bool} (h : Rd w B b zs a bad) (q : Nat) : Rd (w.drewN q) B b zs a bad := h

/-- Another Reader has been asked. -/
theorem Rd.other {w w' : World} {B b b' : Nat} {zs : List Int} {a : Int} {bad : Bool} (h : Rd w B b zs a bad) (hg : w.grownBy w' (some b')) (hb' : RdBlock w b') (hne : b ≠ b') : Rd w' B b zs a bad :=
  h.keep hg.size fun g hlt _ ho => hg.block g hlt (by
    rintro ⟨⟩
    rcases ho with rfl | ⟨cur, hc⟩
    · exact hne rfl
    · obtain ⟨cs, h2⟩ := hb'
      exact u8_ne_rd hc h2 rfl)

/-- What New leaves. -/
def RetRd (w : World) (zs : List Int) (e : Ending) (w' : World) : Prop := ∃ b, e = .returned (.pointer (some ⟨b, 0, none⟩)) ∧ Rd w' w.heap.size b zs 0 false ∧ Below w.heap.size w w'

theorem new_any (A : Option Addr) (n c : Nat) (zs : List Int) (w : World) (hr : Row w A n (cellsOf .u8 zs)) (hn : n ≤ 140737488351232) :
    Calls Try.prog 56 #[.slice A n c] w (RetRd w zs) := by
  go_enter Try.func56, Try.ntmps56
  go_wp2_with fail
  refine (clone_any _ _ _ zs _ hr hn).mono ?_
  rintro e w1 ⟨A1, n1, c1, rfl, hown, hb⟩
  go_wp2
  go_ret
  have hs := hb.size
  refine ⟨w1.heap.size, rfl, ⟨A1, n1, c1, heap_alloc_new _ _, hs, hown.row.below ((Below.refl _ _).alloc (Nat.le_refl _) _), hown.cap, fun g hg => ?_⟩, hb.alloc hs _⟩
  rcases hown.shape with ⟨rfl, _⟩ | ⟨g', cur, rfl, h1, h2, h3, _⟩
  · simp [blockOf] at hg
  · simp [blockOf] at hg
    subst hg
    exact ⟨h1, cur, by rw [Below.heap_alloc _ _ _ h2]; exact h3⟩

/-- What asking a Reader leaves: a slice of m cells, and the Reader further on. -/
def RetNext (w : World) (B b : Nat) (ys zs : List Int) (a : Int) (bad : Bool) (e : Ending) (w' : World) : Prop :=
  ∃ A m c, e = .returned (.slice A m c) ∧ Row w' A m (cellsOf .u8 ys) ∧ (∀ g, blockOf A = some g → B ≤ g ∧ ∃ cur, w'.heap[g]? = some (.cells cur 5 (0, 0))) ∧ Rd w' B b zs a bad ∧ w.grownBy w' (some b)

theorem set_block {w : World} {b : Nat} {t : TypeId} {cs : Array Value} (hb : w.heap[b]? = some (.cells cs t (0, 0))) (i : Nat) (u : Value) : (w.setCell ⟨b, i, none⟩ u).heap[b]? = some (.cells (cs.setIfInBounds i u) t (0, 0)) := by
  simp [World.setCell, Array.getElem?_modify, hb]

theorem grown_set {w w' : World} {b : Nat} (h : w.grownBy w' (some b)) (i : Nat) (u : Value) : w.grownBy (w'.setCell ⟨b, i, none⟩ u) (some b) :=
  ⟨h.os, h.tape, h.output, by simpa [World.setCell] using h.size, fun k hk hne => (Below.heap_setCell w' _ u k (by rintro rfl; exact hne rfl)).trans (h.block k hk hne)⟩

/-- A Reader whose block alone was written. -/
theorem rd_next {w w' : World} {B b n c m n' c' : Nat} {A A' : Option Addr} {ys rs : List Int} {a a' : Int} {bad bad' : Bool}
    (hb : w.heap[b]? = some (.cells #[.slice A n c, .int .i64 a, .bool bad] 156 (0, 0))) (h1 : B ≤ b) (h4 : ∀ g, blockOf A = some g → B ≤ g ∧ ∃ cur, w.heap[g]? = some (.cells cur 5 (0, 0)))
    (hg : w.grownBy w' (some b)) (hb' : w'.heap[b]? = some (.cells #[.slice A' n' c', .int .i64 a', .bool bad'] 156 (0, 0)))
    (hA : ∀ g, blockOf A' = some g → blockOf A = some g) (hy : Row w A m (cellsOf .u8 ys)) (hr : Row w A' n' (cellsOf .u8 rs)) (hc : n' ≤ c') :
    RetNext w B b ys rs a' bad' (.returned (.slice A m m)) w' := by
  have k4 : ∀ g, blockOf A = some g → w'.heap[g]? = w.heap[g]? := fun g e => by
    obtain ⟨_, cur, hcur⟩ := h4 g e
    exact hg.block g (lt_of_block hcur) (by rintro ⟨⟩; exact u8_ne_rd hcur hb rfl)
  have k5 : ∀ g, blockOf A = some g → B ≤ g ∧ ∃ cur, w'.heap[g]? = some (.cells cur 5 (0, 0)) := fun g e => by
    obtain ⟨h, cur, hcur⟩ := h4 g e
    exact ⟨h, cur, by rw [k4 g e]; exact hcur⟩
  exact ⟨A, m, m, rfl, hy.keep hg.size (fun g e _ => k4 g e), k5, ⟨A', n', c', hb', h1, hr.keep hg.size (fun g e _ => k4 g (hA g e)), hc, fun g e => k5 g (hA g e)⟩, hg⟩

set_option maxHeartbeats 400000 in
theorem next_ok (B b m : Nat) (zs : List Int) (a : Int) (bad : Bool) (w : World) (h : Rd w B b zs a bad) (hm : m ≤ zs.length) (hl : zs.length ≤ 140737488351232) (ha0 : 0 ≤ a) (ha1 : a ≤ 1000000000000000) :
    Calls Try.prog 114 #[.pointer (some ⟨b, 0, none⟩), .int .i64 m] w (RetNext w B b (zs.take m) (zs.drop m) (a + m) bad) := by
  obtain ⟨A, n, c, hb, h1, h2, h3, h4⟩ := h
  have Hn := Lib.hid h2.len
  have hmn : m ≤ n := by have := Hn.out; omega
  have hnl : n ≤ 140737488351232 := by have := Hn.out; omega
  have c0 : w.cell? ⟨b, 0, none⟩ = some (.slice A n c) := cell_of_row w b 0 _ 156 (0, 0) hb
  have c1 : w.cell? ⟨b, 1, none⟩ = some (.int .i64 a) := cell_of_row w b 1 _ 156 (0, 0) hb
  have f0 : ∀ o, w.frozen? ⟨b, o, none⟩ = false := fun o => by simp [World.frozen?, hb]
  have Hb := Lib.hid hb
  have H4 := Lib.hid h4
  clear hb hm hl h4
  go_enter Try.func114, Try.ntmps114
  go_wp2
  all_goals go_ret
  · have h : c = m := by assumption
    exact rd_next Hb.out h1 H4.out (grown_set (grown_set (World.grownBy.refl w _) _ _) _ _) (set_block (set_block Hb.out 0 _) 1 _) (fun g e => e) (by rw [← cellsOf_take]; exact h2.take hmn)
      (by rw [List.drop_of_length_le (by have := Hn.out; omega), show n - m = 0 by omega]; exact Row.empty _ _) (by omega)
  · exact rd_next Hb.out h1 H4.out (grown_set (grown_set (World.grownBy.refl w _) _ _) _ _) (set_block (set_block Hb.out 0 _) 1 _) (fun g e => by rw [← blockOf_add A m]; exact e) (by rw [← cellsOf_take]; exact h2.take hmn)
      (by rw [← cellsOf_drop]; exact h2.drop m) (by omega)

set_option maxHeartbeats 400000 in
theorem next_bad (B b : Nat) (m : Int) (zs : List Int) (a : Int) (bad : Bool) (w : World) (h : Rd w B b zs a bad) (hm : m < 0 ∨ (zs.length : Int) < m) :
    Calls Try.prog 114 #[.pointer (some ⟨b, 0, none⟩), .int .i64 m] w (RetNext w B b [] [] a true) := by
  obtain ⟨A, n, c, hb, h1, h2, h3, h4⟩ := h
  have Hn := Lib.hid h2.len
  have c0 : w.cell? ⟨b, 0, none⟩ = some (.slice A n c) := cell_of_row w b 0 _ 156 (0, 0) hb
  have c1 : w.cell? ⟨b, 1, none⟩ = some (.int .i64 a) := cell_of_row w b 1 _ 156 (0, 0) hb
  have c2 : w.cell? ⟨b, 2, none⟩ = some (.bool bad) := cell_of_row w b 2 _ 156 (0, 0) hb
  have f0 : ∀ o, w.frozen? ⟨b, o, none⟩ = false := fun o => by simp [World.frozen?, hb]
  have hm' : m < 0 ∨ (n : Int) < m := by have := Hn.out; omega
  have Hb := Lib.hid hb
  clear hb hm h4
  have fin : RetNext w B b [] [] a true (.returned (.slice none 0 0)) ((w.setCell ⟨b, 0, none⟩ (.slice none 0 0)).setCell ⟨b, 2, none⟩ (.bool true)) :=
    ⟨none, 0, 0, rfl, Row.empty _ _, fun g e => by simp [blockOf] at e, ⟨none, 0, 0, set_block (set_block Hb.out 0 _) 2 _, h1, Row.empty _ _, Nat.le_refl _, fun g e => by simp [blockOf] at e⟩, grown_set (grown_set (World.grownBy.refl w _) _ _) _ _⟩
  have Fin := Lib.hid fin
  clear fin
  by_cases h0 : m < 0
  · go_enter Try.func114, Try.ntmps114
    go_wp2
    go_ret
    exact Fin.out
  · have h5 : (n : Int) < m := by omega
    clear hm'
    go_enter Try.func114, Try.ntmps114
    go_wp2
    go_ret
    exact Fin.out

end Go.Proofs.Ytgafjieghckimaa

/- A Reader's numbers, as contracts over this seat's translation. -/
namespace Go.Proofs.Ytgafjieghckimaa
open Go.RowKit
set_option linter.unusedVariables false

/-- Bytes as a number, the highest first. -/
def be (l : List Int) : Int := l.foldl (fun n b => n * 256 + b) 0

theorem be_snoc (l : List Int) (x : Int) : be (l ++ [x]) = be l * 256 + x := by simp [be]

theorem be_le_from (l : List Int) : ∀ (acc : Int) (n : Nat), Bytes l → 0 ≤ acc → acc < 256 ^ n → 0 ≤ l.foldl (fun n b => n * 256 + b) acc ∧ l.foldl (fun n b => n * 256 + b) acc < 256 ^ (n + l.length) := by
  induction l with
  | nil => intro acc n _ h0 h1; exact ⟨h0, h1⟩
  | cons x l ih =>
    intro acc n h h0 h1
    have hx := h x (by simp)
    have := ih (acc * 256 + x) (n + 1) (fun y hy => h y (List.mem_cons_of_mem _ hy)) (by omega) (by rw [Int.pow_succ]; omega)
    rw [List.foldl_cons, List.length_cons]
    rw [show n + 1 + l.length = n + (l.length + 1) by omega] at this
    exact this

theorem be_le (l : List Int) (h : Bytes l) : 0 ≤ be l ∧ be l < 256 ^ l.length := by
  have := be_le_from l 0 0 h (by omega) (by simp)
  rwa [Nat.zero_add] at this

/-- The next byte behind a number. -/
theorem or_byte (v x : Int) (h0 : 0 ≤ v) (h1 : v < 16777216) (x0 : 0 ≤ x) (x1 : x ≤ 255) : bits .or .u32 (v * 256) x = v * 256 + x := by
  rw [u32_or _ _ (by omega) (by omega) x0 (by omega)]
  obtain ⟨v, rfl⟩ := Int.eq_ofNat_of_zero_le h0
  obtain ⟨x, rfl⟩ := Int.eq_ofNat_of_zero_le x0
  rw [show ((v : Int) * 256).toNat = v <<< 8 by rw [Nat.shiftLeft_eq]; omega, Int.toNat_natCast, ← Nat.shiftLeft_add_eq_or_of_lt (by omega), Nat.shiftLeft_eq]
  omega

/-- What asking a Reader for a number leaves. -/
def RetNum (w : World) (B b : Nat) (v : Value) (zs : List Int) (a : Int) (bad : Bool) (e : Ending) (w' : World) : Prop :=
  e = .returned v ∧ Rd w' B b zs a bad ∧ w.grownBy w' (some b)

set_option maxHeartbeats 400000 in
theorem number_ok (B b m : Nat) (zs : List Int) (a : Int) (bad : Bool) (w : World) (h : Rd w B b zs a bad) (hB : Bytes zs) (hm : m ≤ zs.length) (hm4 : m ≤ 4) (hl : zs.length ≤ 140737488351232) (ha0 : 0 ≤ a) (ha1 : a ≤ 1000000000000000) :
    Calls Try.prog 98 #[.pointer (some ⟨b, 0, none⟩), .int .i64 m] w (RetNum w B b (.int .u32 (be (zs.take m))) (zs.drop m) (a + m) bad) := by
  go_enter Try.func98, Try.ntmps98
  go_wp2_with fail
  refine (next_ok B b m zs a bad w h hm hl ha0 ha1).mono ?_
  rintro e w1 ⟨A, n, c, rfl, hrow, hblk, hrd, hg⟩
  have Hn : Hid (n = m) := by have := hrow.len; rw [List.length_take] at this; exact (by omega : n = m)
  have hn4 : n ≤ 4 := by have := Hn.out; omega
  have HB : Hid (Bytes (zs.take m)) := fun x hx => hB x (List.mem_of_mem_take hx)
  clear hm hl hB hblk h
  generalize hys : zs.take m = ys at *
  have Hys := Lib.hid hys
  clear hys
  have Hlen := Lib.hid hrow.len
  go_wp2
  go_loop [5, 12] (fun v i => ∃ k : Nat, k ≤ n ∧ i = .int .i64 k ∧ v = .int .u32 (be (ys.take k))) (fun _ i => n - (intOf i).toNat)
  case atStart => exact ⟨0, Nat.zero_le _, rfl, rfl⟩
  case round =>
    obtain ⟨k, hk, rfl, rfl⟩ := hrel
    by_cases hlt : k < n
    · obtain ⟨x, ex⟩ := get_some (zs := ys) (k := k) (by have := Hlen.out; omega)
      obtain ⟨g, off, rfl, hg', hc⟩ := hrow.at (cellsOf_get (k := .u8) ex)
      have hx := HB.out x (List.mem_of_getElem? ex)
      obtain ⟨x0, x1⟩ := hx
      have HS : Hid (be (ys.take (k + 1)) = be (ys.take k) * 256 + x) := by rw [List.take_add_one, ex]; exact be_snoc _ _
      have hb := be_le (ys.take k) (fun y hy => HB.out y (List.mem_of_mem_take hy))
      have hv1 : be (ys.take k) < 16777216 := by
        refine Int.lt_of_lt_of_le hb.2 ?_
        have : (ys.take k).length ≤ 3 := by rw [List.length_take]; omega
        rcases h3 : (ys.take k).length with _ | _ | _ | _ | q <;> simp_all <;> omega
      have hv0 := hb.1
      clear ex hb
      have HO : Hid (bits .or .u32 (be (ys.take k) * 256) x = be (ys.take (k + 1))) := by rw [HS.out]; exact or_byte _ _ hv0 hv1 x0 x1
      go_wp2
      go_round
      case rel => exact ⟨k + 1, by omega, by go_num, by rw [HO.out]⟩
      case measure => simp [intOf]; omega
    · have HE : Hid (ys.take k = ys) := List.take_of_length_le (by have := Hlen.out; omega)
      go_wp2
      go_ret
      refine ⟨?_, hrd, hg⟩
      rw [HE.out]
      rfl

set_option maxHeartbeats 400000 in
theorem number_bad (B b : Nat) (m : Int) (zs : List Int) (a : Int) (bad : Bool) (w : World) (h : Rd w B b zs a bad) (hm : m < 0 ∨ (zs.length : Int) < m) :
    Calls Try.prog 98 #[.pointer (some ⟨b, 0, none⟩), .int .i64 m] w (RetNum w B b (.int .u32 0) [] a true) := by
  go_enter Try.func98, Try.ntmps98
  go_wp2_with fail
  refine (next_bad B b m zs a bad w h hm).mono ?_
  rintro e w1 ⟨A, n, c, rfl, hrow, hblk, hrd, hg⟩
  have hn : n = 0 := hrow.1.symm
  subst hn
  clear hblk h hrow hm
  go_wp2
  refine wp_loop_rounds 1 ?_
  rw [rounds_succ]
  go_wp2
  go_ret
  exact ⟨rfl, hrd, hg⟩

end Go.Proofs.Ytgafjieghckimaa

/- A Reader's calls, each by one contract for every state: asked for m bytes it tells them, or it is bad from then on. -/
namespace Go.Proofs.Ytgafjieghckimaa
open Go.RowKit
set_option linter.unusedVariables false

/-- What is told of m bytes that are asked for; what is left behind them; how many were gone through; whether it is bad. -/
def told (zs : List Int) (m : Nat) : List Int := if m ≤ zs.length then zs.take m else []
def rest (zs : List Int) (m : Nat) : List Int := if m ≤ zs.length then zs.drop m else []
def gone (zs : List Int) (a : Int) (m : Nat) : Int := if m ≤ zs.length then a + m else a
def badn (zs : List Int) (bad : Bool) (m : Nat) : Bool := if m ≤ zs.length then bad else true
def num (zs : List Int) (m : Nat) : Int := be (told zs m)
def sgn (n : Int) : Int := if 32767 < n then n - 65536 else n

theorem told_len (zs : List Int) (m : Nat) : (told zs m).length ≤ m := by unfold told; split <;> simp; omega
theorem told_bytes {zs : List Int} (h : Bytes zs) (m : Nat) : Bytes (told zs m) := by
  unfold told
  split
  · exact fun x hx => h x (List.mem_of_mem_take hx)
  · intro x hx; cases hx
theorem rest_bytes {zs : List Int} (h : Bytes zs) (m : Nat) : Bytes (rest zs m) := by
  unfold rest
  split
  · exact fun x hx => h x (List.mem_of_mem_drop hx)
  · intro x hx; cases hx
theorem rest_len (zs : List Int) (m : Nat) : (rest zs m).length ≤ zs.length := by unfold rest; split <;> simp
theorem num_lt {zs : List Int} (h : Bytes zs) (m k : Nat) (hk : m ≤ k) : 0 ≤ num zs m ∧ num zs m < 256 ^ k := by
  have h1 := be_le (told zs m) (told_bytes h m)
  have h2 : (256 : Int) ^ (told zs m).length ≤ 256 ^ k := by
    have : 256 ^ (told zs m).length ≤ 256 ^ k := Nat.pow_le_pow_right (by omega) (Nat.le_trans (told_len zs m) hk)
    rw [show (256 : Int) = ((256 : Nat) : Int) from rfl, ← Int.natCast_pow, ← Int.natCast_pow]
    exact Int.ofNat_le.2 this
  exact ⟨h1.1, Int.lt_of_lt_of_le h1.2 h2⟩

section
variable (B b : Nat) (zs : List Int) (a : Int) (bad : Bool) (w : World) (h : Rd w B b zs a bad) (hB : Bytes zs) (hl : zs.length ≤ 140737488351232) (ha0 : 0 ≤ a) (ha1 : a ≤ 1000000000000000)
include h hB hl ha0 ha1

theorem number_any (m : Nat) (hm4 : m ≤ 4) :
    Calls Try.prog 98 #[.pointer (some ⟨b, 0, none⟩), .int .i64 m] w (RetNum w B b (.int .u32 (num zs m)) (rest zs m) (gone zs a m) (badn zs bad m)) := by
  by_cases hm : m ≤ zs.length
  · have := number_ok B b m zs a bad w h hB hm hm4 hl ha0 ha1
    simpa only [num, told, rest, gone, badn, if_pos hm] using this
  · have := number_bad B b m zs a bad w h (.inr (by omega))
    simpa only [num, told, rest, gone, badn, if_neg hm, show be [] = 0 from rfl] using this

omit hB in
theorem take_any (m : Nat) : Calls Try.prog 100 #[.pointer (some ⟨b, 0, none⟩), .int .i64 m] w (RetNext w B b (told zs m) (rest zs m) (gone zs a m) (badn zs bad m)) := by
  have hn : Calls Try.prog 114 #[.pointer (some ⟨b, 0, none⟩), .int .i64 m] w (RetNext w B b (told zs m) (rest zs m) (gone zs a m) (badn zs bad m)) := by
    by_cases hm : m ≤ zs.length
    · have := next_ok B b m zs a bad w h hm hl ha0 ha1
      simpa only [told, rest, gone, badn, if_pos hm] using this
    · have := next_bad B b m zs a bad w h (.inr (by omega))
      simpa only [told, rest, gone, badn, if_neg hm] using this
  have H := Lib.hid hn
  clear hn h hl ha0 ha1
  go_enter Try.func100, Try.ntmps100
  go_wp2_with fail
  refine H.out.mono ?_
  rintro e w1 ⟨A, n, c, rfl, hr⟩
  go_wp2
  go_ret
  exact ⟨A, n, c, rfl, hr⟩

theorem u8_any : Calls Try.prog 115 #[.pointer (some ⟨b, 0, none⟩)] w (RetNum w B b (.int .u8 (num zs 1)) (rest zs 1) (gone zs a 1) (badn zs bad 1)) := by
  have H := Lib.hid (number_any B b zs a bad w h hB hl ha0 ha1 1 (by omega))
  obtain ⟨n0, n1⟩ := num_lt hB 1 1 (by omega)
  clear h hB hl ha0 ha1
  simp only [Int.pow_succ, Int.pow_zero, Int.one_mul] at n1
  go_enter Try.func115, Try.ntmps115
  go_wp2_with fail
  refine H.out.mono ?_
  rintro e w1 ⟨rfl, hr⟩
  go_wp2
  go_ret
  exact ⟨rfl, hr⟩

theorem u16_any : Calls Try.prog 57 #[.pointer (some ⟨b, 0, none⟩)] w (RetNum w B b (.int .u16 (num zs 2)) (rest zs 2) (gone zs a 2) (badn zs bad 2)) := by
  have H := Lib.hid (number_any B b zs a bad w h hB hl ha0 ha1 2 (by omega))
  obtain ⟨n0, n1⟩ := num_lt hB 2 2 (by omega)
  clear h hB hl ha0 ha1
  simp only [Int.pow_succ, Int.pow_zero, Int.one_mul, Int.reduceMul] at n1
  go_enter Try.func57, Try.ntmps57
  go_wp2_with fail
  refine H.out.mono ?_
  rintro e w1 ⟨rfl, hr⟩
  go_wp2
  go_ret
  exact ⟨rfl, hr⟩

theorem i16_any : Calls Try.prog 92 #[.pointer (some ⟨b, 0, none⟩)] w (RetNum w B b (.int .i16 (sgn (num zs 2))) (rest zs 2) (gone zs a 2) (badn zs bad 2)) := by
  have H := Lib.hid (u16_any B b zs a bad w h hB hl ha0 ha1)
  obtain ⟨n0, n1⟩ := num_lt hB 2 2 (by omega)
  clear h hB hl ha0 ha1
  simp only [Int.pow_succ, Int.pow_zero, Int.one_mul, Int.reduceMul] at n1
  have HS : Hid (IntKind.i16.wrap (num zs 2) = sgn (num zs 2)) := by
    show _ = _
    unfold sgn
    simp only [IntKind.wrap, IntKind.signed, IntKind.bits, Bool.true_and, ge_iff_le, decide_eq_true_eq, Int.reducePow, Nat.reduceSub]
    split <;> split <;> omega
  go_enter Try.func92, Try.ntmps92
  go_wp2_with fail
  refine H.out.mono ?_
  rintro e w1 ⟨rfl, hr⟩
  go_wp2
  go_ret
  rw [HS.out]
  exact ⟨rfl, hr⟩

omit hB ha0 ha1 hl in
theorem at_any : Calls Try.prog 60 #[.pointer (some ⟨b, 0, none⟩)] w fun e w' => e = .returned (.int .i64 a) ∧ w = w' := by
  obtain ⟨A, n, c, hb, h1, h2, h3, h4⟩ := h
  have c0 : w.cell? ⟨b, 1, none⟩ = some (.int .i64 a) := cell_of_row w b 1 _ 156 (0, 0) hb
  clear h2 h3 h4 hb
  go_enter Try.func60, Try.ntmps60
  go_wp2
  go_ret
  exact ⟨rfl, rfl⟩

omit hB ha0 ha1 hl in
theorem bad_any : Calls Try.prog 59 #[.pointer (some ⟨b, 0, none⟩)] w fun e w' => e = .returned (.bool bad) ∧ w = w' := by
  obtain ⟨A, n, c, hb, h1, h2, h3, h4⟩ := h
  have c0 : w.cell? ⟨b, 2, none⟩ = some (.bool bad) := cell_of_row w b 2 _ 156 (0, 0) hb
  clear h2 h3 h4 hb
  go_enter Try.func59, Try.ntmps59
  go_wp2
  go_ret
  exact ⟨rfl, rfl⟩

end

end Go.Proofs.Ytgafjieghckimaa

/- A Reader beside two structs in blocks of their own: what asking it, and storing into one of them, leaves. -/
namespace Go.Proofs.Ytgafjieghckimaa
open Go.RowKit
set_option linter.unusedVariables false

/-- The number of two bytes, of four, from a place on. -/
def n2at (zs : List Int) (i : Nat) : Int := num (zs.drop i) 2
def n4at (zs : List Int) (i : Nat) : Int := num (zs.drop i) 4

theorem rest_at (zs : List Int) (i m : Nat) (h : i + m ≤ zs.length) : rest (zs.drop i) m = zs.drop (i + m) := by
  unfold rest
  rw [if_pos (by rw [List.length_drop]; omega), List.drop_drop]
theorem gone_at (zs : List Int) (a : Int) (i m : Nat) (h : i + m ≤ zs.length) : gone (zs.drop i) a m = a + m := by
  unfold gone
  rw [if_pos (by rw [List.length_drop]; omega)]
theorem badn_at (zs : List Int) (bad : Bool) (i m : Nat) (h : i + m ≤ zs.length) : badn (zs.drop i) bad m = bad := by
  unfold badn
  rw [if_pos (by rw [List.length_drop]; omega)]
theorem drop_bytes {zs : List Int} (h : Bytes zs) (i : Nat) : Bytes (zs.drop i) := fun x hx => h x (List.mem_of_mem_drop hx)

/-- A Reader in block b of which i bytes of zs are gone through, and two structs that are younger than w. -/
structure RS (w wr : World) (B b : Nat) (zs : List Int) (i b1 : Nat) (c1 : Array Value) (b2 : Nat) (c2 : Array Value) (t : TypeId) : Prop where
  rd : Rd wr B b (zs.drop i) i false
  gr : w.grownBy wr (some b)
  k1 : wr.heap[b1]? = some (.cells c1 t (0, 0))
  k2 : wr.heap[b2]? = some (.cells c2 t (0, 0))
  lt : b < w.heap.size
  l1 : w.heap.size ≤ b1
  l2 : w.heap.size ≤ b2
  ne : b1 ≠ b2
  n8 : t ≠ 5

section
variable {w wr w' : World} {B b : Nat} {zs : List Int} {i b1 b2 : Nat} {c1 c2 : Array Value} {t : TypeId}
theorem RS.ask (h : RS w wr B b zs i b1 c1 b2 c2 t) {m : Nat} (hm : i + m ≤ zs.length) (hr : Rd w' B b (rest (zs.drop i) m) (gone (zs.drop i) i m) (badn (zs.drop i) false m)) (hg : wr.grownBy w' (some b)) : RS w w' B b zs (i + m) b1 c1 b2 c2 t := by
  rw [rest_at zs i m hm, gone_at zs i i m hm, badn_at zs false i m hm] at hr
  have h1 := h.l1
  have h2 := h.l2
  have h3 := h.lt
  refine ⟨by simpa using hr, grown_trans h.gr hg, ?_, ?_, h.lt, h.l1, h.l2, h.ne, h.n8⟩
  · rw [hg.block b1 (lt_of_block h.k1) (by intro e; cases e; omega)]; exact h.k1
  · rw [hg.block b2 (lt_of_block h.k2) (by intro e; cases e; omega)]; exact h.k2
theorem RS.set2 (h : RS w wr B b zs i b1 c1 b2 c2 t) (j : Nat) (v : Value) : RS w (wr.setCell ⟨b2, j, none⟩ v) B b zs i b1 c1 b2 (c2.setIfInBounds j v) t := by
  have h2 := h.l2
  have h3 := h.lt
  refine ⟨h.rd.keep (by simp [World.setCell]) (fun g hg _ ho => Below.heap_setCell wr _ v g (by
      rintro rfl
      rcases ho with e | ⟨cur, hc⟩
      · omega
      · have := h.k2
        rw [hc] at this
        simp at this
        exact h.n8 this.2.symm)), ?_, ?_, set_block h.k2 j v, h.lt, h.l1, h.l2, h.ne, h.n8⟩
  · refine ⟨h.gr.os, h.gr.tape, h.gr.output, by simpa [World.setCell] using h.gr.size, fun k hk hne => (Below.heap_setCell wr _ v k (by rintro rfl; omega)).trans (h.gr.block k hk hne)⟩
  · rw [Below.heap_setCell wr _ v b1 h.ne]; exact h.k1
theorem RS.cell1 (h : RS w wr B b zs i b1 c1 b2 c2 t) (j : Nat) (v : Value) (hj : c1[j]? = some v) : wr.cell? ⟨b1, j, none⟩ = some v := (cell_of_row wr _ j _ _ _ h.k1).trans hj
theorem RS.cell2 (h : RS w wr B b zs i b1 c1 b2 c2 t) (j : Nat) (v : Value) (hj : c2[j]? = some v) : wr.cell? ⟨b2, j, none⟩ = some v := (cell_of_row wr _ j _ _ _ h.k2).trans hj
theorem RS.thaw1 (h : RS w wr B b zs i b1 c1 b2 c2 t) (o : Nat) : wr.frozen? ⟨b1, o, none⟩ = false := by simp [World.frozen?, h.k1]
theorem RS.thaw2 (h : RS w wr B b zs i b1 c1 b2 c2 t) (o : Nat) : wr.frozen? ⟨b2, o, none⟩ = false := by simp [World.frozen?, h.k2]
end

/-- A store into what is younger. -/
theorem grown_new {w wr : World} {row : Option Nat} {g : Nat} (hg : w.heap.size ≤ g) (j : Nat) (v : Value) (h : w.grownBy wr row) : w.grownBy (wr.setCell ⟨g, j, none⟩ v) row :=
  ⟨h.os, h.tape, h.output, by simpa [World.setCell] using h.size, fun k hk hne => (Below.heap_setCell wr _ v k (by rintro rfl; omega)).trans (h.block k hk hne)⟩

theorem below_set {w0 w : World} {B g : Nat} (hg : B ≤ g) (j : Nat) (v : Value) (h : Below B w0 w) : Below B w0 (w.setCell ⟨g, j, none⟩ v) := h.setCell (p := ⟨g, j, none⟩) hg v

/-- Two structs made one behind the other, beside a Reader. -/
theorem rs_new (w : World) (c1 c2 : Array Value) (t : TypeId) (B b : Nat) (zs : List Int) (h : Rd w B b zs 0 false) (h8 : t ≠ 5) :
    RS w ((w.alloc (.cells c1 t)).alloc (.cells c2 t)) B b zs 0 w.heap.size c1 (w.heap.size + 1) c2 t := by
  have hA : Below w.heap.size w ((w.alloc (.cells c1 t)).alloc (.cells c2 t)) := ((Below.refl _ _).alloc (Nat.le_refl _) _).alloc (by simp) _
  refine ⟨by simpa using h.below hA, grown_of_below hA _, ?_, ?_, h.lt, Nat.le_refl _, by omega, by omega, h8⟩
  · rw [Below.heap_alloc _ _ _ (by simp)]
    exact heap_alloc_new w _
  · have := heap_alloc_new (w.alloc (.cells c1 t)) (.cells c2 t)
    simpa using this

end Go.Proofs.Ytgafjieghckimaa

/- The laws of layer 1: each returns true and turns nothing that was there. -/
namespace Go.Proofs.Ytgafjieghckimaa
open Go.RowKit
set_option linter.unusedVariables false

/-- What a law leaves. -/
abbrev True_ (w : World) (e : Ending) (w' : World) : Prop := e = .returned (.bool true) ∧ Below w.heap.size w w'

/-- Numbers written out in a block of their own. -/
theorem row_lit (w : World) (k : IntKind) (t : TypeId) (zs : List Int) (n : Nat) (hn : zs.length = n) : Row (w.alloc (.cells (cellsOf k zs).toArray t)) (some ⟨w.heap.size, 0, none⟩) n (cellsOf k zs) :=
  ⟨by rw [cellsOf_length]; exact hn, fun _ => ⟨w.heap.size, 0, rfl, by simp, fun j u hu => by
    rw [Nat.zero_add, cell_of_row _ _ j _ t (0, 0) (heap_alloc_new w _)]
    simpa using hu⟩⟩

theorem drop_cons {zs : List Int} {k : Nat} {x : Int} (h : zs[k]? = some x) : zs.drop k = x :: zs.drop (k + 1) := by
  obtain ⟨hk, rfl⟩ := List.getElem?_eq_some_iff.1 h
  exact List.drop_eq_getElem_cons hk

theorem ask_one {zs : List Int} {k : Nat} {x : Int} (h : zs[k]? = some x) : num (zs.drop k) 1 = x ∧ rest (zs.drop k) 1 = zs.drop (k + 1) ∧ gone (zs.drop k) k 1 = ((k + 1 : Nat) : Int) ∧ badn (zs.drop k) false 1 = false := by
  rw [drop_cons h]
  refine ⟨?_, ?_, ?_, ?_⟩ <;> simp [num, told, rest, gone, badn, be]

theorem cut_bytes {zs : List Int} (h : Bytes zs) (m : Nat) : Bytes (zs.take m) := fun x hx => h x (List.mem_of_mem_take hx)

end Go.Proofs.Ytgafjieghckimaa

/- What a Writer's calls answer, as contracts over this seat's translation. -/
namespace Go.Proofs.Ytgafjieghckimaa
open Go.RowKit
set_option linter.unusedVariables false

/-- Of what was there only blocks of S have turned. -/
structure Turned (w w' : World) (S : Nat → Prop) : Prop where
  os : w'.os = w.os
  tape : w'.tape = w.tape
  output : w'.output = w.output
  size : w.heap.size ≤ w'.heap.size
  block : ∀ k, k < w.heap.size → ¬ S k → w'.heap[k]? = w.heap[k]?

theorem Turned.below {w0 w w' : World} {S : Nat → Prop} {B : Nat} (h : Turned w w' S) (hb : Below B w0 w) (hB : B ≤ w.heap.size) (hS : ∀ k, S k → B ≤ k) : Below B w0 w' :=
  hb.trans ⟨h.os, h.tape, h.output, h.size, fun k hk => h.block k (by omega) (fun hs => by have := hS k hs; omega)⟩

theorem Row.turned {w w' : World} {A : Option Addr} {n : Nat} {xs : List Value} {S : Nat → Prop} (h : Row w A n xs) (ht : Turned w w' S) (hA : ∀ g, blockOf A = some g → ¬ S g) : Row w' A n xs :=
  h.keep ht.size fun g e hg => ht.block g hg (hA g e)

/-- A Writer in block b that has the bytes zs; it and they lie from block B on. -/
def Wr (w : World) (B b : Nat) (zs : List Int) : Prop := ∃ A n c, w.heap[b]? = some (.cells #[.slice A n c] 101 (0, 0)) ∧ B ≤ b ∧ OwnB w B A n c zs

/-- The block of a Writer's bytes. -/
def WrOwns (w : World) (b k : Nat) : Prop := ∃ A n c, w.heap[b]? = some (.cells #[.slice A n c] 101 (0, 0)) ∧ blockOf A = some k

/-- What a Writer's call may turn. -/
def WrS (w : World) (b : Nat) (k : Nat) : Prop := k = b ∨ WrOwns w b k

section
variable {w w' : World} {B b : Nat} {zs : List Int}

theorem Wr.from_ (h : Wr w B b zs) : B ≤ b ∧ b < w.heap.size := by
  obtain ⟨A, n, c, hb, h1, _⟩ := h
  exact ⟨h1, lt_of_block hb⟩

theorem Wr.owns (h : Wr w B b zs) : ∀ k, WrS w b k → B ≤ k ∧ k < w.heap.size := by
  obtain ⟨A, n, c, hb, h1, h2⟩ := h
  rintro k (rfl | ⟨A', n', c', hb', hk⟩)
  · exact ⟨h1, lt_of_block hb⟩
  · rw [hb] at hb'
    simp at hb'
    obtain ⟨rfl, rfl, rfl⟩ := hb'
    exact h2.from_ k hk

theorem Wr.keep (h : Wr w B b zs) (hk : ∀ k, WrS w b k → w'.heap[k]? = w.heap[k]?) : Wr w' B b zs := by
  obtain ⟨A, n, c, hb, h1, h2⟩ := h
  exact ⟨A, n, c, by rw [hk b (.inl rfl)]; exact hb, h1, h2.keep fun g e => hk g (.inr ⟨A, n, c, hb, e⟩)⟩

theorem Wr.below (h : Wr w B b zs) (hb : Below w.heap.size w w') : Wr w' B b zs := h.keep fun k hk => hb.block k (h.owns k hk).2

theorem Wr.drewN (h : Wr w B b zs) (q : Nat) : Wr (w.drewN q) B b zs := h

theorem Wr.mono {B' : Nat} (h : Wr w B b zs) (hB : B' ≤ B) : Wr w B' b zs := by
  obtain ⟨A, n, c, hb, h1, h2⟩ := h
  exact ⟨A, n, c, hb, by omega, h2.mono hB⟩
end

/-- What a Writer's call leaves. -/
def RetWr (w : World) (B b : Nat) (zs : List Int) (e : Ending) (w' : World) : Prop := e = .returned (.pointer (some ⟨b, 0, none⟩)) ∧ Wr w' B b zs ∧ Turned w w' (WrS w b)

theorem u8_ne_wr {w : World} {g b : Nat} {cur cs : Array Value} (h1 : w.heap[g]? = some (.cells cur 5 (0, 0))) (h2 : w.heap[b]? = some (.cells cs 101 (0, 0))) : g ≠ b := by
  rintro rfl
  rw [h1] at h2
  simp at h2

set_option maxHeartbeats 400000 in
theorem add_any (B b : Nat) (zs : List Int) (A' : Option Addr) (n' c' : Nat) (ys : List Int) (w : World) (h : Wr w B b zs) (hr : Row w A' n' (cellsOf .u8 ys)) (hl : zs.length + n' ≤ 140737488355328) :
    Calls Try.prog 93 #[.pointer (some ⟨b, 0, none⟩), .slice A' n' c'] w (RetWr w B b (zs ++ ys)) := by
  obtain ⟨i0, hi, hz0, hz1, hz2⟩ := info_parts Try.u8info
  obtain ⟨A, n, c, hb, h1, h2⟩ := h
  have hlt : b < w.heap.size := lt_of_block hb
  have hBw : B ≤ w.heap.size := by omega
  have hn : n + n' ≤ 140737488355328 := by have := h2.len; omega
  have hne : ∀ g, blockOf A = some g → some b ≠ blockOf A := fun g e => by
    rcases h2.shape with ⟨rfl, _⟩ | ⟨g', cur, rfl, _, _, hh, _⟩
    · simp [blockOf]
    · simp only [blockOf, Option.map_some]
      intro he
      cases he
      exact u8_ne_wr hh hb rfl
  have hne' : some b ≠ blockOf A := by
    cases hA : blockOf A with
    | none => simp
    | some g => rw [← hA]; exact hne g hA
  have c0 : w.cell? ⟨b, 0, none⟩ = some (.slice A n c) := cell_of_row w b 0 _ 101 (0, 0) hb
  have Hb := Lib.hid hb
  have Hne := Lib.hid hne'
  clear hb hne hne'
  go_enter Try.func93, Try.ntmps93
  go_wp2_with (at_builtin; refine wpList_append_row rfl (.tmp 11) (.tmp 12) _ rfl 5 .u8 B i0 1 Try.underlying32 hi hz0 hz1 hz2 A n c zs rfl h2 A' n' c' ys rfl hr (by omega) (by omega) hBw ?_)
  intro A2 c2 w1 hown1 hg1
  have hb1 : w1.heap[b]? = some (.cells #[.slice A n c] 101 (0, 0)) := by rw [hg1.block b hlt Hne.out]; exact Hb.out
  have c1 : w1.cell? ⟨b, 0, none⟩ = some (.slice A n c) := cell_of_row w1 b 0 _ 101 (0, 0) hb1
  have f1 : w1.frozen? ⟨b, 0, none⟩ = false := by simp [World.frozen?, hb1]
  have hb2 := Lib.hid (set_block hb1 0 (.slice A2 (n + n') c2))
  have hown2 : Hid (OwnB (w1.setCell ⟨b, 0, none⟩ (.slice A2 (n + n') c2)) B A2 (n + n') c2 (zs ++ ys)) := hown1.keep fun g e => Below.heap_setCell _ _ _ _ (by
    rcases hown1.shape with ⟨rfl, _⟩ | ⟨g', cur, rfl, _, _, hh, _⟩
    · simp [blockOf] at e
    · simp [blockOf] at e
      subst e
      exact u8_ne_wr hh hb1)
  have ht : Hid (Turned w (w1.setCell ⟨b, 0, none⟩ (.slice A2 (n + n') c2)) (WrS w b)) := ⟨hg1.os, hg1.tape, hg1.output, by simpa [World.setCell] using hg1.size, fun k hk hs =>
    (Below.heap_setCell w1 _ _ k (fun e => hs (.inl e))).trans (hg1.block k hk (fun e => hs (.inr ⟨A, n, c, Hb.out, e.symm⟩)))⟩
  clear hb1 hown1 hg1 c0
  go_wp2
  go_ret
  exact ⟨rfl, ⟨A2, n + n', c2, hb2.out, h1, hown2.out⟩, ht.out⟩

theorem wput_any (B b : Nat) (zs : List Int) (A' : Option Addr) (n' c' : Nat) (ys : List Int) (w : World) (h : Wr w B b zs) (hr : Row w A' n' (cellsOf .u8 ys)) (hl : zs.length + n' ≤ 140737488355328) :
    Calls Try.prog 52 #[.pointer (some ⟨b, 0, none⟩), .slice A' n' c'] w (RetWr w B b (zs ++ ys)) := by
  go_enter Try.func52, Try.ntmps52
  go_wp2_with fail
  refine (add_any B b zs A' n' c' ys w h hr hl).mono ?_
  rintro e w1 ⟨rfl, h1⟩
  go_wp2
  go_ret
  exact ⟨rfl, h1⟩

/-- A Writer's call behind a new block. -/
theorem RetWr.alloc {w w' : World} {B b : Nat} {zs : List Int} {o : Obj} {e : Ending} (h0 : Wr w B b zs) {ys : List Int} (h : RetWr (w.alloc o) B b ys e w') : RetWr w B b ys e w' := by
  obtain ⟨rfl, h1, h2⟩ := h
  have hal : ∀ k, k < w.heap.size → (w.alloc o).heap[k]? = w.heap[k]? := fun k hk => Below.heap_alloc w o k hk
  refine ⟨rfl, h1, ⟨h2.os, h2.tape, h2.output, Nat.le_trans (by simp) h2.size, fun k hk hs => (h2.block k (by simp; omega) (fun hs' => hs ?_)).trans (hal k hk)⟩⟩
  rcases hs' with rfl | ⟨A, n, c, hb, e⟩
  · exact .inl rfl
  · exact .inr ⟨A, n, c, by rw [← hal b h0.from_.2]; exact hb, e⟩

theorem wu8_any (B b : Nat) (zs : List Int) (x : Int) (w : World) (h : Wr w B b zs) (hl : zs.length ≤ 140737488351232) :
    Calls Try.prog 94 #[.pointer (some ⟨b, 0, none⟩), .int .u8 x] w (RetWr w B b (zs ++ [x])) := by
  have ha := h.below ((Below.refl w.heap.size w).alloc (Nat.le_refl _) (.cells #[.int .u8 x] 5))
  go_enter Try.func94, Try.ntmps94
  go_wp2_with fail
  refine (add_any B b zs _ _ _ [x] _ ha (row_one _ _ _ _) (by omega)).mono ?_
  rintro e w1 hr
  obtain ⟨rfl, h1⟩ := RetWr.alloc h hr
  go_wp2
  go_ret
  exact ⟨rfl, h1⟩

theorem b2_small (x : Int) (x0 : 0 ≤ x) (x1 : x < 65536) : b2 x = [x / 256, x % 256] := by unfold b2; rw [show x / 256 % 256 = x / 256 by omega]

theorem wu16_any (B b : Nat) (zs : List Int) (x : Int) (w : World) (h : Wr w B b zs) (hl : zs.length ≤ 140737488351232) (x0 : 0 ≤ x) (x1 : x < 65536) :
    Calls Try.prog 48 #[.pointer (some ⟨b, 0, none⟩), .int .u16 x] w (RetWr w B b (zs ++ b2 x)) := by
  have ha := h.below ((Below.refl w.heap.size w).alloc (Nat.le_refl _) (.cells #[.int .u8 (x / 256), .int .u8 (x % 256)] 5))
  rw [b2_small x x0 x1]
  go_enter Try.func48, Try.ntmps48
  go_wp2_with fail
  refine (add_any B b zs _ _ _ [x / 256, x % 256] _ ha (row_lit w .u8 5 [x / 256, x % 256] 2 rfl) (by omega)).mono ?_
  rintro e w1 hr
  obtain ⟨rfl, h1⟩ := RetWr.alloc h hr
  go_wp2
  go_ret
  exact ⟨rfl, h1⟩

theorem wi16_any (B b : Nat) (zs : List Int) (x : Int) (w : World) (h : Wr w B b zs) (hl : zs.length ≤ 140737488351232) :
    Calls Try.prog 49 #[.pointer (some ⟨b, 0, none⟩), .int .i16 x] w (RetWr w B b (zs ++ b2 (x % 65536))) := by
  go_enter Try.func49, Try.ntmps49
  go_wp2_with fail
  refine (wu16_any B b zs (x % 65536) _ h hl (by omega) (by omega)).mono ?_
  rintro e w1 ⟨rfl, h1⟩
  go_wp2
  go_ret
  exact ⟨rfl, h1⟩

theorem b4_small (x : Int) (x0 : 0 ≤ x) (x1 : x < 4294967296) : b4 x = [x / 16777216, x / 65536 % 256, x / 256 % 256, x % 256] := by
  unfold b4 b2
  simp only [List.cons_append, List.nil_append]
  rw [show x / 65536 / 256 % 256 = x / 16777216 by omega, show x % 65536 / 256 % 256 = x / 256 % 256 by omega, show x % 65536 % 256 = x % 256 by omega]

theorem done_any (B b : Nat) (zs : List Int) (w : World) (h : Wr w B b zs) (hl : zs.length ≤ 140737488351232) :
    Calls Try.prog 53 #[.pointer (some ⟨b, 0, none⟩)] w (RetB w zs) := by
  obtain ⟨A, n, c, hb, h1, h2⟩ := h
  have c0 : w.cell? ⟨b, 0, none⟩ = some (.slice A n c) := cell_of_row w b 0 _ 101 (0, 0) hb
  have hn : n ≤ 140737488351232 := by have := h2.len; omega
  clear hb hl
  go_enter Try.func53, Try.ntmps53
  go_wp2_with fail
  refine (clone_any _ _ _ _ _ h2.row hn).mono ?_
  rintro e w1 ⟨A1, n1, c1, rfl, hr⟩
  go_wp2
  go_ret
  exact ⟨A1, n1, c1, rfl, hr⟩

/-- What is older than a Writer stands as it was. -/
theorem Wr.older {w1 wa wb : World} {B0 B b : Nat} {zs : List Int} (h : Wr wa B b zs) (hk : Below B0 w1 wa) (hB : B0 ≤ B) (ht : Turned wa wb (WrS wa b)) : Below B0 w1 wb :=
  ht.below hk (by have := h.from_; omega) (fun k hs => by have := (h.owns k hs).1; omega)

/-- A new Writer. -/
theorem wr_new (w : World) : Wr (w.alloc (.cells #[.slice none 0 0] 101)) w.heap.size w.heap.size [] :=
  ⟨none, 0, 0, heap_alloc_new _ _, Nat.le_refl _, Own.nil _ _ _ _⟩

end Go.Proofs.Ytgafjieghckimaa

/- The law WordWrites. -/
namespace Go.Proofs.Ytgafjieghckimaa
open Go.RowKit
set_option linter.unusedVariables false

/-- Asked for as many bytes as a known beginning has. -/
theorem ask_front (l r : List Int) (a : Int) (bad : Bool) (m : Nat) (hm : l.length = m) : told (l ++ r) m = l ∧ rest (l ++ r) m = r ∧ gone (l ++ r) a m = a + m ∧ badn (l ++ r) bad m = bad := by
  subst hm
  have h : l.length ≤ (l ++ r).length := by simp
  refine ⟨?_, ?_, ?_, ?_⟩ <;> simp [told, rest, gone, badn]

theorem be_b2 (x : Int) (h0 : 0 ≤ x) (h1 : x < 65536) : be (b2 x) = x := by
  simp only [be, b2, List.foldl_cons, List.foldl_nil]
  omega
theorem be_b4 (x : Int) (h0 : 0 ≤ x) (h1 : x < 4294967296) : be (b4 x) = x := by
  simp only [be, b4, b2, List.cons_append, List.nil_append, List.foldl_cons, List.foldl_nil]
  omega
theorem b2_bytes (x : Int) : Bytes (b2 x) := by intro y hy; simp [b2] at hy; omega
theorem b4_bytes (x : Int) : Bytes (b4 x) := by intro y hy; simp [b4, b2] at hy; omega
theorem bytes_append {a b : List Int} (ha : Bytes a) (hb : Bytes b) : Bytes (a ++ b) := fun x hx => (List.mem_append.1 hx).elim (ha x) (hb x)

end Go.Proofs.Ytgafjieghckimaa

/- Numbers at places of a list of bytes, and the bytes that they have: plain lists. -/
namespace Go.Proofs.Ytgafjieghckimaa
set_option linter.unusedVariables false

theorem win_join (zs : List Int) (i m k : Nat) : (zs.drop i).take m ++ (zs.drop (i + m)).take k = (zs.drop i).take (m + k) := by
  rw [List.take_add, List.drop_drop]

theorem drop2 {zs : List Int} {i : Nat} (h : i + 2 ≤ zs.length) : ∃ x y, zs[i]? = some x ∧ zs[i + 1]? = some y ∧ (zs.drop i).take 2 = [x, y] ∧ n2at zs i = x * 256 + y := by
  refine ⟨zs[i], zs[i + 1], List.getElem?_eq_getElem (by omega), List.getElem?_eq_getElem (by omega), ?_, ?_⟩
  · rw [List.drop_eq_getElem_cons (by omega), List.drop_eq_getElem_cons (by omega)]
    rfl
  · unfold n2at num told
    rw [if_pos (by rw [List.length_drop]; omega), List.drop_eq_getElem_cons (by omega), List.drop_eq_getElem_cons (by omega)]
    show (0 * 256 + _) * 256 + _ = _
    omega

theorem b2_win {zs : List Int} (hB : Bytes zs) {i : Nat} (h : i + 2 ≤ zs.length) : b2 (n2at zs i) = (zs.drop i).take 2 := by
  obtain ⟨x, y, hx, hy, e, en⟩ := drop2 h
  have := hB x (List.mem_of_getElem? hx)
  have := hB y (List.mem_of_getElem? hy)
  rw [e, en]
  unfold b2
  rw [show (x * 256 + y) / 256 % 256 = x by omega, show (x * 256 + y) % 256 = y by omega]

theorem n2at_lt {zs : List Int} (hB : Bytes zs) (i : Nat) : 0 ≤ n2at zs i ∧ n2at zs i < 65536 := by
  have := num_lt (drop_bytes hB i) 2 2 (by omega)
  simp only [Int.pow_succ, Int.pow_zero, Int.one_mul, Int.reduceMul] at this
  exact this
theorem n4at_lt {zs : List Int} (hB : Bytes zs) (i : Nat) : 0 ≤ n4at zs i ∧ n4at zs i < 4294967296 := by
  have := num_lt (drop_bytes hB i) 4 4 (by omega)
  simp only [Int.pow_succ, Int.pow_zero, Int.one_mul, Int.reduceMul] at this
  exact this

theorem n4at_two {zs : List Int} {i : Nat} (h : i + 4 ≤ zs.length) : n4at zs i = n2at zs i * 65536 + n2at zs (i + 2) := by
  obtain ⟨x, y, hx, hy, e, en⟩ := drop2 (zs := zs) (i := i) (by omega)
  obtain ⟨x', y', hx', hy', e', en'⟩ := drop2 (zs := zs) (i := i + 2) (by omega)
  rw [en, en']
  unfold n4at num told
  rw [if_pos (by rw [List.length_drop]; omega), show 4 = 2 + 2 from rfl, ← win_join, e, e']
  simp only [be, List.cons_append, List.nil_append, List.foldl_cons, List.foldl_nil]
  omega

theorem b4_win {zs : List Int} (hB : Bytes zs) {i : Nat} (h : i + 4 ≤ zs.length) : b4 (n4at zs i) = (zs.drop i).take 4 := by
  have h1 := n2at_lt hB i
  have h2 := n2at_lt hB (i + 2)
  rw [n4at_two h]
  unfold b4
  rw [show (n2at zs i * 65536 + n2at zs (i + 2)) / 65536 = n2at zs i by omega, show (n2at zs i * 65536 + n2at zs (i + 2)) % 65536 = n2at zs (i + 2) by omega, b2_win hB (by omega), b2_win hB (by omega), win_join]

theorem n2at_of {zs : List Int} {i : Nat} {x : Int} (h : (zs.drop i).take 2 = b2 x) (h0 : 0 ≤ x) (h1 : x < 65536) : n2at zs i = x := by
  have hl := congrArg List.length h
  rw [List.length_take] at hl
  unfold n2at num told
  rw [if_pos (by rw [show (b2 x).length = 2 from rfl] at hl; omega), h]
  exact be_b2 x h0 h1
theorem n4at_of {zs : List Int} {i : Nat} {x : Int} (h : (zs.drop i).take 4 = b4 x) (h0 : 0 ≤ x) (h1 : x < 4294967296) : n4at zs i = x := by
  have hl := congrArg List.length h
  rw [List.length_take] at hl
  unfold n4at num told
  rw [if_pos (by rw [show (b4 x).length = 4 from rfl] at hl; omega), h]
  exact be_b4 x h0 h1

theorem n2v_at (zs : List Int) (i : Nat) : n2v zs i = n2at zs i := by
  by_cases h : i + 2 ≤ zs.length
  · obtain ⟨x, y, hx, hy, e, en⟩ := drop2 h
    unfold n2v
    rw [hx, hy, en]
    show 256 * x + y = _
    omega
  · unfold n2v n2at num told
    rw [if_neg (by rw [List.length_drop]; omega), List.getElem?_eq_none (show zs.length ≤ i + 1 by omega)]
    cases zs[i]? <;> rfl
theorem n4v_at (zs : List Int) (i : Nat) : n4v zs i = n4at zs i := by
  unfold n4v
  by_cases h : i + 4 ≤ zs.length
  · rw [if_pos h, n2v_at, n2v_at, n4at_two h]
    omega
  · rw [if_neg h]
    unfold n4at num told
    rw [if_neg (by rw [List.length_drop]; omega)]
    rfl

end Go.Proofs.Ytgafjieghckimaa
