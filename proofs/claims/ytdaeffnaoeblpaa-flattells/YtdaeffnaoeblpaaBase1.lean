/- What the laws of this seat lean on: Mem Ref Ints BsOpen Structs FlA Ref2 Word. -/
import Derived.Test.YtdaeffnaoeblpaaChecked
import Derived.WalkKit
import Derived.Below
import Derived.Lib.Hide
import Derived.Deep.Draws
import Derived.KernelRfl
import Derived.WalkSpells
import Derived.OpenShut
import Derived.WalkLawsBesides
import Derived.BigQuiet
import Derived.ProofKit
import Derived.ChangeSame
import Derived.OwnWalk
import Derived.Laws.MakeOwn
import Derived.Deep.Slices
import Derived.Deep.QuietTactic
import Derived.Shelf.Abstract
import Derived.Deep.DeepCutAuto

/- Words for memory of this seat's own proofs: a slice that reads as cells, a fresh slice, frames by blocks. Nothing here speaks of the program but its table of types. -/
namespace Go.Proofs.Ytdaeffnaoeblpaa
open Go.RowKit
set_option linter.unusedVariables false

/-- The slice of n cells that begins at A shows the cells xs (of no cells nothing is asked of A). -/
def Row (w : World) (A : Option Addr) (n : Nat) (xs : List Value) : Prop :=
  xs.length = n ∧ (0 < n → ∃ g off, A = some ⟨g, off, none⟩ ∧ g < w.heap.size ∧ ∀ j u, xs[j]? = some u → w.cell? ⟨g, off + j, none⟩ = some u)

/-- In which block a slice begins. -/
def blockOf (A : Option Addr) : Option Nat := A.map (·.block)

section
variable {w w' : World} {A : Option Addr} {n : Nat} {xs : List Value}

theorem Row.empty (w : World) (A : Option Addr) : Row w A 0 [] := ⟨rfl, fun h => absurd h (by omega)⟩

theorem Row.at (h : Row w A n xs) {j : Nat} {u : Value} (hj : xs[j]? = some u) :
    ∃ g off, A = some ⟨g, off, none⟩ ∧ g < w.heap.size ∧ w.cell? ⟨g, off + j, none⟩ = some u := by
  have hl := (List.getElem?_eq_some_iff.1 hj).1
  obtain ⟨g, off, e, hg, hc⟩ := h.2 (by have := h.1; omega)
  exact ⟨g, off, e, hg, hc j u hj⟩

theorem Row.keep (h : Row w A n xs) (hs : w.heap.size ≤ w'.heap.size) (hk : ∀ g, blockOf A = some g → g < w.heap.size → w'.heap[g]? = w.heap[g]?) : Row w' A n xs :=
  ⟨h.1, fun hne => by
    obtain ⟨g, off, rfl, hg, hc⟩ := h.2 hne
    exact ⟨g, off, rfl, by omega, fun j u hu => (World.cell?_of_block (w := w) (hk g rfl hg)).trans (hc j u hu)⟩⟩

theorem Row.below (h : Row w A n xs) (hb : Below w.heap.size w w') : Row w' A n xs := h.keep hb.size fun g _ hg => hb.block g hg

theorem Row.belowAt {B : Nat} (h : Row w A n xs) (hb : Below B w w') (hA : ∀ g, blockOf A = some g → g < B) : Row w' A n xs := h.keep hb.size fun g e _ => hb.block g (hA g e)

theorem Row.grown {row : Option Nat} (h : Row w A n xs) (hb : w.grownBy w' row) (hne : ∀ g, blockOf A = some g → some g ≠ row) : Row w' A n xs :=
  h.keep hb.size fun g e hg => hb.block g hg (hne g e)

/-- What was there is not what is new. -/
theorem Row.ne (h : Row w A n xs) {r : Nat} (hr : w.heap.size ≤ r) : 0 < n → blockOf A ≠ some r := fun hn => by
  obtain ⟨g, off, rfl, hg, _⟩ := h.2 hn
  simp only [blockOf, Option.map_some]
  intro e
  cases e
  omega

theorem Row.ask {r : Nat} (h : Row w A n xs) (hb : w.grownBy w' (some r)) (hne : 0 < n → blockOf A ≠ some r) : Row w' A n xs :=
  ⟨h.1, fun hn => by
    obtain ⟨g, off, rfl, hg, hc⟩ := h.2 hn
    have hk := hb.block g hg (fun e => hne hn (by rw [← e]; rfl))
    exact ⟨g, off, rfl, Nat.lt_of_lt_of_le hg hb.size, fun j u hu => (World.cell?_of_block (w := w) hk).trans (hc j u hu)⟩⟩

theorem Row.take (h : Row w A n xs) {k : Nat} (hk : k ≤ n) : Row w A k (xs.take k) :=
  ⟨by rw [List.length_take, h.1]; omega, fun hne => by
    obtain ⟨g, off, e, hg, hc⟩ := h.2 (by omega)
    exact ⟨g, off, e, hg, fun j u hu => hc j u (by rw [List.getElem?_take] at hu; split at hu; exact hu; cases hu)⟩⟩

theorem Row.drew (h : Row w A n xs) : Row w.drew A n xs := h
theorem Row.drewN (h : Row w A n xs) (q : Nat) : Row (w.drewN q) A n xs := h

/-- 's[k:]', the address moved on. -/
theorem Row.drop (h : Row w A n xs) (k : Nat) : Row w (A.map (·.add k)) (n - k) (xs.drop k) :=
  ⟨by rw [List.length_drop, h.1], fun hne => by
    obtain ⟨g, off, rfl, hg, hc⟩ := h.2 (by omega)
    refine ⟨g, off + k, by simp [Addr.add_lit], hg, fun j u hu => ?_⟩
    rw [Nat.add_assoc]
    exact hc _ u (by rw [← hu, List.getElem?_drop])⟩

theorem blockOf_add (A : Option Addr) (k : Nat) : blockOf (A.map (·.add k)) = blockOf A := by
  cases A with
  | none => rfl
  | some a => simp only [blockOf, Option.map_some]; congr 1; unfold Addr.add; split <;> rfl
end

/-- Numbers as cells. -/
def cellsOf (k : IntKind) (zs : List Int) : List Value := zs.map (Value.int k)

theorem cellsOf_get {k : IntKind} {zs : List Int} {j : Nat} {x : Int} (h : zs[j]? = some x) : (cellsOf k zs)[j]? = some (.int k x) := by simp [cellsOf, h]
theorem cellsOf_take (k : IntKind) (zs : List Int) (n : Nat) : (cellsOf k zs).take n = cellsOf k (zs.take n) := by simp [cellsOf]
theorem cellsOf_drop (k : IntKind) (zs : List Int) (n : Nat) : (cellsOf k zs).drop n = cellsOf k (zs.drop n) := by simp [cellsOf]
theorem cellsOf_length (k : IntKind) (zs : List Int) : (cellsOf k zs).length = zs.length := by simp [cellsOf]
theorem cellsOf_append (k : IntKind) (a b : List Int) : cellsOf k a ++ cellsOf k b = cellsOf k (a ++ b) := by simp [cellsOf]
theorem cellsOf_one (k : IntKind) (zs : List Int) : ∀ u ∈ cellsOf k zs, u.oneCell' = true := ints_oneCell k zs

theorem Row.len {w : World} {A : Option Addr} {n : Nat} {k : IntKind} {zs : List Int} (h : Row w A n (cellsOf k zs)) : zs.length = n := by rw [← cellsOf_length k]; exact h.1

/-- One number in a block of its own (what 'append(out, x)' lays first). -/
theorem row_one (w : World) (k : IntKind) (x : Int) (t : TypeId) : Row (w.alloc (.cells #[.int k x] t)) (some ⟨w.heap.size, 0, none⟩) 1 (cellsOf k [x]) :=
  ⟨rfl, fun _ => ⟨w.heap.size, 0, rfl, by simp, fun j u hu => by
    match j, hu with
    | 0, hu => simp [cellsOf] at hu; subst hu; simp⟩⟩

/-- A slice of numbers in memory that was made from block B on: nil, or at the head of a block of its own (its elements' type: t). -/
def Own (t : TypeId) (k : IntKind) (w : World) (B : Nat) (A : Option Addr) (n c : Nat) (zs : List Int) : Prop := w.ownsRow B t 1 (.slice A n c) n (cellsOf k zs)

section
variable {t : TypeId} {k : IntKind} {w w' : World} {B : Nat} {A : Option Addr} {n c : Nat} {zs : List Int}

theorem Own.len (h : Own t k w B A n c zs) : zs.length = n := by
  have := h.1
  rw [cellsOf_length] at this
  omega

theorem Own.shape (h : Own t k w B A n c zs) :
    (A = none ∧ zs = [] ∧ n = 0 ∧ c = 0) ∨ ∃ g cur, A = some ⟨g, 0, none⟩ ∧ B ≤ g ∧ g < w.heap.size ∧ w.heap[g]? = some (.cells cur t (0, 0)) ∧ n ≤ c ∧ c ≤ maxLen ∧ cur.size = c ∧ cur.toList.take n = cellsOf k zs := by
  have hl := h.len
  rcases h.2 with ⟨e, h0⟩ | ⟨g, cap, cur, e, hB, hh, h1, h2, h3, h4⟩
  · injection e with e1 _ e3
    exact .inl ⟨e1, List.eq_nil_of_length_eq_zero (by omega), h0, e3⟩
  · injection e with e1 _ e3
    subst e1 e3
    exact .inr ⟨g, cur, rfl, hB, lt_of_block hh, hh, h1, h2, by omega, by simpa using h4⟩

theorem Own.nil (t : TypeId) (k : IntKind) (w : World) (B : Nat) : Own t k w B none 0 0 [] := World.ownsRow_nil _ _ _ _

theorem Own.cap (h : Own t k w B A n c zs) : n ≤ c := by
  rcases h.shape with ⟨_, _, rfl, _⟩ | ⟨_, _, _, _, _, _, h1, _⟩
  · simp
  · exact h1

theorem Own.row (h : Own t k w B A n c zs) : Row w A n (cellsOf k zs) := by
  refine ⟨by rw [cellsOf_length]; exact h.len, fun hn => ?_⟩
  rcases h.shape with ⟨_, _, rfl, _⟩ | ⟨g, cur, rfl, _, hg, hh, _, _, _, h4⟩
  · exact absurd hn (by omega)
  · refine ⟨g, 0, rfl, hg, fun j u hu => ?_⟩
    rw [Nat.zero_add, cell_of_row w g j cur t (0, 0) hh]
    rw [← h4, List.getElem?_take] at hu
    split at hu
    · simpa using hu
    · cases hu

theorem Own.from_ (h : Own t k w B A n c zs) : ∀ g, blockOf A = some g → B ≤ g ∧ g < w.heap.size := by
  intro g hg
  rcases h.shape with ⟨rfl, _⟩ | ⟨g', cur, rfl, h1, h2, _⟩
  · simp [blockOf] at hg
  · simp [blockOf] at hg
    subst hg
    exact ⟨h1, h2⟩

theorem Own.keep (h : Own t k w B A n c zs) (hk : ∀ g, blockOf A = some g → w'.heap[g]? = w.heap[g]?) : Own t k w' B A n c zs := by
  refine ⟨h.1, ?_⟩
  rcases h.2 with h2 | ⟨g, cap, cur, e, hB, hh, r⟩
  · exact .inl h2
  · refine .inr ⟨g, cap, cur, e, hB, ?_, r⟩
    injection e with e1
    rw [hk g (by rw [e1]; rfl)]
    exact hh

theorem Own.grown {row : Option Nat} (h : Own t k w B A n c zs) (hb : w.grownBy w' row) (hne : ∀ g, blockOf A = some g → some g ≠ row) : Own t k w' B A n c zs :=
  h.keep fun g e => hb.block g (h.from_ g e).2 (hne g e)

theorem Own.below (h : Own t k w B A n c zs) (hb : Below w.heap.size w w') : Own t k w' B A n c zs := h.keep fun g e => hb.block g (h.from_ g e).2

theorem Own.drewN (h : Own t k w B A n c zs) (q : Nat) : Own t k (w.drewN q) B A n c zs := h

theorem Own.alloc (h : Own t k w B A n c zs) (o : Obj) : Own t k (w.alloc o) B A n c zs := h.below ((Below.refl _ _).alloc (Nat.le_refl _) o)

theorem Own.mono {B' : Nat} (h : Own t k w B A n c zs) (hB : B' ≤ B) : Own t k w B' A n c zs := by
  refine ⟨h.1, ?_⟩
  rcases h.2 with h2 | ⟨g, cap, cur, e, hg, r⟩
  · exact .inl h2
  · exact .inr ⟨g, cap, cur, e, by omega, r⟩

/-- Behind an append onto a fresh slice the value has the shape of a slice again. -/
theorem own_shape {v : Value} (h : w.ownsRow B t 1 v n (cellsOf k zs)) : ∃ A c, v = .slice A n c ∧ Own t k w B A n c zs := by
  rcases h.2 with ⟨e, h0⟩ | ⟨g, cap, cur, e, r⟩
  · subst h0 e
    exact ⟨none, 0, rfl, h⟩
  · subst e
    exact ⟨_, cap, rfl, h⟩
end

/-- What a call that answers fresh numbers and turns nothing old leaves. -/
def RetN (t : TypeId) (k : IntKind) (w : World) (zs : List Int) (e : Ending) (w' : World) : Prop := ∃ A n c, e = .returned (.slice A n c) ∧ Own t k w' w.heap.size A n c zs ∧ Below w.heap.size w w'
abbrev RetB := RetN 5 .u8
abbrev OwnB := Own 5 .u8

/-- What a call that computes, draws and makes memory, and turns nothing old, leaves. -/
def Ret (w : World) (v : Value) (e : Ending) (w' : World) : Prop := e = .returned v ∧ Below w.heap.size w w'

theorem below_of_grown {w w' : World} {row : Option Nat} {B : Nat} (hg : w.grownBy w' row) (hB : B ≤ w.heap.size) (hr : ∀ k, row = some k → B ≤ k) : Below B w w' :=
  (Below.refl _ _).grown hg hB hr

theorem grown_of_below {w w' : World} (h : Below w.heap.size w w') (row : Option Nat) : w.grownBy w' row := ⟨h.os, h.tape, h.output, h.size, fun i hi _ => h.block i hi⟩

theorem grown_trans {a b c : World} {row : Option Nat} (h : a.grownBy b row) (k : b.grownBy c row) : a.grownBy c row :=
  ⟨k.os.trans h.os, k.tape.trans h.tape, k.output.trans h.output, Nat.le_trans h.size k.size, fun i hi hne => (k.block i (Nat.lt_of_lt_of_le hi h.size) hne).trans (h.block i hi hne)⟩

theorem below_drewN {B : Nat} {a w : World} (h : Below B a w) (n : Nat) : Below B a (w.drewN n) := ⟨h.os, h.tape, h.output, h.size, h.block⟩

/-- The run of an append of a slice that is read ('append(out, xs...)') onto a fresh slice of numbers: the source nil or not. -/
theorem run_append_row {P : Program} (w : World) (t : TypeId) (k : IntKind) (base T ty : Nat) (i : TypeInfo) (b : Nat) (ht : P.underlying T = some (.slice t)) (hi : P.info? t = some i) (hz : i.zero = some (.int k 0)) (hs : i.size = 1) (hby : i.bytes = b)
    (A : Option Addr) (n c : Nat) (zs : List Int) (hown : Own t k w base A n c zs) (A' : Option Addr) (n' c' : Nat) (ys : List Int) (hr : Row w A' n' (cellsOf k ys))
    (hb : (n + n') * b ≤ 140737488355328) (hm : n + n' ≤ 140737488355328) (hbase : base ≤ w.heap.size) :
    ∃ A2 c2 w', (Builtin.append_ #[T, T] ty #[.slice A n c, .slice A' n' c']).run P w = .ok (.slice A2 (n + n') c2) w' ∧ Own t k w' base A2 (n + n') c2 (zs ++ ys) ∧ w.grownBy w' (blockOf A) := by
  have hbo : (Value.slice A n c).ownBlock = blockOf A := by
    rcases hown.shape with ⟨rfl, _⟩ | ⟨g, cur, rfl, _⟩ <;> rfl
  have hyl := hr.len
  by_cases hy : n' = 0
  · obtain rfl : ys = [] := List.eq_nil_of_length_eq_zero (by omega)
    subst hy
    refine ⟨A, c, w, ?_, by simpa using hown, World.grownBy.refl w _⟩
    rcases hown.shape with ⟨rfl, rfl, rfl, rfl⟩ | ⟨g, cur, rfl, _, _, _, hle, _⟩
    · cases A' <;> simp [Builtin.append_, run_underlying ht, sizeOf, typeInfo, hi, Builtin.lenOf, Builtin.firstCells, loadCells, loadCellsFrom]
    · cases A' <;> simp [Builtin.append_, run_underlying ht, sizeOf, typeInfo, hi, Builtin.lenOf, Builtin.firstCells, loadCells, loadCellsFrom, hle, storeCells]
  · obtain ⟨g, off, rfl, hg, hc⟩ := hr.2 (by omega)
    obtain ⟨v', w', hrun, h2, h3, _⟩ := run_append_own (P := P) w base T ty t i (.int k 0) 1 b ht hi hz hs hby rfl (by omega) (.slice A n c) n (cellsOf k zs) hown ⟨g, off, none⟩ n' c' (cellsOf k ys) (by rw [cellsOf_length]; omega)
      (fun j u hu => by rw [Addr.add_lit]; exact hc j u hu) (cellsOf_one _ _) (by simp only [maxLen]; omega) hb hbase
    rw [cellsOf_append] at h2
    obtain ⟨A2, c2, rfl, h2'⟩ := own_shape h2
    exact ⟨A2, c2, w', hrun, h2', by rw [← hbo]; exact h3⟩

/-- The same at an operation of the walk. -/
theorem wpList_append_row {P : Program} {w : World} {ops : Array Oper} {rest : List Oper} {o : Oper} {a : Act} {Q : Exit → Act → World → Prop} (hgd : o.guard = none) (s x : Operand) (T : TypeId)
    (ho : o.op = .call { callee := .builtin .append, args := #[s, x], argTypes := #[T, T] }) (t : TypeId) (k : IntKind)
    (base : Nat) (i : TypeInfo) (b : Nat) (ht : P.underlying T = some (.slice t)) (hi : P.info? t = some i) (hz : i.zero = some (.int k 0)) (hs : i.size = 1) (hby : i.bytes = b)
    (A : Option Addr) (n c : Nat) (zs : List Int) (hes : a.eval s = .slice A n c) (hown : Own t k w base A n c zs) (A' : Option Addr) (n' c' : Nat) (ys : List Int) (hex : a.eval x = .slice A' n' c') (hr : Row w A' n' (cellsOf k ys))
    (hb : (n + n') * b ≤ 140737488355328) (hm : n + n' ≤ 140737488355328) (hbase : base ≤ w.heap.size)
    (h : ∀ A2 c2 w', Own t k w' base A2 (n + n') c2 (zs ++ ys) → w.grownBy w' (blockOf A) → wpList P ops Q rest (a.put o.dst (.slice A2 (n + n') c2)) w') : wpList P ops Q (o :: rest) a w := by
  refine wpList_plain hgd fun _ hK => ?_
  obtain ⟨A2, c2, w', hrun, h2, h3⟩ := run_append_row (P := P) w t k base T o.type i b ht hi hz hs hby A n c zs hown A' n' c' ys hr hb hm hbase
  unfold Oper.wp execOp
  simp only [ho, resolve, invoke, builtin, Sem.run_bind, Sem.run_pure, Result.andThen_ok, List.map_toArray, List.map_cons, List.map_nil, hes, hex, hrun]
  exact hK _ _ (h A2 c2 w' h2 h3)

theorem Try.u8info : (Try.prog.info? 5).map (fun i => (i.zero, i.size, i.bytes)) = some (some (.int .u8 0), 1, 1) := by kernel_rfl

/-- From what the frame of a law's proof says of a slice of numbers that came in. -/
theorem row_of {k : IntKind} {w : World} {a : Option Addr} {len cap : Nat} {zs : List Int}
    (h : (a = none ∧ len = 0 ∧ cap = 0 ∧ zs = []) ∨ ∃ x, a = some x ∧ len ≤ cap ∧ cap ≤ maxLen ∧ zs.length = cap ∧ (∀ i, i < zs.length → w.cell? (x.add i) = some (.int k (zs.getD i 0))) ∧ ∀ n ∈ zs, (Lit.int k n).wf = true) :
    Row w a len (cellsOf k (zs.take len)) ∧ len ≤ 9223372036854775807 ∧ ∀ n ∈ zs.take len, (Lit.int k n).wf = true := by
  rcases h with ⟨rfl, rfl, rfl, rfl⟩ | ⟨x, rfl, hl, hm, hz, hc, hw⟩
  · exact ⟨Row.empty _ _, by omega, fun n hn => by cases hn⟩
  · simp only [maxLen] at hm
    refine ⟨⟨by rw [cellsOf_length, List.length_take]; omega, fun hn => ?_⟩, by omega, fun n hn => hw n (List.mem_of_mem_take hn)⟩
    obtain ⟨b, off, rfl, hc'⟩ := ints_at hc (by omega)
    have h0 := hc' 0 (by omega)
    refine ⟨b, off, rfl, ?_, fun j u hu => ?_⟩
    · rcases Nat.lt_or_ge b w.heap.size with hlt | hge
      · exact hlt
      · simp [World.cell?, Array.getElem?_eq_none hge] at h0
    · simp only [cellsOf, List.getElem?_map, List.getElem?_take] at hu
      split at hu
      · rw [hc' j (by omega)]
        rw [List.getElem?_eq_getElem (by omega)] at hu
        rw [List.getD_eq_getElem?_getD, List.getElem?_eq_getElem (by omega)]
        simpa using hu
      · simp at hu

/-- All are bytes. -/
def Bytes (zs : List Int) : Prop := ∀ x ∈ zs, 0 ≤ x ∧ x ≤ 255

theorem bytes_of {zs : List Int} (h : ∀ n ∈ zs, (Lit.int .u8 n).wf = true) : Bytes zs := fun x hx => bounds_u8 (h x hx)

theorem eql_nil_bs (w : World) (a : Option Addr) (n c : Nat) : (binOp .eql 42 (.slice a n c) (.slice none 0 0)).run Try.prog w = .ok (.bool a.isNone) w := Lib.run_eql_slice_nil w 42 5 a n c 0 0 Try.underlying42
theorem neq_nil_bs (w : World) (a : Option Addr) (n c : Nat) : (binOp .neq 42 (.slice a n c) (.slice none 0 0)).run Try.prog w = .ok (.bool (!a.isNone)) w := run_neq_slice_nil_any w 42 5 a n c 0 0 Try.underlying42
attribute [go_sem] eql_nil_bs neq_nil_bs

theorem get_some {zs : List Int} {k : Nat} (h : k < zs.length) : ∃ x, zs[k]? = some x := ⟨zs[k], List.getElem?_eq_getElem h⟩

end Go.Proofs.Ytdaeffnaoeblpaa

/- What the document's own small functions on bytes answer (Cut, Part, Same, Join, B2, B4, S2, N2, N4, Sign), as contracts over this seat's translation. -/
namespace Go.Proofs.Ytdaeffnaoeblpaa
open Go.RowKit
set_option linter.unusedVariables false

theorem take_take_snoc (zs : List Int) (k m : Nat) (x : Int) (hx : zs[k]? = some x) (hm : k < m) : ((zs.take k).take m) ++ [x] = ((zs.take (k + 1)).take m) := by
  have hk : k < zs.length := (List.getElem?_eq_some_iff.1 hx).1
  rw [List.take_take, List.take_take, Nat.min_eq_right (by omega), Nat.min_eq_right (by omega), List.take_add_one, hx]
  rfl

theorem take_take_same (zs : List Int) (k m : Nat) (hm : m ≤ k) : ((zs.take k).take m) = ((zs.take (k + 1)).take m) := by
  rw [List.take_take, List.take_take, Nat.min_eq_left (by omega), Nat.min_eq_left (by omega)]

set_option maxHeartbeats 400000 in
theorem cut_any (A : Option Addr) (n c : Nat) (zs : List Int) (m : Int) (w : World) (hr : Row w A n (cellsOf .u8 zs)) (hl : n ≤ 9223372036854775807) (hm : m ≤ 140737488355327) :
    Calls Try.prog 28 #[.slice A n c, .int .i64 m] w (RetB w (zs.take m.toNat)) := by
  obtain ⟨i0, hi, hz0, hz1, hz2⟩ := info_parts Try.u8info
  have Hn := Lib.hid hr.len
  go_enter Try.func28, Try.ntmps28
  go_wp2
  go_loopw [5, 10] (fun v i wr => ∃ (k : Nat) (A2 : Option Addr) (n2 c2 : Nat), k ≤ n ∧ n2 ≤ k ∧ i = .int .i64 k ∧ v = .slice A2 n2 c2 ∧ OwnB wr w.heap.size A2 n2 c2 ((zs.take k).take m.toNat) ∧ Below w.heap.size w wr) (fun _ i _ => n - (intOf i).toNat)
  case atStart => exact ⟨0, none, 0, 0, Nat.zero_le _, Nat.le_refl _, rfl, rfl, by simpa using Own.nil _ _ _ _, Below.refl _ _⟩
  case round =>
    obtain ⟨k, A2, n2, c2, hk, hn2, rfl, rfl, hown, hbel⟩ := hrel
    by_cases hlt : k < n
    · obtain ⟨x, hx⟩ := get_some (zs := zs) (k := k) (by have := Hn.out; omega)
      obtain ⟨g, off, rfl, hg, hc⟩ := (hr.below hbel).at (cellsOf_get (k := .u8) hx)
      have Hx := Lib.hid hx
      clear hx
      by_cases hkm : (k : Int) < m
      · have hsz : w.heap.size ≤ wr.heap.size := hbel.size
        go_wp2_with (at_builtin; refine wpList_append_row rfl (.tmp 18) (.tmp 20) _ rfl 5 .u8 w.heap.size i0 1 Try.underlying42 hi hz0 hz1 hz2 A2 n2 c2 _ rfl (hown.alloc _) (some ⟨wr.heap.size, 0, none⟩) 1 1 [x] rfl (row_one _ _ _ _) (by omega) (by omega) (by simp; omega) ?_)
        intro A3 c3 w1 hown1 hg1
        rw [take_take_snoc zs k m.toNat x Hx.out (by omega)] at hown1
        have hbel1 : Below w.heap.size w w1 := (hbel.alloc hsz _).grown hg1 (by simp; omega) (fun q e => (hown.from_ q e).1)
        clear hg1 hown hbel hc
        go_wp2
        go_roundw
        case rel => exact ⟨k + 1, A3, n2 + 1, c3, by omega, by omega, by go_num, rfl, hown1, hbel1⟩
        case measure => simp [intOf]; omega
      · rw [take_take_same zs k m.toNat (by omega)] at hown
        go_wp2
        go_roundw
        case rel => exact ⟨k + 1, A2, n2, c2, by omega, by omega, by go_num, rfl, hown, hbel⟩
        case measure => simp [intOf]; omega
    · rw [show zs.take k = zs from List.take_of_length_le (by have := Hn.out; omega)] at hown
      go_wp2
      go_ret
      exact ⟨A2, n2, c2, rfl, hown, hbel⟩

/-- The numbers from a place to another one, as many as there are. -/
def part (zs : List Int) (a b : Nat) : List Int := (zs.take b).drop a

theorem part_snoc (zs : List Int) (a b k : Nat) (x : Int) (hx : zs[k]? = some x) (ha : a ≤ k) (hb : k < b) : part (zs.take k) a b ++ [x] = part (zs.take (k + 1)) a b := by
  have hk : k < zs.length := (List.getElem?_eq_some_iff.1 hx).1
  unfold part
  rw [← take_take_snoc zs k b x hx hb, List.drop_append_of_le_length (by simp; omega)]

theorem part_same_hi (zs : List Int) (a b k : Nat) (hb : b ≤ k) : part (zs.take k) a b = part (zs.take (k + 1)) a b := by
  unfold part
  rw [take_take_same zs k b hb]

theorem part_same_lo (zs : List Int) (a b k : Nat) (ha : k < a) : part (zs.take k) a b = part (zs.take (k + 1)) a b := by
  unfold part
  rw [List.drop_of_length_le (by simp; omega), List.drop_of_length_le (by simp; omega)]

set_option maxHeartbeats 400000 in
theorem part_any (A : Option Addr) (n c : Nat) (zs : List Int) (a b : Int) (w : World) (hr : Row w A n (cellsOf .u8 zs)) (hl : n ≤ 140737488351232) (ha0 : 0 ≤ a) :
    Calls Try.prog 99 #[.slice A n c, .int .i64 a, .int .i64 b] w (RetB w (part zs a.toNat b.toNat)) := by
  obtain ⟨i0, hi, hz0, hz1, hz2⟩ := info_parts Try.u8info
  have Hn := Lib.hid hr.len
  go_enter Try.func99, Try.ntmps99
  go_wp2
  go_loopw [7, 12] (fun v i wr => ∃ (k : Nat) (A2 : Option Addr) (n2 c2 : Nat), k ≤ n ∧ n2 ≤ k ∧ i = .int .i64 k ∧ v = .slice A2 n2 c2 ∧ OwnB wr w.heap.size A2 n2 c2 (part (zs.take k) a.toNat b.toNat) ∧ Below w.heap.size w wr) (fun _ i _ => n - (intOf i).toNat)
  case atStart => exact ⟨0, none, 0, 0, Nat.zero_le _, Nat.le_refl _, rfl, rfl, by simpa [part] using Own.nil _ _ _ _, Below.refl _ _⟩
  case round =>
    obtain ⟨k, A2, n2, c2, hk, hn2, rfl, rfl, hown, hbel⟩ := hrel
    by_cases hlt : k < n
    · obtain ⟨x, hx⟩ := get_some (zs := zs) (k := k) (by have := Hn.out; omega)
      obtain ⟨g, off, rfl, hg, hc⟩ := (hr.below hbel).at (cellsOf_get (k := .u8) hx)
      have Hx := Lib.hid hx
      clear hx
      by_cases ha : a ≤ (k : Int)
      · by_cases hb : (k : Int) < b
        · have hsz : w.heap.size ≤ wr.heap.size := hbel.size
          go_wp2_with (at_builtin; refine wpList_append_row rfl (.tmp 25) (.tmp 27) _ rfl 5 .u8 w.heap.size i0 1 Try.underlying42 hi hz0 hz1 hz2 A2 n2 c2 _ rfl (hown.alloc _) (some ⟨wr.heap.size, 0, none⟩) 1 1 [x] rfl (row_one _ _ _ _) (by omega) (by omega) (by simp; omega) ?_)
          intro A3 c3 w1 hown1 hg1
          rw [part_snoc zs a.toNat b.toNat k x Hx.out (by omega) (by omega)] at hown1
          have hbel1 : Below w.heap.size w w1 := (hbel.alloc hsz _).grown hg1 (by simp; omega) (fun q e => (hown.from_ q e).1)
          clear hg1 hown hbel hc
          go_wp2
          go_roundw
          case rel => exact ⟨k + 1, A3, n2 + 1, c3, by omega, by omega, by go_num, rfl, hown1, hbel1⟩
          case measure => simp [intOf]; omega
        · rw [part_same_hi zs a.toNat b.toNat k (by omega)] at hown
          go_wp2
          go_roundw
          case rel => exact ⟨k + 1, A2, n2, c2, by omega, by omega, by go_num, rfl, hown, hbel⟩
          case measure => simp [intOf]; omega
      · rw [part_same_lo zs a.toNat b.toNat k (by omega)] at hown
        go_wp2
        go_roundw
        case rel => exact ⟨k + 1, A2, n2, c2, by omega, by omega, by go_num, rfl, hown, hbel⟩
        case measure => simp [intOf]; omega
    · rw [show zs.take k = zs from List.take_of_length_le (by have := Hn.out; omega)] at hown
      go_wp2
      go_ret
      exact ⟨A2, n2, c2, rfl, hown, hbel⟩

/-- Are two lists alike? -/
def sameB (a b : List Int) : Bool := decide (a = b)

theorem sameB_refl (l : List Int) : sameB l l = true := by simp [sameB]

/-- What a call that only reads leaves. -/
def Quiet (w : World) (v : Value) (e : Ending) (w' : World) : Prop := e = .returned v ∧ ∃ q, w' = w.drewN q

set_option maxHeartbeats 400000 in
theorem same_any (A B : Option Addr) (n c m d : Nat) (xs ys : List Int) (w : World) (hx : Row w A n (cellsOf .u8 xs)) (hy : Row w B m (cellsOf .u8 ys)) (hl : n ≤ 140737488355328) (hl' : m ≤ 140737488355328) :
    Calls Try.prog 36 #[.slice A n c, .slice B m d] w (Quiet w (.bool (sameB xs ys))) := by
  have Hx := Lib.hid hx.len
  have Hy := Lib.hid hy.len
  by_cases hnm : n = m
  · subst hnm
    have hne : ((n : Int) != (n : Int)) = false := by simp
    go_enter Try.func36, Try.ntmps36
    go_wp2
    clear hne
    go_loopw [13] (fun i wr => ∃ k q : Nat, k ≤ n ∧ i = .int .i64 k ∧ xs.take k = ys.take k ∧ wr = w.drewN q) (fun i _ => n - (intOf i).toNat)
    case atStart => exact ⟨0, 0, Nat.zero_le _, rfl, by simp, rfl⟩
    case round =>
      obtain ⟨k, q, hk, rfl, hp, rfl⟩ := hrel
      have Hp := Lib.hid hp
      clear hp
      by_cases hlt : k < n
      · obtain ⟨x, ex⟩ := get_some (zs := xs) (k := k) (by have := Hx.out; omega)
        obtain ⟨y, ey⟩ := get_some (zs := ys) (k := k) (by have := Hy.out; omega)
        obtain ⟨g, off, rfl, hg, hc⟩ := hx.at (cellsOf_get (k := .u8) ex)
        obtain ⟨g', off', rfl, hg', hc'⟩ := hy.at (cellsOf_get (k := .u8) ey)
        have Ex := Lib.hid ex
        have Ey := Lib.hid ey
        clear ex ey
        by_cases he : x = y
        · have hb : (x != y) = false := by simp [he]
          have He := Lib.hid he
          clear he
          go_wp2
          go_quiet (fail)
          go_wp2
          go_roundw
          case rel => exact ⟨k + 1, _, by omega, by go_num, by rw [List.take_add_one, List.take_add_one, Ex.out, Ey.out, Hp.out, He.out], by first | rfl | (rw [World.drewN_drewN])⟩
          case measure => simp [intOf]; omega
        · have hb : (x != y) = true := by simp [he]
          have He := Lib.hid he
          clear he
          go_wp2
          go_quiet (fail)
          go_wp2
          go_ret
          refine ⟨?_, _, by first | rfl | (rw [World.drewN_drewN])⟩
          have hf : sameB xs ys = false := by
            unfold sameB
            rw [decide_eq_false_iff_not]
            rintro rfl
            have e1 := Ex.out
            rw [Ey.out] at e1
            exact He.out (Option.some.inj e1).symm
          rw [hf]
          rfl
      · go_wp2
        go_ret
        refine ⟨?_, q, rfl⟩
        have hp := Hp.out
        rw [List.take_of_length_le (by have := Hx.out; omega), List.take_of_length_le (by have := Hy.out; omega)] at hp
        have hf : sameB xs ys = true := by unfold sameB; simp [hp]
        rw [hf]
        rfl
  · have hne : ((n : Int) != (m : Int)) = true := by simp; omega
    go_enter Try.func36, Try.ntmps36
    go_wp2
    go_ret
    refine ⟨?_, 0, rfl⟩
    have hf : sameB xs ys = false := by
      unfold sameB
      rw [decide_eq_false_iff_not]
      rintro rfl
      have := Hx.out
      have := Hy.out
      omega
    rw [hf]
    rfl

end Go.Proofs.Ytdaeffnaoeblpaa

/- Words for slices of numbers of any kind: what comes in, make, a store, slices.Equal of ints. -/
namespace Go.Proofs.Ytdaeffnaoeblpaa
open Go.RowKit Go.ChangeShapes Go.WideShapes Go.ChangeAt
set_option linter.unusedVariables false

/-- All are numbers of the kind. -/
def Wf (k : IntKind) (zs : List Int) : Prop := ∀ x ∈ zs, (Lit.int k x).wf = true

set_option maxRecDepth 100000 in
theorem open_nums {T e : TypeId} {k : IntKind} (hT : Try.prog.underlying T = some (.slice e)) (he : Try.prog.underlying e = some (.int k)) (h1 : Try.prog.cellsOf e = 1) {H : Type} {enc : TypeId × Value → H} {W : World} {base : Nat} {v : Value} {d : DataW H} {p : List MemPlace} (hv : Value.okWide Try.prog W .any base T v) (h : DataW.Trod enc Try.prog W 0 (fun _ => true) true T v d p) :
    ∃ A n c zs, v = .slice A n c ∧ Row W A n (cellsOf k zs) ∧ Wf k zs ∧ n ≤ 9223372036854775807 ∧ n ≤ c := by
  obtain ⟨a, len, cap, rfl⟩ := okWide_slice hT hv
  obtain ⟨fuel, hf⟩ := h
  have key : ∃ zs, (a = none ∧ len = 0 ∧ cap = 0 ∧ zs = []) ∨ ∃ x, a = some x ∧ len ≤ cap ∧ cap ≤ maxLen ∧ zs.length = cap ∧ (∀ i, i < zs.length → W.cell? (x.add i) = some (.int k (zs.getD i 0))) ∧ ∀ n ∈ zs, (Lit.int k n).wf = true := by
    rcases open_ints hT he h1 hf with ⟨hcs, _⟩ | ⟨x, l, c, zs, hcs, _, hl, hm, hz, _, hcell, hwz⟩
    · simp [Value.cells] at hcs
      obtain ⟨rfl, rfl, rfl⟩ := hcs
      exact ⟨[], .inl ⟨rfl, rfl, rfl, rfl⟩⟩
    · simp [Value.cells] at hcs
      obtain ⟨rfl, rfl, rfl⟩ := hcs
      exact ⟨zs, .inr ⟨_, rfl, hl, hm, by simpa using hz, hcell, hwz⟩⟩
  obtain ⟨zs, w0⟩ := key
  refine ⟨a, len, cap, zs.take len, rfl, (row_of w0).1, (row_of w0).2.2, (row_of w0).2.1, ?_⟩
  rcases w0 with ⟨_, h1, h2, _⟩ | ⟨_, _, h, _⟩
  · omega
  · exact h

theorem cellsOf_set (k : IntKind) (zs : List Int) (j : Nat) (x : Int) : cellsOf k (zs.set j x) = (cellsOf k zs).set j (.int k x) := by simp [cellsOf, List.map_set]

section
variable {t : TypeId} {k : IntKind} {w : World} {B g n c : Nat} {zs : List Int}

theorem Own.thaw (h : Own t k w B (some ⟨g, 0, none⟩) n c zs) (o : Nat) : w.frozen? ⟨g, o, none⟩ = false := by
  rcases h.shape with ⟨e, _⟩ | ⟨g', cur, e, _, _, hh, _⟩
  · cases e
  · simp only [Option.some.injEq, Addr.mk.injEq, and_true] at e
    subst e
    simp [World.frozen?, hh]

theorem Own.block (h : Own t k w B (some ⟨g, 0, none⟩) n c zs) : ∃ cur, w.heap[g]? = some (.cells cur t (0, 0)) := by
  rcases h.shape with ⟨e, _⟩ | ⟨g', cur, e, _, _, hh, _⟩
  · cases e
  · simp only [Option.some.injEq, Addr.mk.injEq, and_true] at e
    subst e
    exact ⟨cur, hh⟩

/-- A store into a fresh row of numbers. -/
theorem Own.set (h : Own t k w B (some ⟨g, 0, none⟩) n c zs) (j : Nat) (x : Int) : Own t k (w.setCell ⟨g, j, none⟩ (.int k x)) B (some ⟨g, 0, none⟩) n c (zs.set j x) := by
  rcases h.shape with ⟨e, _⟩ | ⟨g', cur, e, hB, hg, hh, h1, h2, h3, h4⟩
  · cases e
  · simp only [Option.some.injEq, Addr.mk.injEq, and_true] at e
    subst e
    have hl := h.len
    refine ⟨by rw [cellsOf_length, List.length_set, hl]; omega, .inr ⟨g, c, cur.setIfInBounds j (.int k x), rfl, hB, ?_, h1, h2, by simpa using h3, ?_⟩⟩
    · simp [World.setCell, Array.getElem?_modify, hh]
    · rw [cellsOf_set, ← h4, Nat.mul_one]
      simp [List.take_set]
end

/-- 'make([]T, n, m)' for numbers. -/
theorem wpList_make_ints {P : Program} {w : World} {ops : Array Oper} {rest : List Oper} {o : Oper} {a : Act} {Q : Exit → Act → World → Prop} (hg : o.guard = none) (l c : Operand) (T : TypeId) (hop : o.op = Op.makeSlice T l c)
    (t : TypeId) (k : IntKind) (B : Nat) (i : TypeInfo) (b : Nat) (h1 : P.underlying T = some (.slice t)) (h2 : P.info? t = some i) (h3 : i.zero = some (.int k 0)) (h4 : i.size = 1) (h5 : i.bytes = b)
    (L C : Int) (n m : Nat) (hl : a.eval l = .int .i64 L) (hc : a.eval c = .int .i64 C) (hL : L = (n : Int)) (hC : C = (m : Int)) (hnm : n ≤ m) (b2 : b * m ≤ 281474976710656) (b3 : m ≤ 9223372036854775807) (b4 : B ≤ w.heap.size)
    (hK : ∀ w', Own t k w' B (some ⟨w.heap.size, 0, none⟩) n m (List.replicate n 0) → w.grownBy w' none → wpList P ops Q rest (a.put o.dst (.slice (some ⟨w.heap.size, 0, none⟩) n m)) w') : wpList P ops Q (o :: rest) a w := by
  refine wpList_plain hg fun K hK' => ?_
  subst hL hC h5
  have hb' : (i.bytes : Int) * (m : Int) ≤ 281474976710656 := by
    have h : ((i.bytes * m : Nat) : Int) ≤ 281474976710656 := by omega
    rwa [Int.natCast_mul] at h
  have hr := run_make (P := P) w T t i (.int k 0) h1 h2 h3 .i64 .i64 n m (by omega) (by omega) hb' (by omega)
  simp only [Int.toNat_natCast, h4, Nat.mul_one] at hr
  unfold Oper.wp
  simp [execOp, hop, hl, hc, hr, Result.andThen]
  refine hK' _ _ (hK _ ?_ (World.grownBy_alloc w _ none))
  refine ⟨by rw [cellsOf_length, List.length_replicate]; omega, .inr ⟨w.heap.size, m, _, rfl, b4, heap_alloc_new w _, hnm, by simp only [maxLen]; omega, by rw [size_madeCells, Nat.mul_one], ?_⟩⟩
  rw [Nat.mul_one]
  apply List.ext_getElem?
  intro j
  by_cases hj : j < n
  · simp [madeCells, cellsOf, hj, Nat.mod_one, Value.cells, show j < m by omega]
  · simp [List.getElem?_take, hj, cellsOf]

theorem Try.i64info : (Try.prog.info? 3).map (fun i => (i.zero, i.size, i.bytes)) = some (some (.int .i64 0), 1, 8) := by kernel_rfl

/-- What a call that tells fresh numbers, or that there are none, leaves. -/
def RetPl (w : World) (ok : Bool) (zs : List Int) (bad good : Value) (e : Ending) (w' : World) : Prop :=
  Below w.heap.size w w' ∧ ((ok = false ∧ e = .returned (.tuple #[.slice none 0 0, bad])) ∨ (ok = true ∧ ∃ A n c, e = .returned (.tuple #[.slice A n c, good]) ∧ Own 3 .i64 w' w.heap.size A n c zs))

end Go.Proofs.Ytdaeffnaoeblpaa

/- Bytes that come in as a slice. -/
namespace Go.Proofs.Ytdaeffnaoeblpaa
open Go.RowKit Go.ChangeShapes Go.WideShapes Go.ChangeAt
set_option linter.unusedVariables false

set_option maxRecDepth 100000 in
theorem open_bs {H : Type} {enc : TypeId × Value → H} {W : World} {base : Nat} {v : Value} {d : DataW H} {p : List MemPlace} (hv : Value.okWide Try.prog W .any base 42 v) (h : DataW.Trod enc Try.prog W 0 (fun _ => true) true 42 v d p) :
    ∃ A n c zs, v = .slice A n c ∧ Row W A n (cellsOf .u8 zs) ∧ Bytes zs ∧ n ≤ 9223372036854775807 := by
  obtain ⟨a, len, cap, rfl⟩ := okWide_slice Try.underlying42 hv
  obtain ⟨fuel, hf⟩ := h
  have key : ∃ zs, (a = none ∧ len = 0 ∧ cap = 0 ∧ zs = []) ∨ ∃ x, a = some x ∧ len ≤ cap ∧ cap ≤ maxLen ∧ zs.length = cap ∧ (∀ i, i < zs.length → W.cell? (x.add i) = some (.int .u8 (zs.getD i 0))) ∧ ∀ n ∈ zs, (Lit.int .u8 n).wf = true := by
    rcases open_ints Try.underlying42 Try.underlying5 (by kernel_rfl) hf with ⟨hcs, _⟩ | ⟨x, l, c, zs, hcs, _, hl, hm, hz, _, hcell, hwz⟩
    · simp [Value.cells] at hcs
      obtain ⟨rfl, rfl, rfl⟩ := hcs
      exact ⟨[], .inl ⟨rfl, rfl, rfl, rfl⟩⟩
    · simp [Value.cells] at hcs
      obtain ⟨rfl, rfl, rfl⟩ := hcs
      exact ⟨zs, .inr ⟨_, rfl, hl, hm, by simpa using hz, hcell, hwz⟩⟩
  obtain ⟨zs, w0⟩ := key
  exact ⟨a, len, cap, zs.take len, rfl, (row_of w0).1, bytes_of (row_of w0).2.2, (row_of w0).2.1⟩

end Go.Proofs.Ytdaeffnaoeblpaa

/- Words for slices of structs: rows of elements of k cells, fresh ones, what appends and stores leave, and what comes in. -/
namespace Go.Proofs.Ytdaeffnaoeblpaa
open Go.RowKit Go.ChangeShapes Go.WideShapes
set_option linter.unusedVariables false

/-- The cells of all elements, one behind the other. -/
def flat {α : Type} (enc : α → List Value) (l : List α) : List Value := l.flatMap enc

section
variable {α : Type} {enc : α → List Value} {k : Nat} (hk : ∀ x, (enc x).length = k)
include hk
theorem flat_length (l : List α) : (flat enc l).length = l.length * k := by
  unfold flat
  induction l with
  | nil => simp
  | cons x l ih => rw [List.flatMap_cons, List.length_append, ih, hk, List.length_cons, Nat.succ_mul]; omega
theorem flat_get {l : List α} {j : Nat} {x : α} (h : l[j]? = some x) {i : Nat} (hi : i < k) : (flat enc l)[j * k + i]? = (enc x)[i]? := by
  induction l generalizing j with
  | nil => simp at h
  | cons y l ih =>
    unfold flat at *
    rw [List.flatMap_cons]
    cases j with
    | zero =>
      simp at h
      subst h
      rw [Nat.zero_mul, Nat.zero_add, List.getElem?_append_left (by rw [hk]; exact hi)]
    | succ j =>
      rw [List.getElem?_append_right (by rw [hk, Nat.succ_mul]; omega), hk, Nat.succ_mul, show j * k + k + i - k = j * k + i by omega]
      exact ih (by simpa using h)
theorem flat_take (l : List α) (n : Nat) : (flat enc l).take (n * k) = flat enc (l.take n) := by
  induction l generalizing n with
  | nil => simp [flat]
  | cons y l ih =>
    cases n with
    | zero => simp [flat]
    | succ n =>
      unfold flat at *
      rw [List.flatMap_cons, List.take_succ_cons, List.flatMap_cons, List.take_append, hk, List.take_of_length_le (by rw [hk, Nat.succ_mul]; omega), Nat.succ_mul, show n * k + k - k = n * k by omega, ih]
theorem flat_drop (l : List α) (n : Nat) : (flat enc l).drop (n * k) = flat enc (l.drop n) := by
  induction l generalizing n with
  | nil => simp [flat]
  | cons y l ih =>
    cases n with
    | zero => simp [flat]
    | succ n =>
      unfold flat at *
      rw [List.flatMap_cons, List.drop_succ_cons, List.drop_append, hk, List.drop_of_length_le (by rw [hk, Nat.succ_mul]; omega), List.nil_append, Nat.succ_mul, show n * k + k - k = n * k by omega, ih]
end
theorem flat_append {α : Type} (enc : α → List Value) (a b : List α) : flat enc a ++ flat enc b = flat enc (a ++ b) := by simp [flat]
theorem flat_nil {α : Type} (enc : α → List Value) : flat enc ([] : List α) = [] := rfl
theorem flat_one {α : Type} (enc : α → List Value) (x : α) : flat enc [x] = enc x := by simp [flat]

/-- A slice of n elements of k cells each, that begins at A, shows the elements l. -/
def RowS {α : Type} (enc : α → List Value) (k : Nat) (w : World) (A : Option Addr) (n : Nat) (l : List α) : Prop := l.length = n ∧ Row w A (n * k) (flat enc l)

section
variable {α : Type} {enc : α → List Value} {k : Nat} {w w' : World} {A : Option Addr} {n : Nat} {l : List α}
theorem RowS.len (h : RowS enc k w A n l) : l.length = n := h.1
theorem RowS.empty (w : World) (A : Option Addr) : RowS enc k w A 0 [] := ⟨rfl, by rw [Nat.zero_mul]; exact Row.empty w A⟩
theorem RowS.below (h : RowS enc k w A n l) (hb : Below w.heap.size w w') : RowS enc k w' A n l := ⟨h.1, h.2.below hb⟩
theorem RowS.drewN (h : RowS enc k w A n l) (q : Nat) : RowS enc k (w.drewN q) A n l := h
theorem RowS.drew (h : RowS enc k w A n l) : RowS enc k w.drew A n l := h
theorem RowS.grown {row : Option Nat} (h : RowS enc k w A n l) (hb : w.grownBy w' row) (hne : ∀ g, blockOf A = some g → some g ≠ row) : RowS enc k w' A n l := ⟨h.1, h.2.grown hb hne⟩
theorem RowS.keep (h : RowS enc k w A n l) (hs : w.heap.size ≤ w'.heap.size) (hk : ∀ g, blockOf A = some g → g < w.heap.size → w'.heap[g]? = w.heap[g]?) : RowS enc k w' A n l := ⟨h.1, h.2.keep hs hk⟩
theorem RowS.take (hk : ∀ x, (enc x).length = k) (h : RowS enc k w A n l) {m : Nat} (hm : m ≤ n) : RowS enc k w A m (l.take m) :=
  ⟨by rw [List.length_take, h.1]; omega, by rw [← flat_take hk]; exact h.2.take (Nat.mul_le_mul_right k hm)⟩
/-- The cells of element j. -/
theorem RowS.at (hk : ∀ x, (enc x).length = k) (hk0 : 0 < k) (h : RowS enc k w A n l) {j : Nat} {x : α} (hj : l[j]? = some x) :
    ∃ g off, A = some ⟨g, off, none⟩ ∧ g < w.heap.size ∧ ∀ i u, (enc x)[i]? = some u → w.cell? ⟨g, off + j * k + i, none⟩ = some u := by
  have hl := (List.getElem?_eq_some_iff.1 hj).1
  have hn : 0 < n * k := Nat.mul_pos (by have := h.1; omega) hk0
  obtain ⟨g, off, e, hg, hc⟩ := h.2.2 hn
  refine ⟨g, off, e, hg, fun i u hu => ?_⟩
  rw [Nat.add_assoc]
  refine hc _ u ?_
  have hi : i < k := by have := (List.getElem?_eq_some_iff.1 hu).1; rw [hk] at this; exact this
  rw [flat_get hk hj hi]
  exact hu
end

/-- A slice of elements in memory that was made from block B on: nil, or at the head of a block of its own. -/
def OwnS {α : Type} (t : TypeId) (enc : α → List Value) (k : Nat) (w : World) (B : Nat) (A : Option Addr) (n c : Nat) (l : List α) : Prop := l.length = n ∧ w.ownsRow B t k (.slice A n c) n (flat enc l)

section
variable {α : Type} {t : TypeId} {enc : α → List Value} {k : Nat} {w w' : World} {B : Nat} {A : Option Addr} {n c : Nat} {l : List α}

theorem OwnS.len (h : OwnS t enc k w B A n c l) : l.length = n := h.1

theorem OwnS.shape (h : OwnS t enc k w B A n c l) :
    (A = none ∧ l = [] ∧ n = 0 ∧ c = 0) ∨ ∃ g cur, A = some ⟨g, 0, none⟩ ∧ B ≤ g ∧ g < w.heap.size ∧ w.heap[g]? = some (.cells cur t (0, 0)) ∧ n ≤ c ∧ c ≤ maxLen ∧ cur.size = c * k ∧ cur.toList.take (n * k) = flat enc l := by
  obtain ⟨hl, h⟩ := h
  rcases h.2 with ⟨e, h0⟩ | ⟨g, cap, cur, e, hB, hh, h1, h2, h3, h4⟩
  · injection e with e1 _ e3
    exact .inl ⟨e1, List.eq_nil_of_length_eq_zero (by omega), h0, e3⟩
  · injection e with e1 _ e3
    subst e1 e3
    exact .inr ⟨g, cur, rfl, hB, lt_of_block hh, hh, h1, h2, h3, h4⟩

theorem OwnS.nil (t : TypeId) (enc : α → List Value) (k : Nat) (w : World) (B : Nat) : OwnS t enc k w B none 0 0 [] := ⟨rfl, World.ownsRow_nil _ _ _ _⟩

theorem OwnS.cap (h : OwnS t enc k w B A n c l) : n ≤ c := by
  rcases h.shape with ⟨_, _, rfl, _⟩ | ⟨_, _, _, _, _, _, h1, _⟩
  · simp
  · exact h1

theorem OwnS.row (hk : ∀ x, (enc x).length = k) (h : OwnS t enc k w B A n c l) : RowS enc k w A n l := by
  refine ⟨h.1, by rw [flat_length hk, h.1], fun hn => ?_⟩
  rcases h.shape with ⟨_, _, rfl, _⟩ | ⟨g, cur, rfl, _, hg, hh, _, _, _, h4⟩
  · rw [Nat.zero_mul] at hn; omega
  · refine ⟨g, 0, rfl, hg, fun j u hu => ?_⟩
    rw [Nat.zero_add, cell_of_row w g j cur t (0, 0) hh]
    rw [← h4, List.getElem?_take] at hu
    split at hu
    · simpa using hu
    · cases hu

theorem OwnS.from_ (h : OwnS t enc k w B A n c l) : ∀ g, blockOf A = some g → B ≤ g ∧ g < w.heap.size := by
  intro g hg
  rcases h.shape with ⟨rfl, _⟩ | ⟨g', cur, rfl, h1, h2, _⟩
  · simp [blockOf] at hg
  · simp [blockOf] at hg
    subst hg
    exact ⟨h1, h2⟩

theorem OwnS.keep (h : OwnS t enc k w B A n c l) (hk : ∀ g, blockOf A = some g → w'.heap[g]? = w.heap[g]?) : OwnS t enc k w' B A n c l := by
  refine ⟨h.1, h.2.1, ?_⟩
  rcases h.2.2 with h2 | ⟨g, cap, cur, e, hB, hh, r⟩
  · exact .inl h2
  · refine .inr ⟨g, cap, cur, e, hB, ?_, r⟩
    injection e with e1
    rw [hk g (by rw [e1]; rfl)]
    exact hh

theorem OwnS.grown {row : Option Nat} (h : OwnS t enc k w B A n c l) (hb : w.grownBy w' row) (hne : ∀ g, blockOf A = some g → some g ≠ row) : OwnS t enc k w' B A n c l :=
  h.keep fun g e => hb.block g (h.from_ g e).2 (hne g e)
theorem OwnS.below (h : OwnS t enc k w B A n c l) (hb : Below w.heap.size w w') : OwnS t enc k w' B A n c l := h.keep fun g e => hb.block g (h.from_ g e).2
theorem OwnS.drewN (h : OwnS t enc k w B A n c l) (q : Nat) : OwnS t enc k (w.drewN q) B A n c l := h
theorem OwnS.drew (h : OwnS t enc k w B A n c l) : OwnS t enc k w.drew B A n c l := h
theorem OwnS.alloc (h : OwnS t enc k w B A n c l) (o : Obj) : OwnS t enc k (w.alloc o) B A n c l := h.below ((Below.refl _ _).alloc (Nat.le_refl _) o)
theorem OwnS.mono {B' : Nat} (h : OwnS t enc k w B A n c l) (hB : B' ≤ B) : OwnS t enc k w B' A n c l := by
  refine ⟨h.1, h.2.1, ?_⟩
  rcases h.2.2 with h2 | ⟨g, cap, cur, e, hg, r⟩
  · exact .inl h2
  · exact .inr ⟨g, cap, cur, e, by omega, r⟩

theorem ownS_shape {v : Value} (hl : l.length = n) (h : w.ownsRow B t k v n (flat enc l)) : ∃ A c, v = .slice A n c ∧ OwnS t enc k w B A n c l := by
  rcases h.2 with ⟨e, h0⟩ | ⟨g, cap, cur, e, r⟩
  · subst h0 e
    exact ⟨none, 0, rfl, hl, h⟩
  · subst e
    exact ⟨_, cap, rfl, hl, h⟩

/-- Fresh elements, written out. -/
theorem ownS_lit (w : World) (B : Nat) (t : TypeId) (enc : α → List Value) (k : Nat) (hk : ∀ x, (enc x).length = k) (l : List α) (cs : Array Value) (hcs : cs = (flat enc l).toArray) (n : Nat) (hn : l.length = n) (hB : B ≤ w.heap.size) (hm : n ≤ maxLen) : OwnS t enc k (w.alloc (.cells cs t)) B (some ⟨w.heap.size, 0, none⟩) n n l := by
  subst hcs
  have := World.ownsRow_lit (base := B) (e := t) (size := k) w (flat enc l).toArray n hB hm (by simp [flat_length hk]; rw [hn])
  exact ⟨hn, by simpa using this⟩

/-- A store of one cell into a fresh row. -/
theorem ownS_setCell {g : Nat} (h : OwnS t enc k w B (some ⟨g, 0, none⟩) n c l) {j : Nat} {u : Value} {l' : List α} (hl : l'.length = l.length) (hf : flat enc l' = (flat enc l).set j u) : OwnS t enc k (w.setCell ⟨g, j, none⟩ u) B (some ⟨g, 0, none⟩) n c l' := by
  rcases h.shape with ⟨e, _⟩ | ⟨g', cur, e, hB, hg, hh, h1, h2, h3, h4⟩
  · cases e
  · simp only [Option.some.injEq, Addr.mk.injEq, and_true] at e
    subst e
    refine ⟨by rw [hl]; exact h.1, by rw [hf, List.length_set]; exact h.2.1, .inr ⟨g, c, cur.setIfInBounds j u, rfl, hB, ?_, h1, h2, by simpa using h3, ?_⟩⟩
    · simp [World.setCell, Array.getElem?_modify, hh]
    · rw [hf, ← h4]
      simp [List.take_set]
end

/-- What a call that answers fresh elements and turns nothing old leaves. -/
def RetS {α : Type} (t : TypeId) (enc : α → List Value) (k : Nat) (w : World) (l : List α) (e : Ending) (w' : World) : Prop := ∃ A n c, e = .returned (.slice A n c) ∧ OwnS t enc k w' w.heap.size A n c l ∧ Below w.heap.size w w'

/-- The run of an append of elements that are read onto a fresh slice: the source nil or not. -/
theorem run_append_rowS {P : Program} {α : Type} (w : World) (t : TypeId) (enc : α → List Value) (k : Nat) (hk : ∀ x, (enc x).length = k) (hk0 : 0 < k) (h1 : ∀ x, ∀ u ∈ enc x, u.oneCell' = true) (base T ty : Nat) (i : TypeInfo) (z : Value) (b : Nat) (ht : P.underlying T = some (.slice t)) (hi : P.info? t = some i) (hz : i.zero = some z) (hs : i.size = k) (hzs : z.cells.size = k) (hby : i.bytes = b)
    (A : Option Addr) (n c : Nat) (l : List α) (hown : OwnS t enc k w base A n c l) (A' : Option Addr) (n' c' : Nat) (l' : List α) (hr : RowS enc k w A' n' l')
    (hb : (n + n') * b ≤ 140737488355328) (hm : n + n' ≤ 140737488355328) (hbase : base ≤ w.heap.size) :
    ∃ A2 c2 w', (Builtin.append_ #[T, T] ty #[.slice A n c, .slice A' n' c']).run P w = .ok (.slice A2 (n + n') c2) w' ∧ OwnS t enc k w' base A2 (n + n') c2 (l ++ l') ∧ w.grownBy w' (blockOf A) := by
  have hbo : (Value.slice A n c).ownBlock = blockOf A := by
    rcases hown.shape with ⟨rfl, _⟩ | ⟨g, cur, rfl, _⟩ <;> rfl
  have hyl := hr.len
  by_cases hy : n' = 0
  · obtain rfl : l' = [] := List.eq_nil_of_length_eq_zero (by omega)
    subst hy
    refine ⟨A, c, w, ?_, by simpa using hown, World.grownBy.refl w _⟩
    rcases hown.shape with ⟨rfl, rfl, rfl, rfl⟩ | ⟨g, cur, rfl, _, _, _, hle, _⟩
    · cases A' <;> simp [Builtin.append_, run_underlying ht, sizeOf, typeInfo, hi, Builtin.lenOf, Builtin.firstCells, loadCells, loadCellsFrom]
    · cases A' <;> simp [Builtin.append_, run_underlying ht, sizeOf, typeInfo, hi, Builtin.lenOf, Builtin.firstCells, loadCells, loadCellsFrom, hle, storeCells]
  · obtain ⟨g, off, rfl, hg, hc⟩ := hr.2.2 (Nat.mul_pos (by omega) hk0)
    obtain ⟨v', w', hrun, h2, h3, _⟩ := run_append_own (P := P) w base T ty t i z k b ht hi hz hs hby hzs hk0 (.slice A n c) n (flat enc l) hown.2 ⟨g, off, none⟩ n' c' (flat enc l') (by rw [flat_length hk, hyl])
      (fun j u hu => by rw [Addr.add_lit]; exact hc j u hu) (fun u hu => by unfold flat at hu; obtain ⟨x, _, hx⟩ := List.mem_flatMap.1 hu; exact h1 x u hx) (by simp only [maxLen]; omega) hb hbase
    rw [flat_append] at h2
    obtain ⟨A2, c2, rfl, h2'⟩ := ownS_shape (by rw [List.length_append, hown.len, hyl]) h2
    exact ⟨A2, c2, w', hrun, h2', by rw [← hbo]; exact h3⟩

/-- The same at an operation of the walk. -/
theorem wpList_append_rowS {P : Program} {α : Type} {w : World} {ops : Array Oper} {rest : List Oper} {o : Oper} {a : Act} {Q : Exit → Act → World → Prop} (hgd : o.guard = none) (s x : Operand) (T : TypeId)
    (ho : o.op = .call { callee := .builtin .append, args := #[s, x], argTypes := #[T, T] }) (t : TypeId) (enc : α → List Value) (k : Nat) (hk : ∀ x, (enc x).length = k) (hk0 : 0 < k) (h1 : ∀ x, ∀ u ∈ enc x, u.oneCell' = true)
    (base : Nat) (i : TypeInfo) (z : Value) (b : Nat) (ht : P.underlying T = some (.slice t)) (hi : P.info? t = some i) (hz : i.zero = some z) (hs : i.size = k) (hzs : z.cells.size = k) (hby : i.bytes = b)
    (A : Option Addr) (n c : Nat) (l : List α) (hes : a.eval s = .slice A n c) (hown : OwnS t enc k w base A n c l) (A' : Option Addr) (n' c' : Nat) (l' : List α) (hex : a.eval x = .slice A' n' c') (hr : RowS enc k w A' n' l')
    (hb : (n + n') * b ≤ 140737488355328) (hm : n + n' ≤ 140737488355328) (hbase : base ≤ w.heap.size)
    (h : ∀ A2 c2 w', OwnS t enc k w' base A2 (n + n') c2 (l ++ l') → w.grownBy w' (blockOf A) → wpList P ops Q rest (a.put o.dst (.slice A2 (n + n') c2)) w') : wpList P ops Q (o :: rest) a w := by
  refine wpList_plain hgd fun _ hK => ?_
  obtain ⟨A2, c2, w', hrun, h2, h3⟩ := run_append_rowS (P := P) w t enc k hk hk0 h1 base T o.type i z b ht hi hz hs hzs hby A n c l hown A' n' c' l' hr hb hm hbase
  unfold Oper.wp execOp
  simp only [ho, resolve, invoke, builtin, Sem.run_bind, Sem.run_pure, Result.andThen_ok, List.map_toArray, List.map_cons, List.map_nil, hes, hex, hrun]
  exact hK _ _ (h A2 c2 w' h2 h3)

/-- Elements written out in a block of their own. -/
theorem rowS_vals {α : Type} {enc : α → List Value} {k : Nat} (hk : ∀ x, (enc x).length = k) (w : World) (t : TypeId) (l : List α) (cs : Array Value) (hcs : cs = (flat enc l).toArray) (n : Nat) (hn : l.length = n) : RowS enc k (w.alloc (.cells cs t)) (some ⟨w.heap.size, 0, none⟩) n l := by
  subst hcs
  refine ⟨hn, by rw [flat_length hk, hn], fun _ => ⟨w.heap.size, 0, rfl, by simp, fun j u hu => ?_⟩⟩
  rw [Nat.zero_add, cell_of_row _ _ j _ t (0, 0) (heap_alloc_new w _)]
  simpa using hu

/-- A list out of its elements. -/
theorem list_of {α : Type} {p : Nat → α → Prop} (n : Nat) (h : ∀ i, i < n → ∃ x, p i x) : ∃ l : List α, l.length = n ∧ ∀ i x, l[i]? = some x → p i x := by
  induction n with
  | zero => exact ⟨[], rfl, fun i x hx => by simp at hx⟩
  | succ n ih =>
    obtain ⟨l, hl, hp⟩ := ih fun i hi => h i (by omega)
    obtain ⟨x, hx⟩ := h n (by omega)
    refine ⟨l ++ [x], by simp [hl], fun i y hy => ?_⟩
    rw [List.getElem?_append] at hy
    split at hy
    · exact hp i y hy
    · rename_i hi
      have : i - l.length = 0 := by
        rcases Nat.eq_zero_or_pos (i - l.length) with h0 | h0
        · exact h0
        · rw [List.getElem?_eq_none (by simp; omega)] at hy; cases hy
      rw [this] at hy
      simp at hy
      subst hy
      rw [show i = n by omega]
      exact hx

/-- A slice that comes in: each element's cells, and how they read. -/
theorem open_sliceK {H : Type} {enc : TypeId × Value → H} {P : Program} {w : World} {t e : TypeId} {k : Nat} (ht : P.underlying t = some (.slice e)) (hk : P.cellsOf e = k) {a : Option Addr} {len cap : Nat} {d : DataW H} {p : List MemPlace}
    (h : DataW.Trod enc P w 0 (fun _ => true) true t (.slice a len cap) d p) :
    (a = none ∧ len = 0 ∧ cap = 0) ∨ ∃ x, a = some x ∧ len ≤ cap ∧ cap ≤ maxLen ∧ ∀ i, i < len → ∃ (cs : List Value) (m : Nat) (y : DataW H × List MemPlace), cs.length = k ∧ (∀ j, j < k → w.cell? (x.add (i * k + j)) = cs[j]?) ∧ DataW.trod enc P w 0 (fun _ => true) true m e cs = some y := by
  obtain ⟨fuel, hf⟩ := h
  rcases DataW.trod_slice ht hf with ⟨hcs, _⟩ | ⟨x, l, c, elems, rest, n, _, hcs, _, _, hl, hm, hel, hi, _, _⟩
  · simp [Value.cells] at hcs
    exact .inl ⟨hcs.1, hcs.2.1, hcs.2.2⟩
  · simp [Value.cells] at hcs
    obtain ⟨rfl, rfl, rfl⟩ := hcs
    refine .inr ⟨x, rfl, hl, hm, fun i hlt => ?_⟩
    have h1 := hi i hlt
    rw [hk] at h1
    rw [List.getElem?_eq_getElem (by omega)] at h1
    cases hc : w.cells? 0 (x.add (i * k)) k with
    | none => rw [hc] at h1; simp at h1
    | some cs =>
      rw [hc] at h1
      obtain ⟨_, hcl, hat⟩ := World.cells?_some hc
      exact ⟨cs, n, _, hcl, fun j hj => by rw [← Go.Deep.add_add]; exact hat j hj, h1⟩

/-- Such a slice, once each element is known, is a row. -/
theorem rowS_in {α : Type} {enc : α → List Value} {k : Nat} (hk : ∀ x, (enc x).length = k) {w : World} {x : Addr} {len : Nat} (l : List α) (hl : l.length = len) (hc : ∀ i y, l[i]? = some y → ∀ j u, (enc y)[j]? = some u → w.cell? (x.add (i * k + j)) = some u) : RowS enc k w (some x) len l := by
  refine ⟨hl, by rw [flat_length hk, hl], fun hn => ?_⟩
  have hk0 : 0 < k := Nat.pos_of_mul_pos_left hn
  have hl0 : 0 < len := Nat.pos_of_mul_pos_right hn
  have key : ∀ q u, (flat enc l)[q]? = some u → w.cell? (x.add q) = some u := by
    intro q u hu
    have hq := (List.getElem?_eq_some_iff.1 hu).1
    rw [flat_length hk] at hq
    have hqk : q / k < l.length := Nat.div_lt_of_lt_mul (by rw [Nat.mul_comm]; exact hq)
    have hy : l[q / k]? = some l[q / k] := List.getElem?_eq_getElem hqk
    have he : q / k * k + q % k = q := by rw [Nat.mul_comm]; exact Nat.div_add_mod q k
    have h2 := flat_get hk hy (Nat.mod_lt q hk0)
    rw [he] at h2
    have := hc _ _ hy (q % k) u (by rw [← h2]; exact hu)
    rwa [he] at this
  have h0 : ∃ u, (flat enc l)[0]? = some u := ⟨_, List.getElem?_eq_getElem (by rw [flat_length hk, hl]; exact Nat.mul_pos hl0 hk0)⟩
  obtain ⟨u0, h0⟩ := h0
  have hx := key 0 u0 h0
  have hsp : x.spot = none := by
    cases hs : x.spot with
    | none => rfl
    | some s =>
      rw [show x.add 0 = x by unfold Addr.add; simp] at hx
      unfold World.cell? at hx
      split at hx <;> simp [hs] at hx
  obtain ⟨g, off, sp⟩ := x
  simp only at hsp
  subst hsp
  refine ⟨g, off, rfl, ?_, fun j u hu => by have := key j u hu; rwa [Addr.add_lit] at this⟩
  rw [Addr.add_lit] at hx
  exact World.block_lt_of_cell? w _ hx

theorem madeCells_flat {α : Type} {enc : α → List Value} {k : Nat} (hk : ∀ x, (enc x).length = k) (hk0 : 0 < k) (z : Array Value) (x0 : α) (hz : z.toList = enc x0) (n : Nat) : (madeCells z (n * k)).toList = flat enc (List.replicate n x0) := by
  have hzs : z.size = k := by rw [← hk x0, ← hz, Array.length_toList]
  apply List.ext_getElem?
  intro q
  by_cases hq : q < n * k
  · have hqk : q / k < n := Nat.div_lt_of_lt_mul (by rw [Nat.mul_comm]; exact hq)
    have he : q / k * k + q % k = q := by rw [Nat.mul_comm]; exact Nat.div_add_mod q k
    have h1 := flat_get hk (l := List.replicate n x0) (j := q / k) (x := x0) (by simp [hqk]) (Nat.mod_lt q hk0)
    rw [he] at h1
    rw [h1, ← hz]
    have hm : q % z.size < z.size := Nat.mod_lt _ (by omega)
    simp only [madeCells, Array.toList_map, Array.toList_range, List.getElem?_map, List.getElem?_range hq, Option.map_some, Array.getElem?_toList]
    rw [getElem!_pos z _ hm, ← hzs, Array.getElem?_eq_getElem hm]
  · rw [List.getElem?_eq_none (by simp [madeCells]; omega), List.getElem?_eq_none (by rw [flat_length hk, List.length_replicate]; omega)]

/-- 'make([]T, n)' for structs. -/
theorem wpList_make_S {P : Program} {α : Type} {w : World} {ops : Array Oper} {rest : List Oper} {o : Oper} {a : Act} {Q : Exit → Act → World → Prop} (hg : o.guard = none) (l c : Operand) (T : TypeId) (hop : o.op = Op.makeSlice T l c)
    (t : TypeId) (enc : α → List Value) (k : Nat) (hk : ∀ x, (enc x).length = k) (hk0 : 0 < k) (B : Nat) (i : TypeInfo) (z : Value) (x0 : α) (b : Nat) (h1 : P.underlying T = some (.slice t)) (h2 : P.info? t = some i) (h3 : i.zero = some z) (h4 : i.size = k) (hz : z.cells.toList = enc x0) (h5 : i.bytes = b)
    (L C : Int) (n : Nat) (hl : a.eval l = .int .i64 L) (hc : a.eval c = .int .i64 C) (hL : L = (n : Int)) (hC : C = (n : Int)) (b2 : b * n ≤ 281474976710656) (b3 : n ≤ 9223372036854775807) (b4 : B ≤ w.heap.size)
    (hK : ∀ w', OwnS t enc k w' B (some ⟨w.heap.size, 0, none⟩) n n (List.replicate n x0) → w.grownBy w' none → wpList P ops Q rest (a.put o.dst (.slice (some ⟨w.heap.size, 0, none⟩) n n)) w') : wpList P ops Q (o :: rest) a w := by
  refine wpList_make_full w hg l c T hop B t i z k h1 h2 h3 h4 .i64 .i64 L C n hl hc hL hC (by rw [h5]; exact b2) (by simp only [maxLen]; exact b3) b4 fun w' ho hgr => hK w' ⟨by simp, ?_⟩ hgr
  rw [madeCells_flat hk hk0 _ x0 hz] at ho
  exact ho

/-- One element of a fresh row turned, cell by cell. -/
theorem flat_set {α : Type} {enc : α → List Value} {k : Nat} (hk : ∀ x, (enc x).length = k) (l : List α) (i : Nat) (x : α) (hi : i < l.length) : flat enc (l.set i x) = (flat enc l).take (i * k) ++ (enc x ++ (flat enc l).drop ((i + 1) * k)) := by
  rw [flat_take hk, flat_drop hk, List.set_eq_take_append_cons_drop, if_pos hi]
  simp [flat]

/-- Cells written one behind the other. -/
def setFrom (xs : List Value) (j : Nat) : List Value → List Value
  | [] => xs
  | v :: vs => setFrom (xs.set j v) (j + 1) vs
def setCells (w : World) (g j : Nat) : List Value → World
  | [] => w
  | v :: vs => setCells (w.setCell ⟨g, j, none⟩ v) g (j + 1) vs

theorem setFrom_eq (vs : List Value) : ∀ (xs : List Value) (j : Nat), j + vs.length ≤ xs.length → setFrom xs j vs = xs.take j ++ (vs ++ xs.drop (j + vs.length)) := by
  induction vs with
  | nil => intro xs j _; simp [setFrom]
  | cons v vs ih =>
    intro xs j hj
    simp only [List.length_cons] at hj
    rw [setFrom, ih _ _ (by rw [List.length_set]; omega), List.take_set, List.drop_set_of_lt (by omega), List.set_eq_take_append_cons_drop, if_pos (by rw [List.length_take]; omega), List.take_take, Nat.min_eq_left (by omega), List.drop_take, show j + 1 - (j + 1) = 0 by omega]
    simp only [List.take_zero, List.length_cons, List.append_assoc, List.cons_append, List.nil_append]
    rw [show j + 1 + vs.length = j + (vs.length + 1) by omega]

theorem ownsRow_setCells {t : TypeId} {k g n c B : Nat} (vs : List Value) : ∀ (w : World) (xs : List Value) (j : Nat), w.ownsRow B t k (.slice (some ⟨g, 0, none⟩) n c) n xs → (setCells w g j vs).ownsRow B t k (.slice (some ⟨g, 0, none⟩) n c) n (setFrom xs j vs) := by
  induction vs with
  | nil => intro w xs j h; exact h
  | cons v vs ih =>
    intro w xs j h
    refine ih _ _ _ ?_
    rcases h.2 with ⟨e, _⟩ | ⟨g', cap, cur, e, hB, hh, h1, h2, h3, h4⟩
    · cases e
    · injection e with e1 _ e3
      simp only [Option.some.injEq, Addr.mk.injEq, and_true] at e1
      subst e1 e3
      refine ⟨by rw [List.length_set]; exact h.1, .inr ⟨g, c, cur.setIfInBounds j v, rfl, hB, ?_, h1, h2, by simpa using h3, ?_⟩⟩
      · simp [World.setCell, Array.getElem?_modify, hh]
      · rw [← h4]
        simp [List.take_set]

section
variable {α : Type} {t : TypeId} {enc : α → List Value} {k : Nat} {w : World} {B g n c : Nat} {l : List α}
/-- A store of one element into a fresh row. -/
theorem ownS_store (hk : ∀ x, (enc x).length = k) (h : OwnS t enc k w B (some ⟨g, 0, none⟩) n c l) {i : Nat} (hi : i < n) (x : α) : OwnS t enc k (setCells w g (i * k) (enc x)) B (some ⟨g, 0, none⟩) n c (l.set i x) := by
  refine ⟨by rw [List.length_set]; exact h.1, ?_⟩
  have h1 := ownsRow_setCells (enc x) w (flat enc l) (i * k) h.2
  have hl := h.1
  have hik : (i + 1) * k ≤ n * k := Nat.mul_le_mul_right k (by omega)
  rw [Nat.succ_mul] at hik
  rw [setFrom_eq _ _ _ (by rw [hk, flat_length hk, hl]; exact hik), hk, ← Nat.succ_mul, ← flat_set hk l i x (by omega)] at h1
  exact h1
theorem OwnS.thaw (h : OwnS t enc k w B (some ⟨g, 0, none⟩) n c l) (o : Nat) : w.frozen? ⟨g, o, none⟩ = false := by
  rcases h.shape with ⟨e, _⟩ | ⟨g', cur, e, _, _, hh, _⟩
  · cases e
  · simp only [Option.some.injEq, Addr.mk.injEq, and_true] at e
    subst e
    simp [World.frozen?, hh]
end
theorem setCells_below {w0 : World} {B g : Nat} (hg : B ≤ g) (vs : List Value) : ∀ (w : World) (j : Nat), Below B w0 w → Below B w0 (setCells w g j vs) := by
  induction vs with
  | nil => intro w j h; exact h
  | cons v vs ih => intro w j h; exact ih _ _ (h.setCell (p := ⟨g, j, none⟩) hg v)
theorem setCells_block {g q : Nat} (hq : q ≠ g) (vs : List Value) : ∀ (w : World) (j : Nat), (setCells w g j vs).heap[q]? = w.heap[q]? := by
  induction vs with
  | nil => intro w j; rfl
  | cons v vs ih => intro w j; exact (ih _ _).trans (Below.heap_setCell w _ v q hq)
theorem setCells_size (g : Nat) (vs : List Value) : ∀ (w : World) (j : Nat), (setCells w g j vs).heap.size = w.heap.size := by
  induction vs with
  | nil => intro w j; rfl
  | cons v vs ih => intro w j; exact (ih _ _).trans (by simp [World.setCell])

/-- The append of elements, as one step of a region that draws its order. -/
theorem step_append_rowS {P : Program} {α : Type} {w : World} {ops : Array Oper} {o : Oper} {a : Act} {K : Act → World → Prop} {Q : Exit → Act → World → Prop} {E : Prop} (hgd : o.guard = none) (s x : Operand) (T : TypeId)
    (ho : o.op = .call { callee := .builtin .append, args := #[s, x], argTypes := #[T, T] }) (t : TypeId) (enc : α → List Value) (k : Nat) (hk : ∀ x, (enc x).length = k) (hk0 : 0 < k) (h1 : ∀ x, ∀ u ∈ enc x, u.oneCell' = true)
    (base : Nat) (i : TypeInfo) (z : Value) (b : Nat) (ht : P.underlying T = some (.slice t)) (hi : P.info? t = some i) (hz : i.zero = some z) (hs : i.size = k) (hzs : z.cells.size = k) (hby : i.bytes = b)
    (A : Option Addr) (n c : Nat) (l : List α) (hes : a.eval s = .slice A n c) (hown : OwnS t enc k w base A n c l) (A' : Option Addr) (n' c' : Nat) (l' : List α) (hex : a.eval x = .slice A' n' c') (hr : RowS enc k w A' n' l')
    (hb : (n + n') * b ≤ 140737488355328) (hm : n + n' ≤ 140737488355328) (hbase : base ≤ w.heap.size)
    (h : ∀ A2 c2 w', OwnS t enc k w' base A2 (n + n') c2 (l ++ l') → w.grownBy w' (blockOf A) → K (a.put o.dst (.slice A2 (n + n') c2)) w') : if Region.wanted o (yielded ops a.tmps) = true then Oper.wp P o a w K Q else E := by
  have hw : Region.wanted o (yielded ops a.tmps) = true := by simp [Region.wanted, hgd]
  rw [if_pos hw]
  obtain ⟨A2, c2, w', hrun, h2, h3⟩ := run_append_rowS (P := P) w t enc k hk hk0 h1 base T o.type i z b ht hi hz hs hzs hby A n c l hown A' n' c' l' hr hb hm hbase
  unfold Oper.wp execOp
  simp only [ho, resolve, invoke, builtin, Sem.run_bind, Sem.run_pure, Result.andThen_ok, List.map_toArray, List.map_cons, List.map_nil, hes, hex, hrun]
  exact h A2 c2 w' h2 h3

end Go.Proofs.Ytdaeffnaoeblpaa

/- flat: what may stand behind a glyph: the program's isFill and the document's noughts, as contracts over this seat's translation. -/
namespace Go.Proofs.Ytdaeffnaoeblpaa
open Go.RowKit
set_option linter.unusedVariables false
set_option linter.unusedSimpArgs false

/-- Noughts alone. -/
def noB (l : List Int) : Bool := l.all fun x => x == 0
/-- At most three noughts. -/
def fillB (l : List Int) : Bool := decide (l.length ≤ 3) && noB l

theorem fnz_any (x : Int) (w : World) : Calls Try.prog 158 #[.int .u8 x] w fun e w' => e = .returned (.bool (x != 0)) ∧ w = w' := by
  go_enter Try.func158, Try.ntmps158
  go_wp2
  go_ret
  exact ⟨rfl, rfl⟩

set_option maxHeartbeats 1000000 in
theorem findex_any (A : Option Addr) (n c : Nat) (l : List Int) (w : World) (hr : Row w A n (cellsOf .u8 l)) (hn : n ≤ 1000000) :
    Calls Try.prog 180 #[.slice A n c, .func (.func 158) #[] #[]] w fun e w' => (∃ r : Int, e = .returned (.int .i64 r) ∧ decide (0 ≤ r) = !noB l) ∧ w = w' := by
  have Hl := Lib.hid hr.len
  have eg : ∀ args w, (callFunc 158 args).run Try.prog w = .ok (.enter 158 args) w := enters_of Try.func158 (by kernel_rfl) rfl
  go_enter Try.func180, Try.ntmps180
  go_wp2
  go_loop [8] (fun i => ∃ k : Nat, k ≤ n ∧ i = .int .i64 k ∧ Hid (noB (l.take k) = true)) (fun i => n - (intOf i).toNat)
  case atStart => exact ⟨0, Nat.zero_le _, rfl, Lib.hid rfl⟩
  case round =>
    obtain ⟨k, hk, rfl, HR⟩ := hrel
    by_cases hlt : k < n
    · obtain ⟨x, hx⟩ := get_some (zs := l) (k := k) (by have := Hl.out; omega)
      obtain ⟨g, off, rfl, hg, hc⟩ := hr.at (cellsOf_get (k := .u8) hx)
      have HS : Hid (noB (l.take (k + 1)) = (x == 0)) := by
        have h1 := HR.out
        show _ = _
        unfold noB at *
        rw [List.take_add_one, hx, List.all_append, h1]
        simp
      have HN : Hid ((x == 0) = false → noB l = false) := fun h => by
        unfold noB
        rw [List.all_eq_false]
        exact ⟨x, List.mem_of_getElem? hx, by rw [h]; simp⟩
      have HF := Lib.hid (fnz_any x w)
      clear hx HR
      go_wp2_with fail
      refine HF.out.mono ?_
      rintro e w' ⟨rfl, rfl⟩
      cases hb : (x == 0) with
      | false =>
        have HN2 := Lib.hid (HN.out hb)
        have hb2 : (x != 0) = true := by simp [bne, hb]
        clear HN HS hb HF
        go_wp2
        go_ret
        exact ⟨⟨k, rfl, by rw [HN2.out]; simp⟩, rfl⟩
      | true =>
        have hb2 : (x != 0) = false := by simp [bne, hb]
        rw [hb] at HS
        clear HN hb HF
        go_wp2
        go_round
        case rel => exact ⟨k + 1, by omega, by go_num, HS⟩
        case measure => simp [intOf]; omega
    · obtain rfl : k = n := by omega
      have h1 : Hid (noB l = true) := by have h := HR.out; rwa [List.take_of_length_le (by have := Hl.out; omega)] at h
      go_wp2
      go_ret
      exact ⟨⟨-1, rfl, by rw [h1.out]; rfl⟩, rfl⟩

theorem fcontains_any (A : Option Addr) (n c : Nat) (l : List Int) (w : World) (hr : Row w A n (cellsOf .u8 l)) (hn : n ≤ 1000000) :
    Calls Try.prog 157 #[.slice A n c, .func (.func 158) #[] #[]] w fun e w' => e = .returned (.bool (!noB l)) ∧ w = w' := by
  have HI := Lib.hid (findex_any A n c l w hr hn)
  go_enter Try.func157, Try.ntmps157
  go_wp2_with fail
  refine HI.out.mono ?_
  rintro e w' ⟨⟨r, rfl, hd⟩, rfl⟩
  have HD := Lib.hid hd
  clear hd
  go_wp2
  go_ret
  rw [← HD.out]
  exact ⟨rfl, rfl⟩

theorem ffill_any (A : Option Addr) (n c : Nat) (l : List Int) (w : World) (hr : Row w A n (cellsOf .u8 l)) (hn : n ≤ 1000000) :
    Calls Try.prog 119 #[.slice A n c] w fun e w' => e = .returned (.bool (fillB l)) ∧ w = w' := by
  have HC := Lib.hid (fcontains_any A n c l w hr hn)
  have hl : l.length = n := by have := hr.len; simpa [cellsOf] using this
  have HF : Hid (fillB l = (decide (n ≤ 3) && noB l)) := by show _ = _; unfold fillB; rw [hl]
  clear hr hl
  go_enter Try.func119, Try.ntmps119
  by_cases h3 : n ≤ 3
  · have h4 : (n : Int) ≤ 3 := by omega
    rw [HF.out, decide_eq_true h3]
    go_wp2_with fail
    refine HC.out.mono ?_
    rintro e w' ⟨rfl, rfl⟩
    go_wp2
    go_ret
    exact ⟨by simp, rfl⟩
  · have h4 : ¬ (n : Int) ≤ 3 := by omega
    rw [HF.out, decide_eq_false h3]
    go_wp2
    go_ret
    exact ⟨rfl, rfl⟩

set_option maxHeartbeats 1000000 in
theorem rnoughts_any (A : Option Addr) (n c : Nat) (l : List Int) (w : World) (hr : Row w A n (cellsOf .u8 l)) (hB : Bytes l) (hn : n ≤ 1000000) :
    Calls Try.prog 122 #[.slice A n c] w fun e w' => e = .returned (.bool (fillB l)) ∧ w = w' := by
  have hl : l.length = n := by have := hr.len; simpa [cellsOf] using this
  have Hl := Lib.hid hl
  have HB := Lib.hid hB
  have HF : Hid (fillB l = (decide (n ≤ 3) && noB l)) := by show _ = _; unfold fillB; rw [hl]
  clear hl hB
  go_enter Try.func122, Try.ntmps122
  go_wp2
  go_loop [7] (fun i => ∃ k : Nat, k ≤ n ∧ i = .int .i64 k ∧ Hid (noB (l.take k) = true)) (fun i => n - (intOf i).toNat)
  case atStart => exact ⟨0, Nat.zero_le _, rfl, Lib.hid rfl⟩
  case round =>
    obtain ⟨k, hk, rfl, HR⟩ := hrel
    by_cases hlt : k < n
    · obtain ⟨x, hx⟩ := get_some (zs := l) (k := k) (by have := Hl.out; omega)
      obtain ⟨g, off, rfl, hg, hc⟩ := hr.at (cellsOf_get (k := .u8) hx)
      have hx0 := HB.out x (List.mem_of_getElem? hx)
      have HS : Hid (noB (l.take (k + 1)) = (x == 0)) := by
        have h1 := HR.out
        show _ = _
        unfold noB at *
        rw [List.take_add_one, hx, List.all_append, h1]
        simp
      have HN : Hid ((x == 0) = false → noB l = false) := fun h => by
        unfold noB
        rw [List.all_eq_false]
        exact ⟨x, List.mem_of_getElem? hx, by rw [h]; simp⟩
      clear hx HR
      by_cases h0 : 0 < x
      · have HN2 := Lib.hid (HN.out (by simp; omega))
        clear HN HS
        go_wp2
        go_ret
        exact ⟨by rw [HF.out, HN2.out]; simp, rfl⟩
      · rw [show (x == 0) = true by simp; omega] at HS
        clear HN
        go_wp2
        go_round
        case rel => exact ⟨k + 1, by omega, by go_num, HS⟩
        case measure => simp [intOf]; omega
    · obtain rfl : k = n := by omega
      have h1 : Hid (noB l = true) := by have h := HR.out; rwa [List.take_of_length_le (by have := Hl.out; omega)] at h
      go_wp2
      go_ret
      refine ⟨?_, rfl⟩
      rw [HF.out, h1.out]
      simp
      omega

end Go.Proofs.Ytdaeffnaoeblpaa

/- What Join, B2, B4, S2, N2, N4 and Sign of the document's own functions answer, as contracts over this seat's translation. -/
namespace Go.Proofs.Ytdaeffnaoeblpaa
open Go.RowKit
set_option linter.unusedVariables false

/-- A slice of bytes as a value, with the numbers that it shows. -/
structure BsV where
  A : Option Addr
  n : Nat
  c : Nat
  ys : List Int
def BsV.val (p : BsV) : Value := .slice p.A p.n p.c
def BsV.ok (w : World) (p : BsV) : Prop := Row w p.A p.n (cellsOf .u8 p.ys)
/-- All numbers, one list behind the other. -/
def joined (l : List BsV) : List Int := l.flatMap BsV.ys

theorem joined_snoc (l : List BsV) (k : Nat) (p : BsV) (h : l[k]? = some p) : joined (l.take k) ++ p.ys = joined (l.take (k + 1)) := by
  unfold joined
  rw [List.take_add_one, h]
  simp

theorem joined_le (l : List BsV) (k : Nat) : (joined (l.take k)).length ≤ (joined l).length := by
  have h : joined l = joined (l.take k) ++ joined (l.drop k) := by
    unfold joined
    rw [← List.flatMap_append, List.take_append_drop]
  rw [h, List.length_append]
  omega

/-- Values written out in a block of their own. -/
theorem row_vals (w : World) (t : TypeId) (l : List Value) (n : Nat) (hn : l.length = n) : Row (w.alloc (.cells l.toArray t)) (some ⟨w.heap.size, 0, none⟩) n l :=
  ⟨hn, fun _ => ⟨w.heap.size, 0, rfl, by simp, fun j u hu => by
    rw [Nat.zero_add, cell_of_row _ _ j _ t (0, 0) (heap_alloc_new w _)]
    simpa using hu⟩⟩

set_option maxHeartbeats 400000 in
theorem join_any (A : Option Addr) (n c : Nat) (l : List BsV) (w : World) (hr : Row w A n (l.map BsV.val)) (hs : ∀ p ∈ l, p.ok w) (hn : n ≤ 140737488351232) (hl : (joined l).length ≤ 140737488351232) :
    Calls Try.prog 27 #[.slice A n c] w (RetB w (joined l)) := by
  obtain ⟨i0, hi, hz0, hz1, hz2⟩ := info_parts Try.u8info
  have Hn : Hid (l.length = n) := by have := hr.1; rw [List.length_map] at this; exact this
  have Hs := Lib.hid hs
  clear hs
  go_enter Try.func27, Try.ntmps27
  go_wp2
  go_loopw [3, 8] (fun v i wr => ∃ (k : Nat) (A2 : Option Addr) (n2 c2 : Nat), k ≤ n ∧ i = .int .i64 k ∧ v = .slice A2 n2 c2 ∧ OwnB wr w.heap.size A2 n2 c2 (joined (l.take k)) ∧ Below w.heap.size w wr) (fun _ i _ => n - (intOf i).toNat)
  case atStart => exact ⟨0, none, 0, 0, Nat.zero_le _, rfl, rfl, by simpa [joined] using Own.nil _ _ _ _, Below.refl _ _⟩
  case round =>
    obtain ⟨k, A2, n2, c2, hk, rfl, rfl, hown, hbel⟩ := hrel
    by_cases hlt : k < n
    · obtain ⟨p, hp⟩ : ∃ p, l[k]? = some p := ⟨l[k]'(by have := Hn.out; omega), List.getElem?_eq_getElem (by have := Hn.out; omega)⟩
      obtain ⟨g, off, rfl, hg, hc⟩ := (hr.below hbel).at (j := k) (u := p.val) (by simp [hp])
      have Hp := Lib.hid hp
      have hok : Row wr p.A p.n (cellsOf .u8 p.ys) := (show Row w p.A p.n (cellsOf .u8 p.ys) from Hs.out p (List.mem_of_getElem? hp)).below hbel
      clear hp
      have hsz : w.heap.size ≤ wr.heap.size := hbel.size
      have hlen : n2 + p.n ≤ 140737488351232 := by
        have h1 := joined_le l (k + 1)
        rw [← joined_snoc l k p Hp.out, List.length_append, hok.len, hown.len] at h1
        omega
      obtain ⟨pA, pn, pc, pys⟩ := p
      simp only [BsV.val] at hc hok hlen
      go_wp2_with (at_builtin; refine wpList_append_row rfl (.tmp 12) (.tmp 13) _ rfl 5 .u8 w.heap.size i0 1 Try.underlying42 hi hz0 hz1 hz2 A2 n2 c2 _ rfl hown pA pn pc pys rfl hok (by omega) (by omega) hsz ?_)
      intro A3 c3 w1 hown1 hg1
      rw [joined_snoc l k ⟨pA, pn, pc, pys⟩ Hp.out] at hown1
      have hbel1 : Below w.heap.size w w1 := hbel.grown hg1 hsz (fun q e => (hown.from_ q e).1)
      clear hg1 hown hbel hc hok
      go_wp2
      go_roundw
      case rel => exact ⟨k + 1, A3, n2 + pn, c3, by omega, by go_num, rfl, hown1, hbel1⟩
      case measure => simp [intOf]; omega
    · rw [show l.take k = l from List.take_of_length_le (by have := Hn.out; omega)] at hown
      go_wp2
      go_ret
      exact ⟨A2, n2, c2, rfl, hown, hbel⟩

/-- Two bytes of a number. -/
def b2 (n : Int) : List Int := [n / 256 % 256, n % 256]

/-- Fresh numbers, written out. -/
theorem own_lit (w : World) (B : Nat) (t : TypeId) (k : IntKind) (zs : List Int) (n : Nat) (hn : zs.length = n) (hB : B ≤ w.heap.size) (hm : n ≤ maxLen) : Own t k (w.alloc (.cells (cellsOf k zs).toArray t)) B (some ⟨w.heap.size, 0, none⟩) n n zs := by
  have := World.ownsRow_lit (base := B) (e := t) (size := 1) w (cellsOf k zs).toArray n hB hm (by simp [cellsOf]; omega)
  simpa [Own] using this

theorem b2_any (n : Int) (w : World) (h0 : 0 ≤ n) (h1 : n < 4294967296) : Calls Try.prog 93 #[.int .i64 n] w (RetB w (b2 n)) := by
  go_enter Try.func93, Try.ntmps93
  go_wp2
  go_ret
  exact ⟨some ⟨w.heap.size, 0, none⟩, 2, 2, rfl, own_lit w _ _ _ (b2 n) 2 rfl (Nat.le_refl _) (by simp only [maxLen]; omega), (Below.refl _ _).alloc (Nat.le_refl _) _⟩

/-- Four bytes of a number. -/
def b4 (n : Int) : List Int := b2 (n / 65536) ++ b2 (n % 65536)

set_option maxHeartbeats 400000 in
theorem b4_any (n : Int) (w : World) (h0 : 0 ≤ n) (h1 : n < 4294967296) : Calls Try.prog 92 #[.int .u32 n] w (RetB w (b4 n)) := by
  go_enter Try.func92, Try.ntmps92
  go_wp2_with fail
  refine (b2_any _ _ (by omega) (by omega)).mono ?_
  rintro e w1 ⟨A, m, c, rfl, hown, hb⟩
  go_wp2_with fail
  refine (b2_any _ _ (by omega) (by omega)).mono ?_
  rintro e w2 ⟨A', m', c', rfl, hown', hb'⟩
  go_wp2_with fail
  have ha : Below w2.heap.size w2 (w2.alloc (.cells #[.slice A m c, .slice A' m' c'] 42)) := (Below.refl _ _).alloc (Nat.le_refl _) _
  refine (join_any _ _ _ [⟨A, m, c, b2 (n / 65536)⟩, ⟨A', m', c', b2 (n % 65536)⟩] _ ?_ ?_ (by omega) (by simp [joined, b2])).mono ?_
  · refine ⟨rfl, fun _ => ⟨w2.heap.size, 0, rfl, by simp, fun j u hu => ?_⟩⟩
    match j, hu with
    | 0, hu => simp [BsV.val] at hu; subst hu; simp
    | 1, hu => simp [BsV.val] at hu; subst hu; simp
  · intro p hp
    simp at hp
    rcases hp with rfl | rfl
    · exact ((hown.row.below hb').below ha)
    · exact hown'.row.below ha
  · rintro e w3 ⟨A3, n3, c3, rfl, hown3, hb3⟩
    have hs1 := hb.size
    have hs2 := hb'.size
    have hs3 := hb3.size
    simp at hown3 hb3 hs3
    go_wp2
    go_ret
    refine ⟨A3, n3, c3, rfl, ?_, ?_⟩
    · have : joined [⟨A, m, c, b2 (n / 65536)⟩, ⟨A', m', c', b2 (n % 65536)⟩] = b4 n := by simp [joined, b4]
      rw [← this]
      exact hown3.mono (by omega)
    · exact (((hb.trans (hb'.mono hs1)).trans (ha.mono (by omega)))).trans (hb3.mono (by omega))

/-- The number of two bytes from a place on; 0 where they aren't all there. -/
def n2v (zs : List Int) (a : Nat) : Int := match zs[a]?, zs[a + 1]? with
  | some x, some y => 256 * x + y
  | _, _ => 0
/-- Are two bytes there? -/
def n2b (zs : List Int) (a : Nat) : Bool := decide (a + 2 ≤ zs.length)

theorem n2_any (A : Option Addr) (n c : Nat) (zs : List Int) (a : Nat) (w : World) (hr : Row w A n (cellsOf .u8 zs)) (hB : Bytes zs) (hn : n ≤ 140737488351232) (ha : a ≤ 140737488351232) :
    Calls Try.prog 98 #[.slice A n c, .int .i64 a] w (Quiet w (.tuple #[.int .i64 (n2v zs a), .bool (n2b zs a)])) := by
  have Hn := Lib.hid hr.len
  have HB := Lib.hid hB
  clear hB
  by_cases h : a + 2 ≤ n
  · obtain ⟨x, ex⟩ := get_some (zs := zs) (k := a) (by have := Hn.out; omega)
    obtain ⟨y, ey⟩ := get_some (zs := zs) (k := a + 1) (by have := Hn.out; omega)
    obtain ⟨g, off, rfl, hg, hc⟩ := hr.at (cellsOf_get (k := .u8) ex)
    obtain ⟨g', off', e', _, hc'⟩ := hr.at (cellsOf_get (k := .u8) ey)
    simp only [Option.some.injEq, Addr.mk.injEq, and_true] at e'
    obtain ⟨rfl, rfl⟩ := e'
    have hx := HB.out x (List.mem_of_getElem? ex)
    have hy := HB.out y (List.mem_of_getElem? ey)
    have HV : Hid (n2v zs a = 256 * x + y) := by unfold n2v; rw [ex, ey]; exact rfl
    have HT : Hid (n2b zs a = true) := by unfold n2b; rw [decide_eq_true_iff, Hn.out]; exact h
    clear ex ey
    obtain ⟨hx0, hx1⟩ := hx
    obtain ⟨hy0, hy1⟩ := hy
    have w1 : IntKind.i64.wrap ((a : Int) + 1) = (a : Int) + 1 := IntWalk.i64_in _ (by omega)
    have w2 : ((a : Int) + 1).toNat = a + 1 := by omega
    have w3 : (0 : Int) ≤ (a : Int) + 1 := by omega
    have w4 : (a : Int) + 1 < (n : Int) := by omega
    have w5 : IntKind.i64.wrap (256 * x) = 256 * x := IntWalk.i64_in _ (by omega)
    have w6 : IntKind.i64.wrap (256 * x + y) = 256 * x + y := IntWalk.i64_in _ (by omega)
    have w7 : IntKind.i64.wrap x = x := IntWalk.i64_in _ (by omega)
    have w8 : IntKind.i64.wrap y = y := IntWalk.i64_in _ (by omega)
    go_enter Try.func98, Try.ntmps98
    go_wp2
    go_quiet (fail)
    go_wp2
    go_ret2
    rw [HV.out, HT.out]
    exact ⟨rfl, _, rfl⟩
  · have HT : Hid (n2b zs a = false) := by unfold n2b; rw [decide_eq_false_iff_not, Hn.out]; exact h
    have HV : Hid (n2v zs a = 0) := by
      unfold n2v
      have : zs[a + 1]? = none := List.getElem?_eq_none (by have := Hn.out; omega)
      rw [this]
      cases zs[a]? <;> exact rfl
    go_enter Try.func98, Try.ntmps98
    go_wp2
    go_ret2
    rw [HV.out, HT.out]
    exact ⟨rfl, 0, rfl⟩

theorem sign_any (n : Int) (w : World) (h0 : 0 ≤ n) (h1 : n < 65536) : Calls Try.prog 124 #[.int .i64 n] w fun e w' => e = .returned (.int .i64 (if 32767 < n then n - 65536 else n)) ∧ w = w' := by
  by_cases h : 32767 < n
  · rw [if_pos h]
    go_enter Try.func124, Try.ntmps124
    go_wp2
    go_ret
    exact ⟨rfl, rfl⟩
  · rw [if_neg h]
    go_enter Try.func124, Try.ntmps124
    go_wp2
    go_ret
    exact ⟨rfl, rfl⟩

/-- The number of four bytes from a place on; 0 where they aren't all there. -/
def n4v (zs : List Int) (a : Nat) : Int := if a + 4 ≤ zs.length then 65536 * n2v zs a + n2v zs (a + 2) else 0
def n4b (zs : List Int) (a : Nat) : Bool := decide (a + 4 ≤ zs.length)

theorem n2v_le {zs : List Int} (hB : Bytes zs) (a : Nat) : 0 ≤ n2v zs a ∧ n2v zs a ≤ 65535 := by
  unfold n2v
  split
  · rename_i x y ex ey
    have := hB x (List.mem_of_getElem? ex)
    have := hB y (List.mem_of_getElem? ey)
    omega
  · omega

theorem n4_any (A : Option Addr) (n c : Nat) (zs : List Int) (a : Nat) (w : World) (hr : Row w A n (cellsOf .u8 zs)) (hB : Bytes zs) (hn : n ≤ 140737488351232) (ha : a ≤ 140737488351232) :
    Calls Try.prog 96 #[.slice A n c, .int .i64 a] w (Quiet w (.tuple #[.int .u32 (n4v zs a), .bool (n4b zs a)])) := by
  have Hn := Lib.hid hr.len
  obtain ⟨b1, b2⟩ := n2v_le hB a
  obtain ⟨b3, b4⟩ := n2v_le hB (a + 2)
  have HB := Lib.hid hB
  clear hB
  by_cases h : a + 4 ≤ n
  · have HV : Hid (n4v zs a = 65536 * n2v zs a + n2v zs (a + 2)) := by unfold n4v; rw [if_pos (by have := Hn.out; omega)]; exact rfl
    have HT : Hid (n4b zs a = true) := by unfold n4b; rw [decide_eq_true_iff, Hn.out]; exact h
    have t1 : n2b zs a = true := by unfold n2b; rw [decide_eq_true_iff, Hn.out]; omega
    have t2 : n2b zs (a + 2) = true := by unfold n2b; rw [decide_eq_true_iff, Hn.out]; omega
    go_enter Try.func96, Try.ntmps96
    go_wp2_with fail
    refine (n2_any _ _ _ zs _ _ hr HB.out hn ha).mono ?_
    rintro e w1 ⟨rfl, q, rfl⟩
    go_wp2_with fail
    rw [show ((a : Int) + 2) = ((a + 2 : Nat) : Int) by omega]
    refine (n2_any _ _ _ zs _ _ (hr.drewN q) HB.out hn (by omega)).mono ?_
    rintro e w1 ⟨rfl, q', rfl⟩
    go_wp2
    go_ret2
    rw [HV.out, HT.out]
    exact ⟨rfl, q + q', rfl⟩
  · have HT : Hid (n4b zs a = false) := by unfold n4b; rw [decide_eq_false_iff_not, Hn.out]; exact h
    have HV : Hid (n4v zs a = 0) := by unfold n4v; rw [if_neg (by have := Hn.out; omega)]; exact rfl
    go_enter Try.func96, Try.ntmps96
    go_wp2_with fail
    refine (n2_any _ _ _ zs _ _ hr HB.out hn ha).mono ?_
    rintro e w1 ⟨rfl, q, rfl⟩
    go_wp2
    go_ret2
    rw [HV.out, HT.out]
    exact ⟨rfl, q, rfl⟩

end Go.Proofs.Ytdaeffnaoeblpaa

/- What package word answers: bytes.Clone, New, and a Reader's calls, as contracts over this seat's translation. -/
namespace Go.Proofs.Ytdaeffnaoeblpaa
open Go.RowKit
set_option linter.unusedVariables false

theorem clone_any (A : Option Addr) (n c : Nat) (zs : List Int) (w : World) (hr : Row w A n (cellsOf .u8 zs)) (hn : n ≤ 140737488351232) :
    Calls Try.prog 90 #[.slice A n c] w (RetB w zs) := by
  obtain ⟨i0, hi, hz0, hz1, hz2⟩ := info_parts Try.u8info
  have Hn := Lib.hid hr.len
  cases A with
  | none =>
    have h0 : Hid (zs = []) := by
      have := Hn.out
      rcases Nat.eq_zero_or_pos n with h | h
      · exact List.eq_nil_of_length_eq_zero (by omega)
      · obtain ⟨g, off, e, _⟩ := hr.2 h
        cases e
    go_enter Try.func90, Try.ntmps90
    go_wp2
    go_ret
    refine ⟨none, 0, 0, rfl, ?_, Below.refl _ _⟩
    rw [h0.out]
    exact Own.nil _ _ _ _
  | some a =>
    go_enter Try.func90, Try.ntmps90
    go_wp2_with (at_builtin; refine wpList_append_row rfl (.tmp 5) (.tmp 6) _ rfl 5 .u8 w.heap.size i0 1 Try.underlying42 hi hz0 hz1 hz2 (some ⟨w.heap.size, 0, none⟩) 0 0 [] rfl (own_lit w w.heap.size 5 .u8 [] 0 rfl (Nat.le_refl _) (by simp only [maxLen]; omega)) (some a) n c zs rfl (hr.below ((Below.refl _ _).alloc (Nat.le_refl _) _)) (by omega) (by omega) (by simp) ?_)
    intro A2 c2 w' hown hg
    have hb : Below w.heap.size w w' := ((Below.refl _ _).alloc (Nat.le_refl _) _).grown hg (by simp) (fun k hk => by simp [blockOf] at hk; omega)
    clear hg
    go_wp2
    go_ret
    exact ⟨A2, n, c2, rfl, hown, hb⟩

/-- A Reader in block b: the numbers zs are left, a bytes were gone through. It, and the bytes that it reads, lie from block B on. -/
def Rd (w : World) (B b : Nat) (zs : List Int) (a : Int) (bad : Bool) : Prop :=
  ∃ A n c, w.heap[b]? = some (.cells #[.slice A n c, .int .i64 a, .bool bad] 235 (0, 0)) ∧ B ≤ b ∧ Row w A n (cellsOf .u8 zs) ∧ n ≤ c ∧ ∀ g, blockOf A = some g → B ≤ g ∧ ∃ cur, w.heap[g]? = some (.cells cur 5 (0, 0))

/-- Block b holds a Reader. -/
def RdBlock (w : World) (b : Nat) : Prop := ∃ cs, w.heap[b]? = some (.cells cs 235 (0, 0))

theorem Rd.block {w : World} {B b : Nat} {zs : List Int} {a : Int} {bad : Bool} (h : Rd w B b zs a bad) : RdBlock w b := by
  obtain ⟨A, n, c, hb, _⟩ := h
  exact ⟨_, hb⟩

theorem Rd.lt {w : World} {B b : Nat} {zs : List Int} {a : Int} {bad : Bool} (h : Rd w B b zs a bad) : b < w.heap.size := by
  obtain ⟨A, n, c, hb, _⟩ := h
  exact lt_of_block hb

theorem Rd.from_ {w : World} {B b : Nat} {zs : List Int} {a : Int} {bad : Bool} (h : Rd w B b zs a bad) : B ≤ b := by
  obtain ⟨A, n, c, hb, h1, _⟩ := h
  exact h1

theorem Rd.mono {w : World} {B B' b : Nat} {zs : List Int} {a : Int} {bad : Bool} (h : Rd w B b zs a bad) (hB : B' ≤ B) : Rd w B' b zs a bad := by
  obtain ⟨A, n, c, hb, h1, h2, h3, h4⟩ := h
  exact ⟨A, n, c, hb, by omega, h2, h3, fun g hg => ⟨by have := (h4 g hg).1; omega, (h4 g hg).2⟩⟩

theorem u8_ne_rd {w : World} {g b : Nat} {cur cs : Array Value} (h1 : w.heap[g]? = some (.cells cur 5 (0, 0))) (h2 : w.heap[b]? = some (.cells cs 235 (0, 0))) : g ≠ b := by
  rintro rfl
  rw [h1] at h2
  simp at h2

theorem Rd.keep {w w' : World} {B b : Nat} {zs : List Int} {a : Int} {bad : Bool} (h : Rd w B b zs a bad) (hs : w.heap.size ≤ w'.heap.size)
    (hk : ∀ g, g < w.heap.size → B ≤ g → (g = b ∨ ∃ cur, w.heap[g]? = some (.cells cur 5 (0, 0))) → w'.heap[g]? = w.heap[g]?) : Rd w' B b zs a bad := by
  obtain ⟨A, n, c, hb, h1, h2, h3, h4⟩ := h
  refine ⟨A, n, c, by rw [hk b (lt_of_block hb) h1 (.inl rfl)]; exact hb, h1, h2.keep hs (fun g e hg => hk g hg (h4 g e).1 (.inr (h4 g e).2)), h3, fun g e => ⟨(h4 g e).1, ?_⟩⟩
  obtain ⟨cur, hc⟩ := (h4 g e).2
  exact ⟨cur, by rw [hk g (lt_of_block hc) (h4 g e).1 (.inr ⟨cur, hc⟩)]; exact hc⟩

theorem Rd.below {w w' : World} {B b : Nat} {zs : List Int} {a : Int} {bad : Bool} (h : Rd w B b zs a bad) (hb : Below w.heap.size w w') : Rd w' B b zs a bad :=
  h.keep hb.size fun g hg _ _ => hb.block g hg

theorem Rd.drewN {w : World} {B b : Nat} {zs : List Int} {a : Int} {bad : Bool} (h : Rd w B b zs a bad) (q : Nat) : Rd (w.drewN q) B b zs a bad := h

/-- Another Reader has been asked. -/
theorem Rd.other {w w' : World} {B b b' : Nat} {zs : List Int} {a : Int} {bad : Bool} (h : Rd w B b zs a bad) (hg : w.grownBy w' (some b')) (hb' : RdBlock w b') (hne : b ≠ b') : Rd w' B b zs a bad :=
  h.keep hg.size fun g hlt _ ho => hg.block g hlt (by
    rintro ⟨⟩
    rcases ho with rfl | ⟨cur, hc⟩
    · exact hne rfl
    · obtain ⟨cs, h2⟩ := hb'
      exact u8_ne_rd hc h2 rfl)

/-- What New leaves. -/
def RetRd (w : World) (zs : List Int) (e : Ending) (w' : World) : Prop := ∃ b, e = .returned (.pointer (some ⟨b, 0, none⟩)) ∧ Rd w' w.heap.size b zs 0 false ∧ Below w.heap.size w w'

theorem new_any (A : Option Addr) (n c : Nat) (zs : List Int) (w : World) (hr : Row w A n (cellsOf .u8 zs)) (hn : n ≤ 140737488351232) :
    Calls Try.prog 135 #[.slice A n c] w (RetRd w zs) := by
  go_enter Try.func135, Try.ntmps135
  go_wp2_with fail
  refine (clone_any _ _ _ zs _ hr hn).mono ?_
  rintro e w1 ⟨A1, n1, c1, rfl, hown, hb⟩
  go_wp2
  go_ret
  have hs := hb.size
  refine ⟨w1.heap.size, rfl, ⟨A1, n1, c1, heap_alloc_new _ _, hs, hown.row.below ((Below.refl _ _).alloc (Nat.le_refl _) _), hown.cap, fun g hg => ?_⟩, hb.alloc hs _⟩
  rcases hown.shape with ⟨rfl, _⟩ | ⟨g', cur, rfl, h1, h2, h3, _⟩
  · simp [blockOf] at hg
  · simp [blockOf] at hg
    subst hg
    exact ⟨h1, cur, by rw [Below.heap_alloc _ _ _ h2]; exact h3⟩

/-- What asking a Reader leaves: a slice of m cells, and the Reader further on. -/
def RetNext (w : World) (B b : Nat) (ys zs : List Int) (a : Int) (bad : Bool) (e : Ending) (w' : World) : Prop :=
  ∃ A m c, e = .returned (.slice A m c) ∧ Row w' A m (cellsOf .u8 ys) ∧ (∀ g, blockOf A = some g → B ≤ g ∧ ∃ cur, w'.heap[g]? = some (.cells cur 5 (0, 0))) ∧ Rd w' B b zs a bad ∧ w.grownBy w' (some b)

theorem set_block {w : World} {b : Nat} {t : TypeId} {cs : Array Value} (hb : w.heap[b]? = some (.cells cs t (0, 0))) (i : Nat) (u : Value) : (w.setCell ⟨b, i, none⟩ u).heap[b]? = some (.cells (cs.setIfInBounds i u) t (0, 0)) := by
  simp [World.setCell, Array.getElem?_modify, hb]

theorem grown_set {w w' : World} {b : Nat} (h : w.grownBy w' (some b)) (i : Nat) (u : Value) : w.grownBy (w'.setCell ⟨b, i, none⟩ u) (some b) :=
  ⟨h.os, h.tape, h.output, by simpa [World.setCell] using h.size, fun k hk hne => (Below.heap_setCell w' _ u k (by rintro rfl; exact hne rfl)).trans (h.block k hk hne)⟩

/-- A Reader whose block alone was written. -/
theorem rd_next {w w' : World} {B b n c m n' c' : Nat} {A A' : Option Addr} {ys rs : List Int} {a a' : Int} {bad bad' : Bool}
    (hb : w.heap[b]? = some (.cells #[.slice A n c, .int .i64 a, .bool bad] 235 (0, 0))) (h1 : B ≤ b) (h4 : ∀ g, blockOf A = some g → B ≤ g ∧ ∃ cur, w.heap[g]? = some (.cells cur 5 (0, 0)))
    (hg : w.grownBy w' (some b)) (hb' : w'.heap[b]? = some (.cells #[.slice A' n' c', .int .i64 a', .bool bad'] 235 (0, 0)))
    (hA : ∀ g, blockOf A' = some g → blockOf A = some g) (hy : Row w A m (cellsOf .u8 ys)) (hr : Row w A' n' (cellsOf .u8 rs)) (hc : n' ≤ c') :
    RetNext w B b ys rs a' bad' (.returned (.slice A m m)) w' := by
  have k4 : ∀ g, blockOf A = some g → w'.heap[g]? = w.heap[g]? := fun g e => by
    obtain ⟨_, cur, hcur⟩ := h4 g e
    exact hg.block g (lt_of_block hcur) (by rintro ⟨⟩; exact u8_ne_rd hcur hb rfl)
  have k5 : ∀ g, blockOf A = some g → B ≤ g ∧ ∃ cur, w'.heap[g]? = some (.cells cur 5 (0, 0)) := fun g e => by
    obtain ⟨h, cur, hcur⟩ := h4 g e
    exact ⟨h, cur, by rw [k4 g e]; exact hcur⟩
  exact ⟨A, m, m, rfl, hy.keep hg.size (fun g e _ => k4 g e), k5, ⟨A', n', c', hb', h1, hr.keep hg.size (fun g e _ => k4 g (hA g e)), hc, fun g e => k5 g (hA g e)⟩, hg⟩

set_option maxHeartbeats 400000 in
theorem next_ok (B b m : Nat) (zs : List Int) (a : Int) (bad : Bool) (w : World) (h : Rd w B b zs a bad) (hm : m ≤ zs.length) (hl : zs.length ≤ 140737488351232) (ha0 : 0 ≤ a) (ha1 : a ≤ 1000000000000000) :
    Calls Try.prog 175 #[.pointer (some ⟨b, 0, none⟩), .int .i64 m] w (RetNext w B b (zs.take m) (zs.drop m) (a + m) bad) := by
  obtain ⟨A, n, c, hb, h1, h2, h3, h4⟩ := h
  have Hn := Lib.hid h2.len
  have hmn : m ≤ n := by have := Hn.out; omega
  have hnl : n ≤ 140737488351232 := by have := Hn.out; omega
  have c0 : w.cell? ⟨b, 0, none⟩ = some (.slice A n c) := cell_of_row w b 0 _ 235 (0, 0) hb
  have c1 : w.cell? ⟨b, 1, none⟩ = some (.int .i64 a) := cell_of_row w b 1 _ 235 (0, 0) hb
  have f0 : ∀ o, w.frozen? ⟨b, o, none⟩ = false := fun o => by simp [World.frozen?, hb]
  have Hb := Lib.hid hb
  have H4 := Lib.hid h4
  clear hb hm hl h4
  go_enter Try.func175, Try.ntmps175
  go_wp2
  all_goals go_ret
  · have h : c = m := by assumption
    exact rd_next Hb.out h1 H4.out (grown_set (grown_set (World.grownBy.refl w _) _ _) _ _) (set_block (set_block Hb.out 0 _) 1 _) (fun g e => e) (by rw [← cellsOf_take]; exact h2.take hmn)
      (by rw [List.drop_of_length_le (by have := Hn.out; omega), show n - m = 0 by omega]; exact Row.empty _ _) (by omega)
  · exact rd_next Hb.out h1 H4.out (grown_set (grown_set (World.grownBy.refl w _) _ _) _ _) (set_block (set_block Hb.out 0 _) 1 _) (fun g e => by rw [← blockOf_add A m]; exact e) (by rw [← cellsOf_take]; exact h2.take hmn)
      (by rw [← cellsOf_drop]; exact h2.drop m) (by omega)

set_option maxHeartbeats 400000 in
theorem next_bad (B b : Nat) (m : Int) (zs : List Int) (a : Int) (bad : Bool) (w : World) (h : Rd w B b zs a bad) (hm : m < 0 ∨ (zs.length : Int) < m) :
    Calls Try.prog 175 #[.pointer (some ⟨b, 0, none⟩), .int .i64 m] w (RetNext w B b [] [] a true) := by
  obtain ⟨A, n, c, hb, h1, h2, h3, h4⟩ := h
  have Hn := Lib.hid h2.len
  have c0 : w.cell? ⟨b, 0, none⟩ = some (.slice A n c) := cell_of_row w b 0 _ 235 (0, 0) hb
  have c1 : w.cell? ⟨b, 1, none⟩ = some (.int .i64 a) := cell_of_row w b 1 _ 235 (0, 0) hb
  have c2 : w.cell? ⟨b, 2, none⟩ = some (.bool bad) := cell_of_row w b 2 _ 235 (0, 0) hb
  have f0 : ∀ o, w.frozen? ⟨b, o, none⟩ = false := fun o => by simp [World.frozen?, hb]
  have hm' : m < 0 ∨ (n : Int) < m := by have := Hn.out; omega
  have Hb := Lib.hid hb
  clear hb hm h4
  have fin : RetNext w B b [] [] a true (.returned (.slice none 0 0)) ((w.setCell ⟨b, 0, none⟩ (.slice none 0 0)).setCell ⟨b, 2, none⟩ (.bool true)) :=
    ⟨none, 0, 0, rfl, Row.empty _ _, fun g e => by simp [blockOf] at e, ⟨none, 0, 0, set_block (set_block Hb.out 0 _) 2 _, h1, Row.empty _ _, Nat.le_refl _, fun g e => by simp [blockOf] at e⟩, grown_set (grown_set (World.grownBy.refl w _) _ _) _ _⟩
  have Fin := Lib.hid fin
  clear fin
  by_cases h0 : m < 0
  · go_enter Try.func175, Try.ntmps175
    go_wp2
    go_ret
    exact Fin.out
  · have h5 : (n : Int) < m := by omega
    clear hm'
    go_enter Try.func175, Try.ntmps175
    go_wp2
    go_ret
    exact Fin.out

end Go.Proofs.Ytdaeffnaoeblpaa
