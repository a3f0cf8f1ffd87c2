/- Words for slices of numbers of any kind: what comes in, make, a store, slices.Equal of ints. -/
import Derived.Test.YtlcnonhebppeiaaRef
import Derived.ProofKit
import Derived.ChangeSame
import Derived.OwnWalk
import Derived.Laws.MakeOwn
namespace Go.Proofs.Ytlcnonhebppeiaa
open Go.RowKit Go.ChangeShapes Go.WideShapes Go.ChangeAt
set_option linter.unusedVariables false

/-- All are numbers of the kind. -/
def Wf (k : IntKind) (zs : List Int) : Prop := ∀ x ∈ zs, (Lit.int k x).wf = true

set_option maxRecDepth 100000 in
theorem open_nums {T e : TypeId} {k : IntKind} (hT : Try.prog.underlying T = some (.slice e)) (he : Try.prog.underlying e = some (.int k)) (h1 : Try.prog.cellsOf e = 1) {H : Type} {enc : TypeId × Value → H} {W : World} {base : Nat} {v : Value} {d : DataW H} {p : List MemPlace} (hv : Value.okWide Try.prog W .any base T v) (h : DataW.Trod enc Try.prog W 0 (fun _ => true) true T v d p) :
    ∃ A n c zs, v = .slice A n c ∧ Row W A n (cellsOf k zs) ∧ Wf k zs ∧ n ≤ 9223372036854775807 ∧ n ≤ c := by
  obtain ⟨a, len, cap, rfl⟩ := okWide_slice hT hv
  obtain ⟨fuel, hf⟩ := h
  have key : ∃ zs, (a = none ∧ len = 0 ∧ cap = 0 ∧ zs = []) ∨ ∃ x, a = some x ∧ len ≤ cap ∧ cap ≤ maxLen ∧ zs.length = cap ∧ (∀ i, i < zs.length → W.cell? (x.add i) = some (.int k (zs.getD i 0))) ∧ ∀ n ∈ zs, (Lit.int k n).wf = true := by
    rcases open_ints hT he h1 hf with ⟨hcs, _⟩ | ⟨x, l, c, zs, hcs, _, hl, hm, hz, _, hcell, hwz⟩
    · simp [Value.cells] at hcs
      obtain ⟨rfl, rfl, rfl⟩ := hcs
      exact ⟨[], .inl ⟨rfl, rfl, rfl, rfl⟩⟩
    · simp [Value.cells] at hcs
      obtain ⟨rfl, rfl, rfl⟩ := hcs
      exact ⟨zs, .inr ⟨_, rfl, hl, hm, by simpa using hz, hcell, hwz⟩⟩
  obtain ⟨zs, w0⟩ := key
  refine ⟨a, len, cap, zs.take len, rfl, (row_of w0).1, (row_of w0).2.2, (row_of w0).2.1, ?_⟩
  rcases w0 with ⟨_, h1, h2, _⟩ | ⟨_, _, h, _⟩
  · omega
  · exact h

theorem cellsOf_set (k : IntKind) (zs : List Int) (j : Nat) (x : Int) : cellsOf k (zs.set j x) = (cellsOf k zs).set j (.int k x) := by simp [cellsOf, List.map_set]

section
variable {t : TypeId} {k : IntKind} {w : World} {B g n c : Nat} {zs : List Int}

theorem Own.thaw (h : Own t k w B (some ⟨g, 0, none⟩) n c zs) (o : Nat) : w.frozen? ⟨g, o, none⟩ = false := by
  rcases h.shape with ⟨e, _⟩ | ⟨g', cur, e, _, _, hh, _⟩
  · cases e
  · simp only [Option.some.injEq, Addr.mk.injEq, and_true] at e
    subst e
    simp [World.frozen?, hh]

theorem Own.block (h : Own t k w B (some ⟨g, 0, none⟩) n c zs) : ∃ cur, w.heap[g]? = some (.cells cur t (0, 0)) := by
  rcases h.shape with ⟨e, _⟩ | ⟨g', cur, e, _, _, hh, _⟩
  · cases e
  · simp only [Option.some.injEq, Addr.mk.injEq, and_true] at e
    subst e
    exact ⟨cur, hh⟩

/-- A store into a fresh row of numbers. -/
theorem Own.set (h : Own t k w B (some ⟨g, 0, none⟩) n c zs) (j : Nat) (x : Int) : Own t k (w.setCell ⟨g, j, none⟩ (.int k x)) B (some ⟨g, 0, none⟩) n c (zs.set j x) := by
  rcases h.shape with ⟨e, _⟩ | ⟨g', cur, e, hB, hg, hh, h1, h2, h3, h4⟩
  · cases e
  · simp only [Option.some.injEq, Addr.mk.injEq, and_true] at e
    subst e
    have hl := h.len
    refine ⟨by rw [cellsOf_length, List.length_set, hl]; omega, .inr ⟨g, c, cur.setIfInBounds j (.int k x), rfl, hB, ?_, h1, h2, by simpa using h3, ?_⟩⟩
    · simp [World.setCell, Array.getElem?_modify, hh]
    · rw [cellsOf_set, ← h4, Nat.mul_one]
      simp [List.take_set]
end

/-- 'make([]T, n, m)' for numbers. -/
theorem wpList_make_ints {P : Program} {w : World} {ops : Array Oper} {rest : List Oper} {o : Oper} {a : Act} {Q : Exit → Act → World → Prop} (hg : o.guard = none) (l c : Operand) (T : TypeId) (hop : o.op = Op.makeSlice T l c)
    (t : TypeId) (k : IntKind) (B : Nat) (i : TypeInfo) (b : Nat) (h1 : P.underlying T = some (.slice t)) (h2 : P.info? t = some i) (h3 : i.zero = some (.int k 0)) (h4 : i.size = 1) (h5 : i.bytes = b)
    (L C : Int) (n m : Nat) (hl : a.eval l = .int .i64 L) (hc : a.eval c = .int .i64 C) (hL : L = (n : Int)) (hC : C = (m : Int)) (hnm : n ≤ m) (b2 : b * m ≤ 281474976710656) (b3 : m ≤ 9223372036854775807) (b4 : B ≤ w.heap.size)
    (hK : ∀ w', Own t k w' B (some ⟨w.heap.size, 0, none⟩) n m (List.replicate n 0) → w.grownBy w' none → wpList P ops Q rest (a.put o.dst (.slice (some ⟨w.heap.size, 0, none⟩) n m)) w') : wpList P ops Q (o :: rest) a w := by
  refine wpList_plain hg fun K hK' => ?_
  subst hL hC h5
  have hb' : (i.bytes : Int) * (m : Int) ≤ 281474976710656 := by
    have h : ((i.bytes * m : Nat) : Int) ≤ 281474976710656 := by omega
    rwa [Int.natCast_mul] at h
  have hr := run_make (P := P) w T t i (.int k 0) h1 h2 h3 .i64 .i64 n m (by omega) (by omega) hb' (by omega)
  simp only [Int.toNat_natCast, h4, Nat.mul_one] at hr
  unfold Oper.wp
  simp [execOp, hop, hl, hc, hr, Result.andThen]
  refine hK' _ _ (hK _ ?_ (World.grownBy_alloc w _ none))
  refine ⟨by rw [cellsOf_length, List.length_replicate]; omega, .inr ⟨w.heap.size, m, _, rfl, b4, heap_alloc_new w _, hnm, by simp only [maxLen]; omega, by rw [size_madeCells, Nat.mul_one], ?_⟩⟩
  rw [Nat.mul_one]
  apply List.ext_getElem?
  intro j
  by_cases hj : j < n
  · simp [madeCells, cellsOf, hj, Nat.mod_one, Value.cells, show j < m by omega]
  · simp [List.getElem?_take, hj, cellsOf]

theorem Try.i64info : (Try.prog.info? 3).map (fun i => (i.zero, i.size, i.bytes)) = some (some (.int .i64 0), 1, 8) := by kernel_rfl

/-- What a call that tells fresh numbers, or that there are none, leaves. -/
def RetPl (w : World) (ok : Bool) (zs : List Int) (bad good : Value) (e : Ending) (w' : World) : Prop :=
  Below w.heap.size w w' ∧ ((ok = false ∧ e = .returned (.tuple #[.slice none 0 0, bad])) ∨ (ok = true ∧ ∃ A n c, e = .returned (.tuple #[.slice A n c, good]) ∧ Own 3 .i64 w' w.heap.size A n c zs))

end Go.Proofs.Ytlcnonhebppeiaa
