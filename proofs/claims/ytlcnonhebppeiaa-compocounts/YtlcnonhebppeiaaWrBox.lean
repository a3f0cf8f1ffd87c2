/- A Writer beside a struct in a block of its own: what a Writer's call leaves of both. -/
import Derived.Test.YtlcnonhebppeiaaWrites
import Derived.Deep.RegionHeld3
namespace Go.Proofs.Ytlcnonhebppeiaa
open Go.RowKit
set_option linter.unusedVariables false

/-- A block of another kind is no Writer's. -/
theorem Wr.apart {w : World} {B b k : Nat} {zs : List Int} {cs : Array Value} {t : TypeId} (h : Wr w B b zs) (hk : w.heap[k]? = some (.cells cs t (0, 0))) (h1 : t ≠ 5) (h2 : t ≠ 97) : ¬ WrS w b k := by
  rintro (rfl | ⟨A, n, c, hb, e⟩)
  · obtain ⟨A, n, c, hb, _⟩ := h
    rw [hk] at hb
    simp at hb
    exact h2 hb.2
  · obtain ⟨A', n', c', hb', _, hown⟩ := h
    rw [hb] at hb'
    simp at hb'
    obtain ⟨rfl, rfl, rfl⟩ := hb'
    rcases hown.shape with ⟨rfl, _⟩ | ⟨g, cur, rfl, _, _, hh, _⟩
    · simp [blockOf] at e
    · simp [blockOf] at e
      subst e
      rw [hk] at hh
      simp at hh
      exact h1 hh.2

/-- A Writer in block b that is younger than w, and a struct in block bt. -/
structure StB (w wr : World) (b : Nat) (zs : List Int) (bt : Nat) (cs : Array Value) (t : TypeId) : Prop where
  wr_ : Wr wr w.heap.size b zs
  bel : Below w.heap.size w wr
  box : wr.heap[bt]? = some (.cells cs t (0, 0))
  n8 : t ≠ 5
  nw : t ≠ 97

section
variable {w wr w' : World} {b : Nat} {zs ys : List Int} {bt : Nat} {cs : Array Value} {t : TypeId}
theorem StB.below (h : StB w wr b zs bt cs t) (hb : Below wr.heap.size wr w') : StB w w' b zs bt cs t :=
  ⟨h.wr_.below hb, h.bel.trans (hb.mono h.bel.size), (hb.block _ (lt_of_block h.box)).trans h.box, h.n8, h.nw⟩
theorem StB.turned (h : StB w wr b zs bt cs t) (h1 : Wr w' w.heap.size b ys) (ht : Turned wr w' (WrS wr b)) : StB w w' b ys bt cs t :=
  ⟨h1, h.wr_.older h.bel (Nat.le_refl _) ht, (ht.block _ (lt_of_block h.box) (h.wr_.apart h.box h.n8 h.nw)).trans h.box, h.n8, h.nw⟩
theorem StB.drew (h : StB w wr b zs bt cs t) : StB w wr.drew b zs bt cs t := ⟨h.wr_, h.bel.drew, h.box, h.n8, h.nw⟩
theorem StB.drewN (h : StB w wr b zs bt cs t) (q : Nat) : StB w (wr.drewN q) b zs bt cs t := ⟨h.wr_, below_drewN h.bel q, h.box, h.n8, h.nw⟩
theorem StB.cell (h : StB w wr b zs bt cs t) (i : Nat) (v : Value) (hi : cs[i]? = some v) : wr.cell? ⟨bt, i, none⟩ = some v := (cell_of_row wr _ i _ _ _ h.box).trans hi
theorem StB.size (h : StB w wr b zs bt cs t) : w.heap.size ≤ wr.heap.size := h.bel.size
end

/-- A struct that is boxed, and a new Writer behind it. -/
theorem stB_new (w : World) (cs : Array Value) (t : TypeId) (h8 : t ≠ 5) (hw : t ≠ 97) : StB w ((w.alloc (.cells cs t)).alloc (.cells #[.slice none 0 0] 97)) (w.heap.size + 1) [] w.heap.size cs t := by
  have hb1 : Below w.heap.size w (w.alloc (.cells cs t)) := (Below.refl _ _).alloc (Nat.le_refl _) _
  have hw' := wr_new (w.alloc (.cells cs t))
  have hs : (w.alloc (.cells cs t)).heap.size = w.heap.size + 1 := by simp
  rw [hs] at hw'
  refine ⟨hw'.mono (by omega), hb1.alloc (by rw [hs]; omega) _, ?_, h8, hw⟩
  rw [Below.heap_alloc _ _ _ (by rw [hs]; omega)]
  exact heap_alloc_new w _

/-- An element of an array that is a value. -/
theorem run_index_arr {P : Program} (w : World) (T e : TypeId) (len : Nat) (cs : Array Value) (k : Nat) (v : Value) (hT : P.underlying T = some (.array len e)) (ha : (isAgg e).run P w = .ok false w) (hs : (Go.sizeOf e).run P w = .ok 1 w) (hk : k < len) (hv : cs[k]? = some v) :
    (Instr.index T (.agg cs) (.int .i64 k)).run P w = .ok v w := by
  have hk' : (k : Int) < (len : Int) := by omega
  have hk0 : (0 : Int) ≤ (k : Int) := by omega
  simp only [Instr.index, asIntOf, Sem.run_bind, Sem.run_pure, Result.andThen_ok, run_underlying hT, hk', hk0, and_self, if_true, hs, Int.toNat_natCast, Nat.mul_one, Go.part, ha, Bool.false_eq_true, if_false, hv]

end Go.Proofs.Ytlcnonhebppeiaa
