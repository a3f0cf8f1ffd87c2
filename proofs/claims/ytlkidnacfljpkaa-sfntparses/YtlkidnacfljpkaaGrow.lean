/- A region that draws its order, whose operations read and whose calls make memory of their own and answer values: walked once. -/
import Derived.Test.YtlkidnacfljpkaaMem
import Derived.BigQuiet
import Derived.Shelf.SlSortCmp.QuietGrown
namespace Go.Proofs.Ytlkidnacfljpkaa
open Go.RowKit
set_option linter.unusedVariables false

/-- w with blocks behind it, at another place of the tape. -/
def gw (w : World) (n : Nat) (os : Array Obj) : World := { w with heap := w.heap ++ os, drawn := n }

theorem gw_size (w : World) (n : Nat) (os : Array Obj) : w.heap.size ≤ (gw w n os).heap.size := by simp [gw]

theorem gw_below (w : World) (n : Nat) (os : Array Obj) : Below w.heap.size w (gw w n os) :=
  ⟨rfl, rfl, rfl, gw_size w n os, fun k hk => by simp [gw, Array.getElem?_append, hk]⟩

theorem below_gw {w w' : World} (h : Below w.heap.size w w') : ∃ p : GrownBy, w' = gw w p.n p.os := by
  refine ⟨⟨w'.drawn, w'.heap.extract w.heap.size w'.heap.size⟩, ?_⟩
  obtain ⟨h1, h2, h3, h4, h5⟩ := h
  cases w'
  cases w
  simp only [gw, World.mk.injEq] at *
  subst h1 h2 h3
  simp only [and_true]
  rename_i heap' _ heap _ _ _ _
  apply Array.ext_getElem?
  intro i
  rw [Array.getElem?_append]
  split
  · rename_i hi; exact h5 i hi
  · rename_i hi
    rw [Array.getElem?_extract]
    split
    · congr 1; omega
    · rw [Array.getElem?_eq_none (by omega)]

theorem gw_cell {w : World} {a : Addr} {v : Value} (h : w.cell? a = some v) (n : Nat) (os : Array Obj) : (gw w n os).cell? a = some v := by
  have hb : a.block < w.heap.size := World.block_lt_of_cell? w _ h
  exact (World.cell?_of_block (w := w) ((gw_below w n os).block _ hb)).trans h

theorem gw_frozen {w : World} {a : Addr} (hb : a.block < w.heap.size) (n : Nat) (os : Array Obj) : (gw w n os).frozen? a = w.frozen? a := (gw_below w n os).frozen hb

theorem region_below {P : Program} {id : Nat} {Q : Exit → Act → World → Prop} {a : Act} {w : World} {l : List Oper} (hm : P.follows .mixedOrders = true) (hB : Region.lexB .any l.toArray = true)
    (h : wpQuiet P l.toArray (fun w' => ∃ p : GrownBy, w' = gw w p.n p.os) (fun a' => ∀ w', (∃ p : GrownBy, w' = gw w p.n p.os) → Q .normal a' w') l a) : (Code.region id l.toArray true).wp P Q a w :=
  wp_region_quiet (C := fun w' => ∃ p : GrownBy, w' = gw w p.n p.os) hm hB ⟨⟨w.drawn + 1, #[]⟩, by simp [gw]⟩ (by simpa using h)

theorem calls_gw {P : Program} {f : FuncId} {args : Array Value} {w : World} {n : Nat} {os : Array Obj} {v : Value}
    (h : Calls P f args (gw w n os) fun e w' => e = .returned v ∧ Below (gw w n os).heap.size (gw w n os) w') : Calls P f args (gw w n os) fun e w'' => e = .returned v ∧ ∃ p : GrownBy, w'' = gw w p.n p.os :=
  h.mono fun _ _ ⟨he, hb⟩ => ⟨he, below_gw ((gw_below w n os).trans (hb.mono (gw_size w n os)))⟩

theorem calls_gw_same {P : Program} {f : FuncId} {args : Array Value} {w : World} {n : Nat} {os : Array Obj} {v : Value}
    (h : Calls P f args (gw w n os) fun e w' => e = .returned v ∧ w' = gw w n os) : Calls P f args (gw w n os) fun e w'' => e = .returned v ∧ ∃ p : GrownBy, w'' = gw w p.n p.os :=
  h.mono fun _ _ ⟨he, hb⟩ => ⟨he, ⟨n, os⟩, hb⟩

end Go.Proofs.Ytlkidnacfljpkaa
