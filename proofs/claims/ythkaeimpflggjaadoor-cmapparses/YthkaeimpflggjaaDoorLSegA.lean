/- The document's example of segments; a map in a box. -/
import Derived.Test.YthkaeimpflggjaaDoorSegY
import Derived.Test.YthkaeimpflggjaaDoorRunS
import Derived.Test.YthkaeimpflggjaaDoorPrsA
import Derived.Test.YthkaeimpflggjaaDoorLaw01
namespace Go.Proofs.YthkaeimpflggjaaDoor
open Go.RowKit
set_option linter.unusedVariables false

/-- A map in a box. -/
structure BoxS (w wr : World) (bx : Nat) (A2 : Option Addr) (N c2 : Nat) (zs : List Int) (g : Nat) : Prop where
  box : wr.heap[bx]? = some (.cells #[.slice A2 N c2] 35 (0, 0))
  map : SMap wr A2 N zs g
  bel : Below w.heap.size w wr
theorem BoxS.below {w wr w' : World} {bx : Nat} {A2 : Option Addr} {N c2 : Nat} {zs : List Int} {g : Nat} (h : BoxS w wr bx A2 N c2 zs g) (hb : Below wr.heap.size wr w') : BoxS w w' bx A2 N c2 zs g :=
  ⟨kept_block h.box hb, h.map.below hb, h.bel.trans (hb.mono h.bel.size)⟩
theorem BoxS.cell {w wr : World} {bx : Nat} {A2 : Option Addr} {N c2 : Nat} {zs : List Int} {g : Nat} (h : BoxS w wr bx A2 N c2 zs g) : wr.cell? ⟨bx, 0, none⟩ = some (.slice A2 N c2) := cell_of_row _ _ 0 _ _ _ h.box
theorem BoxS.look {w wr : World} {bx : Nat} {A2 : Option Addr} {N c2 : Nat} {zs : List Int} {g : Nat} (h : BoxS w wr bx A2 N c2 zs g) (hN : N ≤ 100000) (code v : Int) (hv : lookS zs N code 0 N = v) (c0 : -2147483648 ≤ code) (c1 : code ≤ 2147483647) :
    Calls Tryd.prog 34 #[.agg #[.slice A2 N c2], .int .i32 code] wr (Ret wr (.int .u16 v)) := hv ▸ slook_any A2 N c2 zs g code wr h.map (by omega) c0 c1

def ex09 : List Pr := [⟨65, 3⟩, ⟨66, 4⟩]
theorem ex09_g : PrG ex09 := by intro p hp; simp [ex09] at hp; rcases hp with rfl | rfl <;> simp

theorem glyphOf_absent {c : Int} : ∀ {l : List Pr}, (∀ p ∈ l, p.code ≠ c) → glyphOf c l = 0
  | [], _ => rfl
  | p :: r, h => by
    rw [glyphOf, if_neg (h p (by simp))]
    exact glyphOf_absent (fun q hq => h q (by simp [hq]))

end Go.Proofs.YthkaeimpflggjaaDoor
