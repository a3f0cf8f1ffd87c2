/- What package dot answers (Round, Apply, Move, Scale, Unit), and the document's own answers, as contracts over this seat's translation. -/
import Derived.Test.YtlcnonhebppeiaaMem
import Derived.BigQuiet
import Derived.StillTailTactics
namespace Go.Proofs.Ytlcnonhebppeiaa
open Go.RowKit
set_option linter.unusedVariables false

/-- To the nearest of 16384ths, the half up. -/
def rnd (n : Int) : Int := (n + 8192) / 16384

/-- A point as a value. -/
abbrev ptV (x y : Int) (on : Bool) : Value := .agg #[.int .i64 x, .int .i64 y, .bool on]
abbrev mxV (a b c d : Int) : Value := .agg #[.int .i16 a, .int .i16 b, .int .i16 c, .int .i16 d]

/-- A region that draws its order, all of which only reads and asks but for its end. -/
theorem region_tail {P : Program} {id : Nat} {Q : Exit → Act → World → Prop} {a : Act} {w : World} {l : List Oper} (n : Nat) (hm : P.follows .mixedOrders = true) (hB : Region.lexTailB .any l.toArray n = true)
    (h : wpStill P l.toArray w.drew (fun a' => wpList P l.toArray Q (l.drop n) a' w.drew) (l.take n) a) : (Code.region id l.toArray true).wp P Q a w := wp_region_still_tail n hm hB h

theorem mul_bd (a x : Int) (a0 : -32768 ≤ a) (a1 : a ≤ 32767) (x0 : -2199023255552 ≤ x) (x1 : x ≤ 2199023255552) : -72057594037927936 ≤ a * x ∧ a * x ≤ 72057594037927936 := by
  have h1 : a.natAbs ≤ 32768 := by omega
  have h2 : x.natAbs ≤ 2199023255552 := by omega
  have h3 : (a * x).natAbs ≤ 72057594037927936 := by
    rw [Int.natAbs_mul]
    exact Nat.mul_le_mul h1 h2
  omega

end Go.Proofs.Ytlcnonhebppeiaa
