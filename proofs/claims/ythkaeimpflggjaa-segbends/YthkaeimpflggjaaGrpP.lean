/- group.Parse, as a contract over this seat's translation. -/
import Derived.Test.YthkaeimpflggjaaGrpM
import Derived.Test.YthkaeimpflggjaaPrs
import Derived.Test.YthkaeimpflggjaaTwo
import Derived.Test.YthkaeimpflggjaaInts
import Derived.Lib.MinMax
namespace Go.Proofs.Ythkaeimpflggjaa
open Go.RowKit
set_option linter.unusedVariables false

theorem row_take16 {w : World} {A : Option Addr} {n : Nat} {zs : List Int} (M : Nat) (hr : Row w A n (cellsOf .u8 zs)) : Row w A (min n M) (cellsOf .u8 (zs.take M)) := by
  have h := hr.take (k := min n M) (Nat.min_le_left _ _)
  rw [cellsOf_take] at h
  have hl := hr.len
  rw [show zs.take M = zs.take (min n M) by
    rcases Nat.le_total n M with h1 | h1
    · rw [List.take_of_length_le (by omega), List.take_of_length_le (by omega)]
    · rw [show min n M = M by omega]]
  exact h

/-- How many groups it says that it has. -/
def gCnt (zs : List Int) : Int := if gFront zs then n4at zs 12 else 0

def rnV (x : Rn) : Value := .agg #[.int .i32 x.a, .int .i32 x.b, .int .u16 x.g]

def rgV (x : Rn) : Value := if gOne x then rnV x else rnV ⟨0, 0, 0⟩

/-- What reading a group leaves. -/
def RetRG (w : World) (B b : Nat) (zs : List Int) (i : Nat) (x : Rn) (e : Ending) (w' : World) : Prop :=
  e = .returned (.tuple #[rgV x, .bool (gOne x)]) ∧ RdQ w' B b zs (i + 12) ∧ w.grownBy w' (some b)

end Go.Proofs.Ythkaeimpflggjaa
