/- group.Parse, Groups and Look, as contracts over this seat's translation. -/
import Derived.Test.YthkaeimpflggjaaGrpP
import Derived.Deep.WholeRow
import Derived.RegionTactic
import Derived.ChangeAlike
import Derived.BigRegion
import Derived.Deep.QuietTactic
import Derived.BigQuiet
namespace Go.Proofs.Ythkaeimpflggjaa
open Go.RowKit
set_option linter.unusedVariables false

theorem one3 (a b c : Int) : (#[Value.int .i32 a, .int .i32 b, .int .u16 c].all (·.oneCell')) = true := by
  rw [← Array.all_toList]
  rfl

def gmV (A : Option Addr) (n c : Nat) : Value := .agg #[.slice A n c]

/-- What the search asks. -/
def pG (l : List Rn) (code : Int) (i : Nat) : Bool := decide (code ≤ (l.getD i default).b)

theorem pG_get {l : List Rn} {code : Int} {i : Nat} {x : Rn} (h : l[i]? = some x) : pG l code i = decide (code ≤ x.b) := by unfold pG; rw [List.getD_eq_getElem?_getD, h]; rfl

end Go.Proofs.Ythkaeimpflggjaa
