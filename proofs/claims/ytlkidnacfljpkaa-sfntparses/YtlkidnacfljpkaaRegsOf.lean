/- The regions of a function's code, to be spoken of one by one. -/
import Derived.Test.YtlkidnacfljpkaaLoopsOf
namespace Go.Proofs.Ytlkidnacfljpkaa
open Go.RowKit

/-- The regions of a piece of code, with their numbers. -/
def regsOf : Code → List (Nat × Array Oper)
  | .region i o _ => [(i, o)]
  | .loop c => regsOf c
  | .seq a b => regsOf a ++ regsOf b
  | .block _ c => regsOf c
  | .scope c => regsOf c
  | .cond _ a b => regsOf a ++ regsOf b
  | _ => []
/-- The operations of the region of a number. -/
def regOf (c : Code) (i : Nat) : Array Oper := (((regsOf c).find? (fun p => p.1 == i)).map (·.2)).getD #[]

end Go.Proofs.Ytlkidnacfljpkaa
