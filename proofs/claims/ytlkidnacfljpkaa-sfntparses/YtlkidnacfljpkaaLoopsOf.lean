/- The loops of a function's code, to be spoken of one by one. -/
import Derived.Test.YtlkidnacfljpkaaMem
namespace Go.Proofs.Ytlkidnacfljpkaa
open Go.RowKit

/-- The bodies of the loops of a piece of code, outer ones first. -/
def loopsOf : Code → List Code
  | .loop c => c :: loopsOf c
  | .seq a b => loopsOf a ++ loopsOf b
  | .block _ c => loopsOf c
  | .scope c => loopsOf c
  | .cond _ a b => loopsOf a ++ loopsOf b
  | _ => []

end Go.Proofs.Ytlkidnacfljpkaa
