/- group.Build, as a contract over this seat's translation. -/
import Derived.Test.YthkaeimpflggjaaGrpB
import Derived.Test.YthkaeimpflggjaaWrBox
import Derived.Deep.RegionHeld3
import Derived.Deep.DeepCutAuto
namespace Go.Proofs.Ythkaeimpflggjaa
open Go.RowKit
set_option linter.unusedVariables false

def gBody (x : Rn) : List Int := b4 x.a ++ (b4 x.b ++ b4 x.g)
def gHead (m : Nat) : List Int := b2 12 ++ (b2 0 ++ (b4 (16 + (m : Int) * 12) ++ (b4 0 ++ b4 (m : Int))))
def gBytes (rs : List Rn) : List Int := gHead rs.length ++ rs.flatMap gBody
def gOut (l : List Pr) : List Int := if risesF 1114111 (-1) l then gBytes (runsF folG l) else []

theorem gBody_len (x : Rn) : (gBody x).length = 12 := rfl
theorem gHead_len (m : Nat) : (gHead m).length = 16 := rfl
theorem gFlat_len : ∀ rs : List Rn, (rs.flatMap gBody).length = 12 * rs.length
  | [] => rfl
  | x :: r => by rw [List.flatMap_cons, List.length_append, gFlat_len r, gBody_len]; simp; omega
theorem gBytes_len (rs : List Rn) : (gBytes rs).length = 16 + 12 * rs.length := by rw [gBytes, List.length_append, gHead_len, gFlat_len]
theorem gFlat_snoc {rs : List Rn} {k : Nat} {x : Rn} (h : rs[k]? = some x) : (rs.take (k + 1)).flatMap gBody = (rs.take k).flatMap gBody ++ gBody x := by
  rw [List.take_add_one, h]
  simp

end Go.Proofs.Ythkaeimpflggjaa
