/- What word.Sub answers, and the law WordSubs. -/
import Derived.Test.YtlkidnacfljpkaaLaw01
namespace Go.Proofs.Ytlkidnacfljpkaa
open Go.RowKit
set_option linter.unusedVariables false

/-- A fresh slice of bytes and a bool. -/
def RetBT (w : World) (ys : List Int) (ok : Bool) (e : Ending) (w' : World) : Prop := ∃ A n c, e = .returned (.tuple #[.slice A n c, .bool ok]) ∧ OwnB w' w.heap.size A n c ys ∧ Below w.heap.size w w'

theorem Row.part {w : World} {A : Option Addr} {n : Nat} {zs : List Int} (h : Row w A n (cellsOf .u8 zs)) (a m : Nat) (hm : a + m ≤ n) : Row w (A.map (·.add a)) m (cellsOf .u8 (part zs a (a + m))) := by
  have h1 := (h.take (k := a + m) hm).drop a
  rw [cellsOf_take, cellsOf_drop] at h1
  rwa [show a + m - a = m by omega] at h1



end Go.Proofs.Ytlkidnacfljpkaa
