/- A byte that is turned. -/
import Derived.Test.YthkaeimpflggjaaDoorInts
namespace Go.Proofs.YthkaeimpflggjaaDoor
open Go.RowKit
set_option linter.unusedVariables false

theorem xor_byte2 (x y : Int) : 0 ≤ bits .xor .u8 x y ∧ bits .xor .u8 x y ≤ 255 := by
  have h := wf_bits .xor .u8 x y
  exact bounds_u8 h

theorem set_bytes {zs : List Int} (h : Bytes zs) (j : Nat) {v : Int} (hv : 0 ≤ v ∧ v ≤ 255) : Bytes (zs.set j v) := fun x hx => by
  rcases List.mem_or_eq_of_mem_set hx with h' | rfl
  · exact h x h'
  · exact hv

theorem take_bytes {zs : List Int} (h : Bytes zs) (j : Nat) : Bytes (zs.take j) := fun x hx => h x (List.mem_of_mem_take hx)

end Go.Proofs.YthkaeimpflggjaaDoor
