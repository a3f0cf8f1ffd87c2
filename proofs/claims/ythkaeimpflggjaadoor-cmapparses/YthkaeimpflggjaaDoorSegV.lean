/- The document's Right of segments: a contract over this seat's translation. -/
import Derived.Test.YthkaeimpflggjaaDoorSegV1
import Derived.Test.YthkaeimpflggjaaDoorSegV2
import Derived.Test.YthkaeimpflggjaaDoorSegV3
import Derived.Test.YthkaeimpflggjaaDoorSegV4
namespace Go.Proofs.YthkaeimpflggjaaDoor
open Go.RowKit
set_option linter.unusedVariables false

theorem rright9_any (A : Option Addr) (n c : Nat) (zs : List Int) (w : World) (hr : Row w A n (cellsOf .u8 zs)) (hB : Bytes zs) (hn : n ≤ 1000000) (hc : n ≤ c) :
    Calls Tryd.prog 38 #[.slice A n c] w (Ret w (.tuple #[.int .i64 (sRV zs), .bool (sRight zs)])) := by
  cases hf : sFront zs && sCnt0 zs with
  | false =>
    have h : sRight zs = false := by
      unfold sRight sCnt
      rw [Bool.and_eq_false_iff] at hf
      rcases hf with h | h <;> rw [h] <;> simp
    have hv : sRV zs = 0 := by unfold sRV; rw [h]; rfl
    rw [h, hv]
    exact rright9_no A n c zs w hr hB hn hf
  | true =>
    cases hTo : sTold zs with
    | false => exact rright9_told A n c zs w hr hB hn hc hf hTo
    | true =>
      by_cases hz : n2at zs (14 + 2 * sN zs) = 0
      · by_cases he : n2at zs (12 + 2 * sN zs) = 65535
        · exact rright9_loop A n c zs w hr hB hn hc hf hTo hz he
        · exact rright9_last A n c zs w hr hB hn hc hf hTo hz he
      · exact rright9_mid A n c zs w hr hB hn hc hf hTo hz

end Go.Proofs.YthkaeimpflggjaaDoor
