/- What word.Sub answers, and the law WordSubs. -/
import Derived.Test.YthkaeimpflggjaaDoorLaw01
namespace Go.Proofs.YthkaeimpflggjaaDoor
open Go.RowKit
set_option linter.unusedVariables false

/-- A fresh slice of bytes and a bool. -/
def RetBT (w : World) (ys : List Int) (ok : Bool) (e : Ending) (w' : World) : Prop := ∃ A n c, e = .returned (.tuple #[.slice A n c, .bool ok]) ∧ OwnB w' w.heap.size A n c ys ∧ Below w.heap.size w w'

theorem Row.part {w : World} {A : Option Addr} {n : Nat} {zs : List Int} (h : Row w A n (cellsOf .u8 zs)) (a m : Nat) (hm : a + m ≤ n) : Row w (A.map (·.add a)) m (cellsOf .u8 (part zs a (a + m))) := by
  have h1 := (h.take (k := a + m) hm).drop a
  rw [cellsOf_take, cellsOf_drop] at h1
  rwa [show a + m - a = m by omega] at h1

theorem sub_ok (A : Option Addr) (n c : Nat) (zs : List Int) (a m : Nat) (w : World) (hr : Row w A n (cellsOf .u8 zs)) (hc : n ≤ c) (hn : n ≤ 140737488351232) (ha : a < 4294967296) (hm : m < 4294967296) (h : a + m ≤ n) :
    Calls Tryd.prog 49 #[.slice A n c, .int .u32 a, .int .u32 m] w (RetBT w (part zs a (a + m)) true) := by
  have hp := Lib.hid (hr.part a m h)
  have H0 : m = 0 → Hid (part zs a (a + m) = []) := fun e => by subst e; show _ = _; unfold part; rw [List.drop_of_length_le]; rw [List.length_take]; omega
  clear hr
  go_enter Tryd.func49, Tryd.ntmps49
  by_cases hz : m = 0
  · have H1 := H0 hz
    subst hz
    clear H0
    go_wp2_with fail
    refine (clone_any _ _ _ [] _ (Row.empty _ _) (by omega)).mono ?_
    rintro e w1 ⟨A1, n1, c1, rfl, hown, hb⟩
    go_wp2
    go_ret2
    exact ⟨A1, n1, c1, rfl, by rw [show part zs a (a + 0) = [] from H1.out]; exact hown, hb⟩
  · clear H0
    go_wp2_with fail
    refine (clone_any _ _ _ _ _ hp.out (by omega)).mono ?_
    rintro e w1 ⟨A1, n1, c1, rfl, hown, hb⟩
    go_wp2
    go_ret2
    exact ⟨A1, n1, c1, rfl, hown, hb⟩

theorem sub_no (A : Option Addr) (n c : Nat) (a m : Nat) (w : World) (hn : n ≤ 140737488351232) (ha : a < 4294967296) (hm : m < 4294967296) (h : n < a + m) :
    Calls Tryd.prog 49 #[.slice A n c, .int .u32 a, .int .u32 m] w fun e w' => e = .returned (.tuple #[.slice none 0 0, .bool false]) ∧ w = w' := by
  go_enter Tryd.func49, Tryd.ntmps49
  go_wp2
  go_ret2
  exact ⟨rfl, rfl⟩



end Go.Proofs.YthkaeimpflggjaaDoor
