/- cmap.read, wide, Look, Wide: contracts over this seat's translation. -/
import Derived.Test.YthkaeimpflggjaaDoorCmM
import Derived.Test.YthkaeimpflggjaaDoorLGrpP
import Derived.Test.YthkaeimpflggjaaDoorLSegA
namespace Go.Proofs.YthkaeimpflggjaaDoor
open Go.RowKit
set_option linter.unusedVariables false

/-- A map: of groups, or of segments. -/
def cmV : Bool → Option Addr → Nat → Nat → Value
  | true, A, n, c => .agg #[.bool true, .slice A n c, .slice none 0 0]
  | false, A, n, c => .agg #[.bool false, .slice none 0 0, .slice A n c]
def cmV0 : Value := .agg #[.bool false, .slice none 0 0, .slice none 0 0]
/-- How many groups or segments its table has. -/
def cCnt (wd : Bool) (t : List Int) : Nat := if wd then gN t else sN t
/-- What it tells of a code. -/
def cLook (wd : Bool) (t : List Int) (code : Int) : Int := if wd then lookR (grps t (gN t)) code else lookS t (sN t) code 0 (sN t)
/-- It lies in memory. -/
def CMap (w : World) : Bool → List Int → Option Addr → Nat → Prop
  | true, t, A, g => GMap w A (gN t) (grps t (gN t)) ∧ gN t ≤ 1000000
  | false, t, A, g => SMap w A (sN t) t g ∧ sN t ≤ 32767
theorem CMap.below {w w' : World} {wd : Bool} {t : List Int} {A : Option Addr} {g : Nat} (h : CMap w wd t A g) (hb : Below w.heap.size w w') : CMap w' wd t A g := by
  cases wd with
  | true => exact ⟨h.1.below hb, h.2⟩
  | false => exact ⟨h.1.below hb, h.2⟩
theorem cLook_lt (wd : Bool) (t : List Int) (code : Int) : 0 ≤ cLook wd t code ∧ cLook wd t code ≤ 65535 := by
  cases wd with
  | true => exact lookR_lt _ _
  | false => exact lookS_lt _ _ _ _ _

theorem cwide_any (a b : Int) (h : (a = 3 ∧ b = 10) ∨ (a = 0 ∧ b = 4) ∨ (a = 3 ∧ b = 1) ∨ (a = 0 ∧ b = 3)) (w : World) : Calls Tryd.prog 30 #[.agg #[.int .u16 a, .int .u16 b]] w (Ret w (.bool (decide (b = 10 ∨ b = 4)))) := by
  have hA := (Below.refl w.heap.size w).alloc (Nat.le_refl _) (.cells #[.int .u16 a, .int .u16 b] 65)
  rcases h with ⟨rfl, rfl⟩ | ⟨rfl, rfl⟩ | ⟨rfl, rfl⟩ | ⟨rfl, rfl⟩
  all_goals
    go_enter Tryd.func30, Tryd.ntmps30
    go_wp2
    go_ret
    exact ⟨rfl, hA⟩

theorem cwid_any (wd : Bool) (A : Option Addr) (n c : Nat) (w : World) : Calls Tryd.prog 14 #[cmV wd A n c] w (Ret w (.bool wd)) := by
  cases wd with
  | true =>
    have hA := (Below.refl w.heap.size w).alloc (Nat.le_refl _) (.cells #[.bool true, .slice A n c, .slice none 0 0] 37)
    unfold cmV
    go_enter Tryd.func14, Tryd.ntmps14
    go_wp2
    go_ret
    exact ⟨rfl, hA⟩
  | false =>
    have hA := (Below.refl w.heap.size w).alloc (Nat.le_refl _) (.cells #[.bool false, .slice none 0 0, .slice A n c] 37)
    unfold cmV
    go_enter Tryd.func14, Tryd.ntmps14
    go_wp2
    go_ret
    exact ⟨rfl, hA⟩
theorem cwid0_any (w : World) : Calls Tryd.prog 14 #[cmV0] w (Ret w (.bool false)) := cwid_any false none 0 0 w

theorem clook_any (wd : Bool) (t : List Int) (A : Option Addr) (c g : Nat) (code : Int) (w : World) (hm : CMap w wd t A g) (c0 : -2147483648 ≤ code) (c1 : code ≤ 2147483647) :
    Calls Tryd.prog 15 #[cmV wd A (cCnt wd t) c, .int .i32 code] w (Ret w (.int .u16 (cLook wd t code))) := by
  cases wd with
  | true =>
    obtain ⟨hm, hn⟩ := hm
    have hA : Below w.heap.size w (w.alloc (.cells #[.bool true, .slice A (gN t) c, .slice none 0 0] 37)) := (Below.refl _ _).alloc (Nat.le_refl _) _
    have HL := Lib.hid ((hm.below hA).look (c := c) hn code c0 c1)
    show Calls Tryd.prog 15 #[.agg #[.bool true, .slice A (gN t) c, .slice none 0 0], .int .i32 code] w (Ret w (.int .u16 (lookR (grps t (gN t)) code)))
    unfold gmV at HL
    clear hm
    generalize lookR (grps t (gN t)) code = v at *
    generalize gN t = N at *
    go_enter Tryd.func15, Tryd.ntmps15
    go_wp2_with fail
    with_reducible refine HL.out.mono ?_
    rintro e w1 ⟨rfl, hb1⟩
    go_wp2
    go_ret
    exact ⟨rfl, hA.trans (hb1.mono hA.size)⟩
  | false =>
    obtain ⟨hm, hn⟩ := hm
    have hA : Below w.heap.size w (w.alloc (.cells #[.bool false, .slice none 0 0, .slice A (sN t) c] 37)) := (Below.refl _ _).alloc (Nat.le_refl _) _
    have HL := Lib.hid (slook_any A (sN t) c t g code _ (hm.below hA) (by omega) c0 c1)
    show Calls Tryd.prog 15 #[.agg #[.bool false, .slice none 0 0, .slice A (sN t) c], .int .i32 code] w (Ret w (.int .u16 (lookS t (sN t) code 0 (sN t))))
    unfold smV at HL
    clear hm
    generalize lookS t (sN t) code 0 (sN t) = v at *
    generalize sN t = N at *
    go_enter Tryd.func15, Tryd.ntmps15
    go_wp2_with fail
    with_reducible refine HL.out.mono ?_
    rintro e w1 ⟨rfl, hb1⟩
    go_wp2
    go_ret
    exact ⟨rfl, hA.trans (hb1.mono hA.size)⟩

end Go.Proofs.YthkaeimpflggjaaDoor
