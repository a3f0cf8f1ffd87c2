/- The document's example of outlines. -/
import Derived.Test.YtlcnonhebppeiaaSimX
import Derived.Test.YtlcnonhebppeiaaSimT
import Derived.Test.YtlcnonhebppeiaaLaw01
namespace Go.Proofs.Ytlcnonhebppeiaa
open Go.RowKit
set_option linter.unusedVariables false

def ex12 : Gl := ⟨0, 0, 0, 0, [0], [], [(1, -1, true)]⟩
theorem ex12_ok : ex12.ok := ⟨by decide, by decide, (fun x hx => by cases hx), by decide⟩
theorem ex12_right : oRight ex12 = true := by decide
theorem ex12_B : oB ex12 = [0, 1, 0, 0, 0, 0, 0, 0, 0, 0, 0, 0, 0, 0, 23, 1, 1] := by decide

set_option maxRecDepth 100000 in
set_option maxHeartbeats 2000000 in
theorem awake12_any (w : World) : Calls Try.prog 15 #[] w (True_ w) := by
  have hA1 := (Below.refl w.heap.size w).alloc (Nat.le_refl _) (.cells #[.int .u16 0] 54)
  have hA := hA1.alloc hA1.size (.cells #[.int .i16 1, .int .i16 (-1), .bool true] 60)
  have hr : GlV.rows ((w.alloc (.cells #[.int .u16 0] 54)).alloc (.cells #[.int .i16 1, .int .i16 (-1), .bool true] 60)) ⟨ex12, some ⟨w.heap.size, 0, none⟩, 1, 1, none, 0, 0, some ⟨w.heap.size + 1, 0, none⟩, 1, 1⟩ := by
    refine ⟨(row_one w .u16 0 54).below ((Below.refl _ _).alloc (Nat.le_refl _) _), Row.empty _ _, ?_⟩
    have := rowS_vals encSp_len (w.alloc (.cells #[.int .u16 0] 54)) 60 [(1, -1, true)] #[.int .i16 1, .int .i16 (-1), .bool true] rfl 1 rfl
    rwa [show (w.alloc (.cells #[.int .u16 0] 54)).heap.size = w.heap.size + 1 by simp] at this
  have HB := Lib.hid (obytes_any _ _ hr ⟨by show (1 : Nat) ≤ 10000; omega, by show (0 : Nat) ≤ 10000; omega, by show (1 : Nat) ≤ 10000; omega⟩ ex12_ok)
  rw [show oBytes ex12 = [0, 1, 0, 0, 0, 0, 0, 0, 0, 0, 0, 0, 0, 0, 23, 1, 1] by unfold oBytes; rw [if_pos ex12_right, ex12_B]] at HB
  have HB2 : Hid (Calls Try.prog 18 #[.agg #[.int .i16 0, .int .i16 0, .int .i16 0, .int .i16 0, .slice (some ⟨w.heap.size, 0, none⟩) 1 1, .slice none 0 0, .slice (some ⟨w.heap.size + 1, 0, none⟩) 1 1]] ((w.alloc (.cells #[.int .u16 0] 54)).alloc (.cells #[.int .i16 1, .int .i16 (-1), .bool true] 60)) (RetB ((w.alloc (.cells #[.int .u16 0] 54)).alloc (.cells #[.int .i16 1, .int .i16 (-1), .bool true] 60)) [0, 1, 0, 0, 0, 0, 0, 0, 0, 0, 0, 0, 0, 0, 23, 1, 1])) := HB.out
  clear HB hr hA1
  go_enter Try.func15, Try.ntmps15
  go_wp2_with fail
  with_reducible refine HB2.out.mono ?_
  rintro e w1 ⟨A1, n1, c1, rfl, hown1, hb1⟩
  have hl1 := hown1.len
  simp only [List.length_cons, List.length_nil] at hl1
  obtain rfl : n1 = 17 := by omega
  have hcap := hown1.cap
  have hbw := hA.trans (hb1.mono hA.size)
  have hrow := hown1.row
  obtain ⟨g, off, rfl, hg, _⟩ := hrow.at (j := 0) (u := .int .u8 0) rfl
  have hrow2 : Row w1 (some ⟨g, off + 14, none⟩) 3 (cellsOf .u8 [23, 1, 1]) := by have := hrow.drop 14; rw [cellsOf_drop] at this; simpa [Addr.add_lit] using this
  have hA2 := (Below.refl w1.heap.size w1).alloc (Nat.le_refl _) (.cells #[.int .u8 23, .int .u8 1, .int .u8 1] 5)
  have HS := Lib.hid (same_any (some ⟨g, off + 14, none⟩) (some ⟨w1.heap.size, 0, none⟩) 3 (c1 - 14) 3 3 [23, 1, 1] [23, 1, 1] _ (hrow2.below hA2) (row_lit w1 .u8 5 [23, 1, 1] 3 rfl) (by omega) (by omega))
  rw [sameB_refl] at HS
  have hbw2 := hbw.trans (hA2.mono hbw.size)
  have hc14 : ¬ c1 = 14 := by omega
  clear HB2 hA hown1 hb1 hl1 hrow hrow2 hA2 hbw
  go_wp2_with fail
  refine HS.out.mono ?_
  rintro e w2 ⟨rfl, q, rfl⟩
  go_wp2
  go_ret
  exact ⟨rfl, below_drewN hbw2 q⟩

end Go.Proofs.Ytlcnonhebppeiaa
