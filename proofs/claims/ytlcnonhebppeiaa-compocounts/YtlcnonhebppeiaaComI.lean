/- compo: Is; the document's example. -/
import Derived.Test.YtlcnonhebppeiaaComX
import Derived.Test.YtlcnonhebppeiaaSimT
import Derived.Test.YtlcnonhebppeiaaLaw01
import Derived.Lib.MinMax
namespace Go.Proofs.Ytlcnonhebppeiaa
open Go.RowKit
set_option linter.unusedVariables false
set_option linter.unusedSimpArgs false

/-- Do the bytes begin as such a glyph's do? -/
def cIs (zs : List Int) : Bool := decide (sgn (n2at (zs.take 2) 0) < 0)
theorem take_bytes2 {zs : List Int} (h : Bytes zs) : Bytes (zs.take 2) := fun x hx => h x (List.mem_of_mem_take hx)

theorem cis_any (A : Option Addr) (n c : Nat) (zs : List Int) (w : World) (hr : Row w A n (cellsOf .u8 zs)) (hB : Bytes zs) (hn : n ≤ 1000000) (hc : n ≤ c) : Calls Try.prog 43 #[.slice A n c] w (Ret w (.bool (cIs zs))) := by
  have hl := hr.len
  obtain ⟨m, hm⟩ : ∃ m : Nat, m = min n 2 := ⟨_, rfl⟩
  have hmE : min (n : Int) 2 = (m : Int) := by omega
  have ht : zs.take m = zs.take 2 := by
    by_cases h : 2 ≤ n
    · rw [show m = 2 by omega]
    · rw [List.take_of_length_le (by omega), List.take_of_length_le (by omega)]
  have hr2 : Row w A m (cellsOf .u8 (zs.take 2)) := by
    have := hr.take (k := m) (by omega)
    rwa [cellsOf_take, ht] at this
  have HB := Lib.hid (take_bytes2 hB)
  have HN := Lib.hid (new_any A m c (zs.take 2) w hr2 (by omega))
  have hl2 : (zs.take 2).length ≤ 2 := by rw [List.length_take]; omega
  have s0 : (0 : Int) ≤ (m : Int) := by omega
  have s1 : (m : Int) ≤ (n : Int) := by omega
  have s3 : (m : Int) ≤ (c : Int) := by omega
  unfold cIs
  clear hr hB hl ht hr2 hm
  generalize zs.take 2 = ys at *
  go_enter Try.func43, Try.ntmps43
  go_wp2_with fail
  with_reducible refine HN.out.mono ?_
  rintro e w1 ⟨b, rfl, hrd, hb1⟩
  have hrq := RdQ.new hrd
  have hfr := hrd.from_
  have HI := Lib.hid (rdq_i16 hrq HB.out (by omega))
  have hbb : w.heap.size ≤ b := hfr
  clear hrd hrq HN hfr
  go_wp2_with fail
  with_reducible refine HI.out.mono ?_
  rintro e w2 ⟨rfl, h2, g2⟩
  have hb2 := hb1.grown g2 hb1.size (fun k e => by cases e; exact hbb)
  clear HI
  go_wp2
  go_ret
  exact ⟨rfl, hb2⟩

def ex13 : Cg := ⟨0, 0, 0, 0, [⟨3, 3, 1, 2, 16384, 0, 0, 16384⟩], []⟩
theorem ex13_ok : ex13.ok := ⟨by decide, (fun p hp => by
  simp only [ex13, List.mem_cons, List.not_mem_nil, or_false] at hp
  subst hp
  exact ⟨by decide, by decide, by decide, by decide, by decide, by decide, by decide, by decide⟩), (fun x hx => by cases hx)⟩
theorem ex13_B : cBytes ex13 = [255, 255, 0, 0, 0, 0, 0, 0, 0, 0, 0, 3, 0, 3, 0, 1, 0, 2] := by decide +kernel
theorem ex13_is : cIs [255, 255, 0, 0, 0, 0, 0, 0, 0, 0, 0, 3, 0, 3, 0, 1, 0, 2] = true := by decide +kernel

set_option maxRecDepth 100000 in
set_option maxHeartbeats 2000000 in
theorem awake13_any (w : World) : Calls Try.prog 30 #[] w (True_ w) := by
  have HB0 : Hid (∀ W : World, Calls Try.prog 32 #[.agg #[.int .i16 0, .int .i16 0, .int .i16 0, .int .i16 0, .slice (some ⟨W.heap.size, 0, none⟩) 1 1, .slice none 0 0]] (W.alloc (.cells #[.int .u16 3, .int .u16 3, .int .i16 1, .int .i16 2, .int .i16 16384, .int .i16 0, .int .i16 0, .int .i16 16384] 89)) (RetB (W.alloc (.cells #[.int .u16 3, .int .u16 3, .int .i16 1, .int .i16 2, .int .i16 16384, .int .i16 0, .int .i16 0, .int .i16 16384] 89)) [255, 255, 0, 0, 0, 0, 0, 0, 0, 0, 0, 3, 0, 3, 0, 1, 0, 2])) := fun W => by
    have h := cbytes_any ⟨ex13, some ⟨W.heap.size, 0, none⟩, 1, 1, none, 0, 0⟩ (W.alloc (.cells #[.int .u16 3, .int .u16 3, .int .i16 1, .int .i16 2, .int .i16 16384, .int .i16 0, .int .i16 0, .int .i16 16384] 89)) ⟨rowS_vals encPt_len W 89 [⟨3, 3, 1, 2, 16384, 0, 0, 16384⟩] _ rfl 1 rfl, Row.empty _ _⟩ (by show (1 : Nat) ≤ 1000000; omega) (by show (0 : Nat) ≤ 1000000; omega) ex13_ok
    rw [show CgV.g ⟨ex13, some ⟨W.heap.size, 0, none⟩, 1, 1, none, 0, 0⟩ = ex13 from rfl, ex13_B] at h
    exact h
  go_enter Try.func30, Try.ntmps30
  go_wp2_with fail
  refine (unit_any _).mono ?_
  rintro e w0 ⟨rfl, hb0⟩
  have HB := Lib.hid (HB0.out w0)
  have hA := hb0.alloc hb0.size (.cells #[.int .u16 3, .int .u16 3, .int .i16 1, .int .i16 2, .int .i16 16384, .int .i16 0, .int .i16 0, .int .i16 16384] 89)
  clear HB0 hb0
  go_wp2_with fail
  with_reducible refine HB.out.mono ?_
  rintro e w1 ⟨A1, n1, c1, rfl, hown1, hb1⟩
  have hl1 := hown1.len
  simp only [List.length_cons, List.length_nil] at hl1
  obtain rfl : n1 = 18 := by omega
  have hcap := hown1.cap
  have hbw := hA.trans (hb1.mono hA.size)
  have hrow := hown1.row
  obtain ⟨g, off, rfl, hg, _⟩ := hrow.at (j := 0) (u := .int .u8 255) rfl
  have hrow2 : Row w1 (some ⟨g, off + 10, none⟩) 8 (cellsOf .u8 [0, 3, 0, 3, 0, 1, 0, 2]) := by have := hrow.drop 10; rw [cellsOf_drop] at this; simpa [Addr.add_lit] using this
  have hA2 := (Below.refl w1.heap.size w1).alloc (Nat.le_refl _) (.cells #[.int .u8 0, .int .u8 3, .int .u8 0, .int .u8 3, .int .u8 0, .int .u8 1, .int .u8 0, .int .u8 2] 5)
  have HS := Lib.hid (same_any (some ⟨g, off + 10, none⟩) (some ⟨w1.heap.size, 0, none⟩) 8 (c1 - 10) 8 8 [0, 3, 0, 3, 0, 1, 0, 2] [0, 3, 0, 3, 0, 1, 0, 2] _ (hrow2.below hA2) (row_lit w1 .u8 5 [0, 3, 0, 3, 0, 1, 0, 2] 8 rfl) (by omega) (by omega))
  rw [sameB_refl] at HS
  have hbw2 := hbw.trans (hA2.mono hbw.size)
  have hc14 : ¬ c1 = 10 := by omega
  have hrow3 := hrow.below hA2
  clear HB hA hown1 hb1 hl1 hrow hrow2 hA2 hbw
  go_wp2_with fail
  refine HS.out.mono ?_
  rintro e w2 ⟨rfl, q, hq⟩
  have hbw3 : Below w.heap.size w w2 := by rw [hq]; exact below_drewN hbw2 q
  have HI := Lib.hid (cis_any (some ⟨g, off, none⟩) 18 c1 _ w2 (by rw [hq]; exact hrow3) (by intro x hx; simp at hx; omega) (by omega) hcap)
  rw [ex13_is] at HI
  clear hq HS hrow3 hbw2
  go_wp2_with fail
  with_reducible refine HI.out.mono ?_
  rintro e w3 ⟨rfl, hb3⟩
  go_wp2
  go_ret
  exact ⟨rfl, hbw3.trans (hb3.mono hbw3.size)⟩

end Go.Proofs.Ytlcnonhebppeiaa
