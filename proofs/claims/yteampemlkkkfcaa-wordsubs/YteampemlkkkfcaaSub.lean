/- What word.Sub answers, and the law WordSubs. -/
import Derived.Test.YteampemlkkkfcaaLaw01
namespace Go.Proofs.Yteampemlkkkfcaa
open Go.RowKit

/-- A fresh slice of bytes and a bool. -/
def RetBT (w : World) (ys : List Int) (ok : Bool) (e : Ending) (w' : World) : Prop := ∃ A n c, e = .returned (.tuple #[.slice A n c, .bool ok]) ∧ OwnB w' w.heap.size A n c ys ∧ Below w.heap.size w w'

theorem Row.part {w : World} {A : Option Addr} {n : Nat} {zs : List Int} (h : Row w A n (cellsOf .u8 zs)) (a m : Nat) (hm : a + m ≤ n) : Row w (A.map (·.add a)) m (cellsOf .u8 (part zs a (a + m))) := by
  have h1 := (h.take (k := a + m) hm).drop a
  rw [cellsOf_take, cellsOf_drop] at h1
  rwa [show a + m - a = m by omega] at h1

theorem sub_ok (A : Option Addr) (n c : Nat) (zs : List Int) (a m : Nat) (w : World) (hr : Row w A n (cellsOf .u8 zs)) (hc : n ≤ c) (hn : n ≤ 140737488351232) (ha : a < 4294967296) (hm : m < 4294967296) (h : a + m ≤ n) :
    Calls Try.prog 40 #[.slice A n c, .int .u32 a, .int .u32 m] w (RetBT w (part zs a (a + m)) true) := by
  have hp := Lib.hid (hr.part a m h)
  have H0 : m = 0 → Hid (part zs a (a + m) = []) := fun e => by subst e; show _ = _; unfold part; rw [List.drop_of_length_le]; rw [List.length_take]; omega
  clear hr
  go_enter Try.func40, Try.ntmps40
  by_cases hz : m = 0
  · have H1 := H0 hz
    subst hz
    clear H0
    go_wp2_with fail
    refine (clone_any _ _ _ [] _ (Row.empty _ _) (by omega)).mono ?_
    rintro e w1 ⟨A1, n1, c1, rfl, hown, hb⟩
    go_wp2
    go_ret2
    exact ⟨A1, n1, c1, rfl, by rw [show part zs a (a + 0) = [] from H1.out]; exact hown, hb⟩
  · clear H0
    go_wp2_with fail
    refine (clone_any _ _ _ _ _ hp.out (by omega)).mono ?_
    rintro e w1 ⟨A1, n1, c1, rfl, hown, hb⟩
    go_wp2
    go_ret2
    exact ⟨A1, n1, c1, rfl, hown, hb⟩

theorem sub_no (A : Option Addr) (n c : Nat) (a m : Nat) (w : World) (hn : n ≤ 140737488351232) (ha : a < 4294967296) (hm : m < 4294967296) (h : n < a + m) :
    Calls Try.prog 40 #[.slice A n c, .int .u32 a, .int .u32 m] w fun e w' => e = .returned (.tuple #[.slice none 0 0, .bool false]) ∧ w = w' := by
  go_enter Try.func40, Try.ntmps40
  go_wp2
  go_ret2
  exact ⟨rfl, rfl⟩

theorem sameB_refl (l : List Int) : sameB l l = true := by simp [sameB]

set_option maxHeartbeats 1000000 in
theorem law_WordSubs (A : Option Addr) (n c : Nat) (zs : List Int) (a m : Nat) (w : World) (hr : Row w A n (cellsOf .u8 zs)) (hn : n ≤ 9223372036854775807) (ha : a < 4294967296) (hm : m < 4294967296) :
    Calls Try.prog 6 #[.slice A n c, .int .u32 a, .int .u32 m] w (True_ w) := by
  go_enter Try.func6, Try.ntmps6
  go_wp2_with fail
  refine (awake_any w).mono ?_
  rintro e w0 ⟨rfl, hb0⟩
  go_wp2_with fail
  refine (cut_any _ _ _ zs 60 _ (hr.below hb0) hn (by omega)).mono ?_
  rintro e w1 ⟨A1, n1, c1, rfl, hown, hb1'⟩
  have hb1 : Below w.heap.size w w1 := hb0.trans (hb1'.mono hb0.size)
  have hl1 : n1 ≤ 60 := by have := hown.len; rw [List.length_take] at this; simp at this; omega
  have hrow := hown.row
  have hcap := hown.cap
  clear hb1' hb0 hr hn hown
  generalize zs.take (60 : Int).toNat = ps at *
  go_wp2_with fail
  by_cases h : a + m ≤ n1
  · refine (sub_ok _ _ _ ps _ _ _ hrow hcap (by omega) ha hm h).mono ?_
    rintro e w2 ⟨A2, n2, c2, rfl, hown2, hb2'⟩
    have hs1 := hb1.size
    have hl2 := hown2.len
    have hl3 : (part ps a (a + m)).length ≤ 60 := by unfold part; rw [List.length_drop, List.length_take, hrow.len]; omega
    have hb2 : Below w.heap.size w w2 := hb1.trans (hb2'.mono hs1)
    have hrow1 := hrow.below hb2'
    have hrow2 := hown2.row
    have hn2 : n2 ≤ 60 := by omega
    clear hown2 hrow hb2' hl2 hl3 hb1
    go_wp2_with fail
    refine (part_any _ _ _ ps _ _ _ hrow1 (by omega) (by omega)).mono ?_
    rintro e w3 ⟨A3, n3, c3, rfl, hown3, hb3'⟩
    rw [show (a : Int).toNat = a by omega, show ((a : Int) + (m : Int)).toNat = a + m by omega] at hown3
    have hb3 : Below w.heap.size w w3 := hb2.trans (hb3'.mono hb2.size)
    have hrow3 := hown3.row
    have hn3 : n3 ≤ 60 := by have := hown3.len; have := hrow2.len; omega
    have hrow2' := hrow2.below hb3'
    clear hown3 hrow1 hrow2 hb3' hb2
    go_wp2_with fail
    refine (same_any _ _ _ _ _ _ _ _ _ hrow2' hrow3 (by omega) (by omega)).mono ?_
    rintro e w4 ⟨rfl, q, rfl⟩
    rw [sameB_refl]
    go_wp2
    go_ret
    exact ⟨rfl, below_drewN hb3 q⟩
  · refine (sub_no _ _ _ _ _ _ (by omega) ha hm (by omega)).mono ?_
    rintro e w' ⟨rfl, rfl⟩
    by_cases h1 : n1 < a
    · go_wp2
      go_ret
      exact ⟨rfl, hb1⟩
    · go_wp2
      go_ret
      exact ⟨rfl, hb1⟩

end Go.Proofs.Yteampemlkkkfcaa
