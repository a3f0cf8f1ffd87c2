/- The laws of layer 1: each returns true and turns nothing that was there. -/
import Derived.Test.YteampemlkkkfcaaWord3
namespace Go.Proofs.Yteampemlkkkfcaa
open Go.RowKit
set_option linter.unusedVariables false

/-- What a law leaves. -/
abbrev True_ (w : World) (e : Ending) (w' : World) : Prop := e = .returned (.bool true) ∧ Below w.heap.size w w'

/-- Numbers written out in a block of their own. -/
theorem row_lit (w : World) (k : IntKind) (t : TypeId) (zs : List Int) (n : Nat) (hn : zs.length = n) : Row (w.alloc (.cells (cellsOf k zs).toArray t)) (some ⟨w.heap.size, 0, none⟩) n (cellsOf k zs) :=
  ⟨by rw [cellsOf_length]; exact hn, fun _ => ⟨w.heap.size, 0, rfl, by simp, fun j u hu => by
    rw [Nat.zero_add, cell_of_row _ _ j _ t (0, 0) (heap_alloc_new w _)]
    simpa using hu⟩⟩

set_option maxHeartbeats 400000 in
theorem awake_any (w : World) : Calls Try.prog 14 #[] w (True_ w) := by
  go_enter Try.func14, Try.ntmps14
  go_wp2_with fail
  refine (new_any _ _ _ [1, 44, 255, 254] _ (row_lit w .u8 5 [1, 44, 255, 254] 4 rfl) (by omega)).mono ?_
  rintro e w1 ⟨b, rfl, hrd, hb⟩
  have hb1 : Below w.heap.size w w1 := ((Below.refl _ _).alloc (Nat.le_refl _) _).trans (hb.mono (by simp))
  clear hb
  have hsz := hb1.size
  have hfrom : w.heap.size ≤ b := by have := hrd.from_; simp at this; omega
  go_wp2_with fail
  refine (u16_any _ b _ _ _ _ hrd (by intro x hx; simp at hx; omega) (by simp) (by omega) (by omega)).mono ?_
  rintro e w2 ⟨rfl, hrd2, hg2⟩
  have hb2 : Below w.heap.size w w2 := hb1.grown hg2 hsz (fun k e => by cases e; exact hfrom)
  clear hrd hg2 hb1 hsz
  have hsz := hb2.size
  rw [show num [1, 44, 255, 254] 2 = 300 from rfl]
  rw [show rest [1, 44, 255, 254] 2 = [255, 254] from rfl, show badn [1, 44, 255, 254] false 2 = false from rfl, show gone [1, 44, 255, 254] 0 2 = 2 from rfl] at hrd2
  go_wp2_with fail
  refine (i16_any _ b _ _ _ _ hrd2 (by intro x hx; simp at hx; omega) (by simp) (by omega) (by omega)).mono ?_
  rintro e w3 ⟨rfl, hrd3, hg3⟩
  have hb3 : Below w.heap.size w w3 := hb2.grown hg3 hsz (fun k e => by cases e; exact hfrom)
  clear hrd2 hg3 hb2 hsz
  rw [show sgn (num [255, 254] 2) = -2 from rfl]
  rw [show rest [255, 254] 2 = [] from rfl, show badn [255, 254] false 2 = false from rfl, show gone [255, 254] 2 2 = 4 from rfl] at hrd3
  go_wp2_with fail
  refine (bad_any _ b _ _ _ _ hrd3).mono ?_
  rintro e w' ⟨rfl, rfl⟩
  go_wp2_with fail
  refine (left_any _ b _ _ _ _ hrd3).mono ?_
  rintro e w' ⟨rfl, rfl⟩
  go_wp2
  go_ret
  exact ⟨rfl, hb3⟩

theorem drop_cons {zs : List Int} {k : Nat} {x : Int} (h : zs[k]? = some x) : zs.drop k = x :: zs.drop (k + 1) := by
  obtain ⟨hk, rfl⟩ := List.getElem?_eq_some_iff.1 h
  exact List.drop_eq_getElem_cons hk

theorem ask_one {zs : List Int} {k : Nat} {x : Int} (h : zs[k]? = some x) : num (zs.drop k) 1 = x ∧ rest (zs.drop k) 1 = zs.drop (k + 1) ∧ gone (zs.drop k) k 1 = ((k + 1 : Nat) : Int) ∧ badn (zs.drop k) false 1 = false := by
  rw [drop_cons h]
  refine ⟨?_, ?_, ?_, ?_⟩ <;> simp [num, told, rest, gone, badn, be]

theorem cut_bytes {zs : List Int} (h : Bytes zs) (m : Nat) : Bytes (zs.take m) := fun x hx => h x (List.mem_of_mem_take hx)

set_option maxHeartbeats 1000000 in
theorem law_WordBytes (A : Option Addr) (n c : Nat) (zs : List Int) (w : World) (hr : Row w A n (cellsOf .u8 zs)) (hB : Bytes zs) (hn : n ≤ 9223372036854775807) :
    Calls Try.prog 4 #[.slice A n c] w (True_ w) := by
  go_enter Try.func4, Try.ntmps4
  go_wp2_with fail
  refine (awake_any w).mono ?_
  rintro e w0 ⟨rfl, hb0⟩
  go_wp2_with fail
  refine (cut_any _ _ _ zs 60 _ (hr.below hb0) hn (by omega)).mono ?_
  rintro e w1 ⟨A1, n1, c1, rfl, hown, hb1'⟩
  have hb1 : Below w.heap.size w w1 := hb0.trans (hb1'.mono hb0.size)
  have hB1 : Bytes (zs.take (60 : Int).toNat) := cut_bytes hB _
  have hl1 : n1 ≤ 60 := by have := hown.len; rw [List.length_take] at this; simp at this; omega
  clear hb1' hb0 hr hB hn
  generalize zs.take (60 : Int).toNat = ps at *
  go_wp2_with fail
  refine (new_any _ _ _ ps _ hown.row (by omega)).mono ?_
  rintro e w2 ⟨b, rfl, hrd, hb2'⟩
  have hbg : ∀ g, blockOf A1 = some g → some g ≠ some b := fun g e => by
    have := (hown.from_ g e).2
    have := hrd.from_
    simp; omega
  have hrow : Row w2 A1 n1 (cellsOf .u8 ps) := hown.row.below hb2'
  have hs1 := hb1.size
  have hb2 : Below w.heap.size w w2 := hb1.trans (hb2'.mono hs1)
  have hfrom : w.heap.size ≤ b := by have := hrd.from_; omega
  have hrd2 : Rd w2 w.heap.size b ps 0 false := hrd.mono hs1
  have Hl : Hid (ps.length = n1) := hown.len
  clear hown hb2' hrd hb1 hs1
  have Hbg := Lib.hid hbg
  have HB := Lib.hid hB1
  clear hbg hB1
  go_wp2
  go_loopw [14] (fun i wr => ∃ k : Nat, k ≤ n1 ∧ i = .int .i64 k ∧ Rd wr w.heap.size b (ps.drop k) k false ∧ Row wr A1 n1 (cellsOf .u8 ps) ∧ Below w.heap.size w wr) (fun i _ => n1 - (intOf i).toNat)
  case atStart => exact ⟨0, Nat.zero_le _, rfl, by simpa using hrd2, hrow, hb2⟩
  case round =>
    clear hrd2 hrow hb2
    obtain ⟨k, hk, rfl, hrd, hrow, hb⟩ := hrel
    by_cases hlt : k < n1
    · obtain ⟨x, ex⟩ := get_some (zs := ps) (k := k) (by have := Hl.out; omega)
      obtain ⟨g, off, hA, _, hc⟩ := hrow.at (cellsOf_get (k := .u8) ex)
      subst hA
      have Hq := Lib.hid (ask_one ex)
      have hx := HB.out x (List.mem_of_getElem? ex)
      obtain ⟨x0, x1⟩ := hx
      clear ex
      have hne : (x != x) = false := by simp
      go_wp2_with fail
      refine (u8_any _ b _ _ _ _ hrd (fun y hy => HB.out y (List.mem_of_mem_drop hy)) (by rw [List.length_drop]; have := Hl.out; omega) (by omega) (by omega)).mono ?_
      rintro e w3 ⟨rfl, hrd3, hg3⟩
      rw [Hq.out.2.1, Hq.out.2.2.1, Hq.out.2.2.2] at hrd3
      rw [Hq.out.1]
      have hb3 : Below w.heap.size w w3 := hb.grown hg3 hb.size (fun k e => by cases e; exact hfrom)
      have hrow3 := hrow.grown hg3 Hbg.out
      clear hrd hrow hb hg3 hc
      go_wp2
      go_roundw
      case rel => exact ⟨k + 1, by omega, by go_num, hrd3, hrow3, hb3⟩
      case measure => simp [intOf]; omega
    · have e : k = n1 := by omega
      subst e
      rw [List.drop_of_length_le (by have := Hl.out; omega)] at hrd
      go_wp2_with fail
      refine (left_any _ b _ _ _ _ hrd).mono ?_
      rintro e w' ⟨rfl, rfl⟩
      go_wp2_with fail
      refine (bad_any _ b _ _ _ _ hrd).mono ?_
      rintro e w' ⟨rfl, rfl⟩
      go_wp2_with fail
      refine (u8_any _ b _ _ _ _ hrd (by intro x hx; cases hx) (by simp) (by omega) (by omega)).mono ?_
      rintro e w3 ⟨rfl, hrd3, hg3⟩
      rw [show rest [] 1 = [] from rfl, show badn [] false 1 = true from rfl] at hrd3
      rw [show num [] 1 = 0 from rfl]
      have hb3 : Below w.heap.size w w3 := hb.grown hg3 hb.size (fun k e => by cases e; exact hfrom)
      clear hrd hb hg3 hrow
      go_wp2_with fail
      refine (bad_any _ b _ _ _ _ hrd3).mono ?_
      rintro e w' ⟨rfl, rfl⟩
      go_wp2
      go_ret
      exact ⟨rfl, hb3⟩

end Go.Proofs.Yteampemlkkkfcaa
