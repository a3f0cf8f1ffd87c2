/- What Join, B2, B4, S2, N2, N4 and Sign of the document's own functions answer, as contracts over this seat's translation. -/
import Derived.Test.YtlkidnacfljpkaaRef
namespace Go.Proofs.Ytlkidnacfljpkaa
open Go.RowKit
set_option linter.unusedVariables false

/-- A slice of bytes as a value, with the numbers that it shows. -/
structure BsV where
  A : Option Addr
  n : Nat
  c : Nat
  ys : List Int
def BsV.val (p : BsV) : Value := .slice p.A p.n p.c
def BsV.ok (w : World) (p : BsV) : Prop := Row w p.A p.n (cellsOf .u8 p.ys)
/-- All numbers, one list behind the other. -/
def joined (l : List BsV) : List Int := l.flatMap BsV.ys

theorem joined_snoc (l : List BsV) (k : Nat) (p : BsV) (h : l[k]? = some p) : joined (l.take k) ++ p.ys = joined (l.take (k + 1)) := by
  unfold joined
  rw [List.take_add_one, h]
  simp

theorem joined_le (l : List BsV) (k : Nat) : (joined (l.take k)).length ≤ (joined l).length := by
  have h : joined l = joined (l.take k) ++ joined (l.drop k) := by
    unfold joined
    rw [← List.flatMap_append, List.take_append_drop]
  rw [h, List.length_append]
  omega

/-- Values written out in a block of their own. -/
theorem row_vals (w : World) (t : TypeId) (l : List Value) (n : Nat) (hn : l.length = n) : Row (w.alloc (.cells l.toArray t)) (some ⟨w.heap.size, 0, none⟩) n l :=
  ⟨hn, fun _ => ⟨w.heap.size, 0, rfl, by simp, fun j u hu => by
    rw [Nat.zero_add, cell_of_row _ _ j _ t (0, 0) (heap_alloc_new w _)]
    simpa using hu⟩⟩

set_option maxHeartbeats 400000 in
theorem join_any (A : Option Addr) (n c : Nat) (l : List BsV) (w : World) (hr : Row w A n (l.map BsV.val)) (hs : ∀ p ∈ l, p.ok w) (hn : n ≤ 140737488351232) (hl : (joined l).length ≤ 140737488351232) :
    Calls Try.prog 17 #[.slice A n c] w (RetB w (joined l)) := by
  obtain ⟨i0, hi, hz0, hz1, hz2⟩ := info_parts Try.u8info
  have Hn : Hid (l.length = n) := by have := hr.1; rw [List.length_map] at this; exact this
  have Hs := Lib.hid hs
  clear hs
  go_enter Try.func17, Try.ntmps17
  go_wp2
  go_loopw [3, 8] (fun v i wr => ∃ (k : Nat) (A2 : Option Addr) (n2 c2 : Nat), k ≤ n ∧ i = .int .i64 k ∧ v = .slice A2 n2 c2 ∧ OwnB wr w.heap.size A2 n2 c2 (joined (l.take k)) ∧ Below w.heap.size w wr) (fun _ i _ => n - (intOf i).toNat)
  case atStart => exact ⟨0, none, 0, 0, Nat.zero_le _, rfl, rfl, by simpa [joined] using Own.nil _ _ _ _, Below.refl _ _⟩
  case round =>
    obtain ⟨k, A2, n2, c2, hk, rfl, rfl, hown, hbel⟩ := hrel
    by_cases hlt : k < n
    · obtain ⟨p, hp⟩ : ∃ p, l[k]? = some p := ⟨l[k]'(by have := Hn.out; omega), List.getElem?_eq_getElem (by have := Hn.out; omega)⟩
      obtain ⟨g, off, rfl, hg, hc⟩ := (hr.below hbel).at (j := k) (u := p.val) (by simp [hp])
      have Hp := Lib.hid hp
      have hok : Row wr p.A p.n (cellsOf .u8 p.ys) := (show Row w p.A p.n (cellsOf .u8 p.ys) from Hs.out p (List.mem_of_getElem? hp)).below hbel
      clear hp
      have hsz : w.heap.size ≤ wr.heap.size := hbel.size
      have hlen : n2 + p.n ≤ 140737488351232 := by
        have h1 := joined_le l (k + 1)
        rw [← joined_snoc l k p Hp.out, List.length_append, hok.len, hown.len] at h1
        omega
      obtain ⟨pA, pn, pc, pys⟩ := p
      simp only [BsV.val] at hc hok hlen
      go_wp2_with (at_builtin; refine wpList_append_row rfl (.tmp 12) (.tmp 13) _ rfl 5 .u8 w.heap.size i0 1 Try.underlying27 hi hz0 hz1 hz2 A2 n2 c2 _ rfl hown pA pn pc pys rfl hok (by omega) (by omega) hsz ?_)
      intro A3 c3 w1 hown1 hg1
      rw [joined_snoc l k ⟨pA, pn, pc, pys⟩ Hp.out] at hown1
      have hbel1 : Below w.heap.size w w1 := hbel.grown hg1 hsz (fun q e => (hown.from_ q e).1)
      clear hg1 hown hbel hc hok
      go_wp2
      go_roundw
      case rel => exact ⟨k + 1, A3, n2 + pn, c3, by omega, by go_num, rfl, hown1, hbel1⟩
      case measure => simp [intOf]; omega
    · rw [show l.take k = l from List.take_of_length_le (by have := Hn.out; omega)] at hown
      go_wp2
      go_ret
      exact ⟨A2, n2, c2, rfl, hown, hbel⟩

/-- Two bytes of a number. -/
def b2 (n : Int) : List Int := [n / 256 % 256, n % 256]

/-- Fresh numbers, written out. -/
theorem own_lit (w : World) (B : Nat) (t : TypeId) (k : IntKind) (zs : List Int) (n : Nat) (hn : zs.length = n) (hB : B ≤ w.heap.size) (hm : n ≤ maxLen) : Own t k (w.alloc (.cells (cellsOf k zs).toArray t)) B (some ⟨w.heap.size, 0, none⟩) n n zs := by
  have := World.ownsRow_lit (base := B) (e := t) (size := 1) w (cellsOf k zs).toArray n hB hm (by simp [cellsOf]; omega)
  simpa [Own] using this

theorem b2_any (n : Int) (w : World) (h0 : 0 ≤ n) (h1 : n < 4294967296) : Calls Try.prog 41 #[.int .i64 n] w (RetB w (b2 n)) := by
  go_enter Try.func41, Try.ntmps41
  go_wp2
  go_ret
  exact ⟨some ⟨w.heap.size, 0, none⟩, 2, 2, rfl, own_lit w _ _ _ (b2 n) 2 rfl (Nat.le_refl _) (by simp only [maxLen]; omega), (Below.refl _ _).alloc (Nat.le_refl _) _⟩

/-- Four bytes of a number. -/
def b4 (n : Int) : List Int := b2 (n / 65536) ++ b2 (n % 65536)

set_option maxHeartbeats 400000 in
theorem b4_any (n : Int) (w : World) (h0 : 0 ≤ n) (h1 : n < 4294967296) : Calls Try.prog 40 #[.int .u32 n] w (RetB w (b4 n)) := by
  go_enter Try.func40, Try.ntmps40
  go_wp2_with fail
  refine (b2_any _ _ (by omega) (by omega)).mono ?_
  rintro e w1 ⟨A, m, c, rfl, hown, hb⟩
  go_wp2_with fail
  refine (b2_any _ _ (by omega) (by omega)).mono ?_
  rintro e w2 ⟨A', m', c', rfl, hown', hb'⟩
  go_wp2_with fail
  have ha : Below w2.heap.size w2 (w2.alloc (.cells #[.slice A m c, .slice A' m' c'] 27)) := (Below.refl _ _).alloc (Nat.le_refl _) _
  refine (join_any _ _ _ [⟨A, m, c, b2 (n / 65536)⟩, ⟨A', m', c', b2 (n % 65536)⟩] _ ?_ ?_ (by omega) (by simp [joined, b2])).mono ?_
  · refine ⟨rfl, fun _ => ⟨w2.heap.size, 0, rfl, by simp, fun j u hu => ?_⟩⟩
    match j, hu with
    | 0, hu => simp [BsV.val] at hu; subst hu; simp
    | 1, hu => simp [BsV.val] at hu; subst hu; simp
  · intro p hp
    simp at hp
    rcases hp with rfl | rfl
    · exact ((hown.row.below hb').below ha)
    · exact hown'.row.below ha
  · rintro e w3 ⟨A3, n3, c3, rfl, hown3, hb3⟩
    have hs1 := hb.size
    have hs2 := hb'.size
    have hs3 := hb3.size
    simp at hown3 hb3 hs3
    go_wp2
    go_ret
    refine ⟨A3, n3, c3, rfl, ?_, ?_⟩
    · have : joined [⟨A, m, c, b2 (n / 65536)⟩, ⟨A', m', c', b2 (n % 65536)⟩] = b4 n := by simp [joined, b4]
      rw [← this]
      exact hown3.mono (by omega)
    · exact (((hb.trans (hb'.mono hs1)).trans (ha.mono (by omega)))).trans (hb3.mono (by omega))

/-- The number of two bytes from a place on; 0 where they aren't all there. -/
def n2v (zs : List Int) (a : Nat) : Int := match zs[a]?, zs[a + 1]? with
  | some x, some y => 256 * x + y
  | _, _ => 0
/-- Are two bytes there? -/
def n2b (zs : List Int) (a : Nat) : Bool := decide (a + 2 ≤ zs.length)

theorem n2_any (A : Option Addr) (n c : Nat) (zs : List Int) (a : Nat) (w : World) (hr : Row w A n (cellsOf .u8 zs)) (hB : Bytes zs) (hn : n ≤ 140737488351232) (ha : a ≤ 140737488351232) :
    Calls Try.prog 46 #[.slice A n c, .int .i64 a] w (Quiet w (.tuple #[.int .i64 (n2v zs a), .bool (n2b zs a)])) := by
  have Hn := Lib.hid hr.len
  have HB := Lib.hid hB
  clear hB
  by_cases h : a + 2 ≤ n
  · obtain ⟨x, ex⟩ := get_some (zs := zs) (k := a) (by have := Hn.out; omega)
    obtain ⟨y, ey⟩ := get_some (zs := zs) (k := a + 1) (by have := Hn.out; omega)
    obtain ⟨g, off, rfl, hg, hc⟩ := hr.at (cellsOf_get (k := .u8) ex)
    obtain ⟨g', off', e', _, hc'⟩ := hr.at (cellsOf_get (k := .u8) ey)
    simp only [Option.some.injEq, Addr.mk.injEq, and_true] at e'
    obtain ⟨rfl, rfl⟩ := e'
    have hx := HB.out x (List.mem_of_getElem? ex)
    have hy := HB.out y (List.mem_of_getElem? ey)
    have HV : Hid (n2v zs a = 256 * x + y) := by unfold n2v; rw [ex, ey]; exact rfl
    have HT : Hid (n2b zs a = true) := by unfold n2b; rw [decide_eq_true_iff, Hn.out]; exact h
    clear ex ey
    obtain ⟨hx0, hx1⟩ := hx
    obtain ⟨hy0, hy1⟩ := hy
    have w1 : IntKind.i64.wrap ((a : Int) + 1) = (a : Int) + 1 := IntWalk.i64_in _ (by omega)
    have w2 : ((a : Int) + 1).toNat = a + 1 := by omega
    have w3 : (0 : Int) ≤ (a : Int) + 1 := by omega
    have w4 : (a : Int) + 1 < (n : Int) := by omega
    have w5 : IntKind.i64.wrap (256 * x) = 256 * x := IntWalk.i64_in _ (by omega)
    have w6 : IntKind.i64.wrap (256 * x + y) = 256 * x + y := IntWalk.i64_in _ (by omega)
    have w7 : IntKind.i64.wrap x = x := IntWalk.i64_in _ (by omega)
    have w8 : IntKind.i64.wrap y = y := IntWalk.i64_in _ (by omega)
    go_enter Try.func46, Try.ntmps46
    go_wp2
    go_quiet (fail)
    go_wp2
    go_ret2
    rw [HV.out, HT.out]
    exact ⟨rfl, _, rfl⟩
  · have HT : Hid (n2b zs a = false) := by unfold n2b; rw [decide_eq_false_iff_not, Hn.out]; exact h
    have HV : Hid (n2v zs a = 0) := by
      unfold n2v
      have : zs[a + 1]? = none := List.getElem?_eq_none (by have := Hn.out; omega)
      rw [this]
      cases zs[a]? <;> exact rfl
    go_enter Try.func46, Try.ntmps46
    go_wp2
    go_ret2
    rw [HV.out, HT.out]
    exact ⟨rfl, 0, rfl⟩

/-- The number of four bytes from a place on; 0 where they aren't all there. -/
def n4v (zs : List Int) (a : Nat) : Int := if a + 4 ≤ zs.length then 65536 * n2v zs a + n2v zs (a + 2) else 0
def n4b (zs : List Int) (a : Nat) : Bool := decide (a + 4 ≤ zs.length)

theorem n2v_le {zs : List Int} (hB : Bytes zs) (a : Nat) : 0 ≤ n2v zs a ∧ n2v zs a ≤ 65535 := by
  unfold n2v
  split
  · rename_i x y ex ey
    have := hB x (List.mem_of_getElem? ex)
    have := hB y (List.mem_of_getElem? ey)
    omega
  · omega

theorem n4_any (A : Option Addr) (n c : Nat) (zs : List Int) (a : Nat) (w : World) (hr : Row w A n (cellsOf .u8 zs)) (hB : Bytes zs) (hn : n ≤ 140737488351232) (ha : a ≤ 140737488351232) :
    Calls Try.prog 44 #[.slice A n c, .int .i64 a] w (Quiet w (.tuple #[.int .u32 (n4v zs a), .bool (n4b zs a)])) := by
  have Hn := Lib.hid hr.len
  obtain ⟨b1, b2⟩ := n2v_le hB a
  obtain ⟨b3, b4⟩ := n2v_le hB (a + 2)
  have HB := Lib.hid hB
  clear hB
  by_cases h : a + 4 ≤ n
  · have HV : Hid (n4v zs a = 65536 * n2v zs a + n2v zs (a + 2)) := by unfold n4v; rw [if_pos (by have := Hn.out; omega)]; exact rfl
    have HT : Hid (n4b zs a = true) := by unfold n4b; rw [decide_eq_true_iff, Hn.out]; exact h
    have t1 : n2b zs a = true := by unfold n2b; rw [decide_eq_true_iff, Hn.out]; omega
    have t2 : n2b zs (a + 2) = true := by unfold n2b; rw [decide_eq_true_iff, Hn.out]; omega
    go_enter Try.func44, Try.ntmps44
    go_wp2_with fail
    refine (n2_any _ _ _ zs _ _ hr HB.out hn ha).mono ?_
    rintro e w1 ⟨rfl, q, rfl⟩
    go_wp2_with fail
    rw [show ((a : Int) + 2) = ((a + 2 : Nat) : Int) by omega]
    refine (n2_any _ _ _ zs _ _ (hr.drewN q) HB.out hn (by omega)).mono ?_
    rintro e w1 ⟨rfl, q', rfl⟩
    go_wp2
    go_ret2
    rw [HV.out, HT.out]
    exact ⟨rfl, q + q', rfl⟩
  · have HT : Hid (n4b zs a = false) := by unfold n4b; rw [decide_eq_false_iff_not, Hn.out]; exact h
    have HV : Hid (n4v zs a = 0) := by unfold n4v; rw [if_neg (by have := Hn.out; omega)]; exact rfl
    go_enter Try.func44, Try.ntmps44
    go_wp2_with fail
    refine (n2_any _ _ _ zs _ _ hr HB.out hn ha).mono ?_
    rintro e w1 ⟨rfl, q, rfl⟩
    go_wp2
    go_ret2
    rw [HV.out, HT.out]
    exact ⟨rfl, q, rfl⟩

end Go.Proofs.Ytlkidnacfljpkaa
