/- What the document's own small functions on bytes answer (Cut, Part, Same, Join, B2, B4, S2, N2, N4, Sign), as contracts over this seat's translation. -/
import Derived.Test.YtlkidnacfljpkaaMem
import Derived.BigQuiet
namespace Go.Proofs.Ytlkidnacfljpkaa
open Go.RowKit
set_option linter.unusedVariables false

theorem take_take_snoc (zs : List Int) (k m : Nat) (x : Int) (hx : zs[k]? = some x) (hm : k < m) : ((zs.take k).take m) ++ [x] = ((zs.take (k + 1)).take m) := by
  have hk : k < zs.length := (List.getElem?_eq_some_iff.1 hx).1
  rw [List.take_take, List.take_take, Nat.min_eq_right (by omega), Nat.min_eq_right (by omega), List.take_add_one, hx]
  rfl

theorem take_take_same (zs : List Int) (k m : Nat) (hm : m ≤ k) : ((zs.take k).take m) = ((zs.take (k + 1)).take m) := by
  rw [List.take_take, List.take_take, Nat.min_eq_left (by omega), Nat.min_eq_left (by omega)]

set_option maxHeartbeats 400000 in
theorem cut_any (A : Option Addr) (n c : Nat) (zs : List Int) (m : Int) (w : World) (hr : Row w A n (cellsOf .u8 zs)) (hl : n ≤ 9223372036854775807) (hm : m ≤ 140737488355327) :
    Calls Try.prog 14 #[.slice A n c, .int .i64 m] w (RetB w (zs.take m.toNat)) := by
  obtain ⟨i0, hi, hz0, hz1, hz2⟩ := info_parts Try.u8info
  have Hn := Lib.hid hr.len
  go_enter Try.func14, Try.ntmps14
  go_wp2
  go_loopw [5, 10] (fun v i wr => ∃ (k : Nat) (A2 : Option Addr) (n2 c2 : Nat), k ≤ n ∧ n2 ≤ k ∧ i = .int .i64 k ∧ v = .slice A2 n2 c2 ∧ OwnB wr w.heap.size A2 n2 c2 ((zs.take k).take m.toNat) ∧ Below w.heap.size w wr) (fun _ i _ => n - (intOf i).toNat)
  case atStart => exact ⟨0, none, 0, 0, Nat.zero_le _, Nat.le_refl _, rfl, rfl, by simpa using Own.nil _ _ _ _, Below.refl _ _⟩
  case round =>
    obtain ⟨k, A2, n2, c2, hk, hn2, rfl, rfl, hown, hbel⟩ := hrel
    by_cases hlt : k < n
    · obtain ⟨x, hx⟩ := get_some (zs := zs) (k := k) (by have := Hn.out; omega)
      obtain ⟨g, off, rfl, hg, hc⟩ := (hr.below hbel).at (cellsOf_get (k := .u8) hx)
      have Hx := Lib.hid hx
      clear hx
      by_cases hkm : (k : Int) < m
      · have hsz : w.heap.size ≤ wr.heap.size := hbel.size
        go_wp2_with (at_builtin; refine wpList_append_row rfl (.tmp 18) (.tmp 20) _ rfl 5 .u8 w.heap.size i0 1 Try.underlying27 hi hz0 hz1 hz2 A2 n2 c2 _ rfl (hown.alloc _) (some ⟨wr.heap.size, 0, none⟩) 1 1 [x] rfl (row_one _ _ _ _) (by omega) (by omega) (by simp; omega) ?_)
        intro A3 c3 w1 hown1 hg1
        rw [take_take_snoc zs k m.toNat x Hx.out (by omega)] at hown1
        have hbel1 : Below w.heap.size w w1 := (hbel.alloc hsz _).grown hg1 (by simp; omega) (fun q e => (hown.from_ q e).1)
        clear hg1 hown hbel hc
        go_wp2
        go_roundw
        case rel => exact ⟨k + 1, A3, n2 + 1, c3, by omega, by omega, by go_num, rfl, hown1, hbel1⟩
        case measure => simp [intOf]; omega
      · rw [take_take_same zs k m.toNat (by omega)] at hown
        go_wp2
        go_roundw
        case rel => exact ⟨k + 1, A2, n2, c2, by omega, by omega, by go_num, rfl, hown, hbel⟩
        case measure => simp [intOf]; omega
    · rw [show zs.take k = zs from List.take_of_length_le (by have := Hn.out; omega)] at hown
      go_wp2
      go_ret
      exact ⟨A2, n2, c2, rfl, hown, hbel⟩

/-- The numbers from a place to another one, as many as there are. -/
def part (zs : List Int) (a b : Nat) : List Int := (zs.take b).drop a

theorem part_snoc (zs : List Int) (a b k : Nat) (x : Int) (hx : zs[k]? = some x) (ha : a ≤ k) (hb : k < b) : part (zs.take k) a b ++ [x] = part (zs.take (k + 1)) a b := by
  have hk : k < zs.length := (List.getElem?_eq_some_iff.1 hx).1
  unfold part
  rw [← take_take_snoc zs k b x hx hb, List.drop_append_of_le_length (by simp; omega)]

theorem part_same_hi (zs : List Int) (a b k : Nat) (hb : b ≤ k) : part (zs.take k) a b = part (zs.take (k + 1)) a b := by
  unfold part
  rw [take_take_same zs k b hb]

theorem part_same_lo (zs : List Int) (a b k : Nat) (ha : k < a) : part (zs.take k) a b = part (zs.take (k + 1)) a b := by
  unfold part
  rw [List.drop_of_length_le (by simp; omega), List.drop_of_length_le (by simp; omega)]

set_option maxHeartbeats 400000 in
theorem part_any (A : Option Addr) (n c : Nat) (zs : List Int) (a b : Int) (w : World) (hr : Row w A n (cellsOf .u8 zs)) (hl : n ≤ 140737488351232) (ha0 : 0 ≤ a) :
    Calls Try.prog 47 #[.slice A n c, .int .i64 a, .int .i64 b] w (RetB w (part zs a.toNat b.toNat)) := by
  obtain ⟨i0, hi, hz0, hz1, hz2⟩ := info_parts Try.u8info
  have Hn := Lib.hid hr.len
  go_enter Try.func47, Try.ntmps47
  go_wp2
  go_loopw [7, 12] (fun v i wr => ∃ (k : Nat) (A2 : Option Addr) (n2 c2 : Nat), k ≤ n ∧ n2 ≤ k ∧ i = .int .i64 k ∧ v = .slice A2 n2 c2 ∧ OwnB wr w.heap.size A2 n2 c2 (part (zs.take k) a.toNat b.toNat) ∧ Below w.heap.size w wr) (fun _ i _ => n - (intOf i).toNat)
  case atStart => exact ⟨0, none, 0, 0, Nat.zero_le _, Nat.le_refl _, rfl, rfl, by simpa [part] using Own.nil _ _ _ _, Below.refl _ _⟩
  case round =>
    obtain ⟨k, A2, n2, c2, hk, hn2, rfl, rfl, hown, hbel⟩ := hrel
    by_cases hlt : k < n
    · obtain ⟨x, hx⟩ := get_some (zs := zs) (k := k) (by have := Hn.out; omega)
      obtain ⟨g, off, rfl, hg, hc⟩ := (hr.below hbel).at (cellsOf_get (k := .u8) hx)
      have Hx := Lib.hid hx
      clear hx
      by_cases ha : a ≤ (k : Int)
      · by_cases hb : (k : Int) < b
        · have hsz : w.heap.size ≤ wr.heap.size := hbel.size
          go_wp2_with (at_builtin; refine wpList_append_row rfl (.tmp 25) (.tmp 27) _ rfl 5 .u8 w.heap.size i0 1 Try.underlying27 hi hz0 hz1 hz2 A2 n2 c2 _ rfl (hown.alloc _) (some ⟨wr.heap.size, 0, none⟩) 1 1 [x] rfl (row_one _ _ _ _) (by omega) (by omega) (by simp; omega) ?_)
          intro A3 c3 w1 hown1 hg1
          rw [part_snoc zs a.toNat b.toNat k x Hx.out (by omega) (by omega)] at hown1
          have hbel1 : Below w.heap.size w w1 := (hbel.alloc hsz _).grown hg1 (by simp; omega) (fun q e => (hown.from_ q e).1)
          clear hg1 hown hbel hc
          go_wp2
          go_roundw
          case rel => exact ⟨k + 1, A3, n2 + 1, c3, by omega, by omega, by go_num, rfl, hown1, hbel1⟩
          case measure => simp [intOf]; omega
        · rw [part_same_hi zs a.toNat b.toNat k (by omega)] at hown
          go_wp2
          go_roundw
          case rel => exact ⟨k + 1, A2, n2, c2, by omega, by omega, by go_num, rfl, hown, hbel⟩
          case measure => simp [intOf]; omega
      · rw [part_same_lo zs a.toNat b.toNat k (by omega)] at hown
        go_wp2
        go_roundw
        case rel => exact ⟨k + 1, A2, n2, c2, by omega, by omega, by go_num, rfl, hown, hbel⟩
        case measure => simp [intOf]; omega
    · rw [show zs.take k = zs from List.take_of_length_le (by have := Hn.out; omega)] at hown
      go_wp2
      go_ret
      exact ⟨A2, n2, c2, rfl, hown, hbel⟩

/-- Are two lists alike? -/
def sameB (a b : List Int) : Bool := decide (a = b)

theorem sameB_refl (l : List Int) : sameB l l = true := by simp [sameB]

/-- What a call that only reads leaves. -/
def Quiet (w : World) (v : Value) (e : Ending) (w' : World) : Prop := e = .returned v ∧ ∃ q, w' = w.drewN q

set_option maxHeartbeats 400000 in
theorem same_any (A B : Option Addr) (n c m d : Nat) (xs ys : List Int) (w : World) (hx : Row w A n (cellsOf .u8 xs)) (hy : Row w B m (cellsOf .u8 ys)) (hl : n ≤ 140737488355328) (hl' : m ≤ 140737488355328) :
    Calls Try.prog 10 #[.slice A n c, .slice B m d] w (Quiet w (.bool (sameB xs ys))) := by
  have Hx := Lib.hid hx.len
  have Hy := Lib.hid hy.len
  by_cases hnm : n = m
  · subst hnm
    have hne : ((n : Int) != (n : Int)) = false := by simp
    go_enter Try.func10, Try.ntmps10
    go_wp2
    clear hne
    go_loopw [13] (fun i wr => ∃ k q : Nat, k ≤ n ∧ i = .int .i64 k ∧ xs.take k = ys.take k ∧ wr = w.drewN q) (fun i _ => n - (intOf i).toNat)
    case atStart => exact ⟨0, 0, Nat.zero_le _, rfl, by simp, rfl⟩
    case round =>
      obtain ⟨k, q, hk, rfl, hp, rfl⟩ := hrel
      have Hp := Lib.hid hp
      clear hp
      by_cases hlt : k < n
      · obtain ⟨x, ex⟩ := get_some (zs := xs) (k := k) (by have := Hx.out; omega)
        obtain ⟨y, ey⟩ := get_some (zs := ys) (k := k) (by have := Hy.out; omega)
        obtain ⟨g, off, rfl, hg, hc⟩ := hx.at (cellsOf_get (k := .u8) ex)
        obtain ⟨g', off', rfl, hg', hc'⟩ := hy.at (cellsOf_get (k := .u8) ey)
        have Ex := Lib.hid ex
        have Ey := Lib.hid ey
        clear ex ey
        by_cases he : x = y
        · have hb : (x != y) = false := by simp [he]
          have He := Lib.hid he
          clear he
          go_wp2
          go_quiet (fail)
          go_wp2
          go_roundw
          case rel => exact ⟨k + 1, _, by omega, by go_num, by rw [List.take_add_one, List.take_add_one, Ex.out, Ey.out, Hp.out, He.out], by first | rfl | (rw [World.drewN_drewN])⟩
          case measure => simp [intOf]; omega
        · have hb : (x != y) = true := by simp [he]
          have He := Lib.hid he
          clear he
          go_wp2
          go_quiet (fail)
          go_wp2
          go_ret
          refine ⟨?_, _, by first | rfl | (rw [World.drewN_drewN])⟩
          have hf : sameB xs ys = false := by
            unfold sameB
            rw [decide_eq_false_iff_not]
            rintro rfl
            have e1 := Ex.out
            rw [Ey.out] at e1
            exact He.out (Option.some.inj e1).symm
          rw [hf]
          rfl
      · go_wp2
        go_ret
        refine ⟨?_, q, rfl⟩
        have hp := Hp.out
        rw [List.take_of_length_le (by have := Hx.out; omega), List.take_of_length_le (by have := Hy.out; omega)] at hp
        have hf : sameB xs ys = true := by unfold sameB; simp [hp]
        rw [hf]
        rfl
  · have hne : ((n : Int) != (m : Int)) = true := by simp; omega
    go_enter Try.func10, Try.ntmps10
    go_wp2
    go_ret
    refine ⟨?_, 0, rfl⟩
    have hf : sameB xs ys = false := by
      unfold sameB
      rw [decide_eq_false_iff_not]
      rintro rfl
      have := Hx.out
      have := Hy.out
      omega
    rw [hf]
    rfl

end Go.Proofs.Ytlkidnacfljpkaa
