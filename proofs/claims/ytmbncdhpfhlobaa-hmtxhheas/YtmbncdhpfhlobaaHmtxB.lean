/- What hmtx.Build and the document's Bytes answer, as contracts over this seat's translation. -/
import Derived.Test.YtmbncdhpfhlobaaHmtxL
import Derived.Test.YtmbncdhpfhlobaaWrBox
import Derived.Test.YtmbncdhpfhlobaaCells
import Derived.Test.YtmbncdhpfhlobaaLocaRef2
namespace Go.Proofs.Ytmbncdhpfhlobaa
open Go.RowKit
set_option linter.unusedVariables false

theorem bytesK_lt (l : List Mt) (L k : Nat) (m : Mt) (hm : l[k]? = some m) (h : k < L) : bytesK l L (k + 1) = bytesK l L k ++ b2 m.1 ++ b2 (m.2 % 65536) := by
  rw [bytesK, mAt_of hm, mB, if_pos h, List.append_assoc]
theorem bytesK_ge (l : List Mt) (L k : Nat) (m : Mt) (hm : l[k]? = some m) (h : ¬ k < L) : bytesK l L (k + 1) = bytesK l L k ++ b2 (m.2 % 65536) := by
  rw [bytesK, mAt_of hm, mB, if_neg h, List.nil_append]
theorem posM_le (L k : Nat) : posM L k ≤ 4 * k := by unfold posM; split <;> omega

/-- What building metrics leaves. -/
def RetHB (w : World) (l : List Mt) (e : Ending) (w' : World) : Prop :=
  ∃ A n c, e = .returned (.tuple #[.slice A n c, .int .u16 (longL l)]) ∧ OwnB w' w.heap.size A n c (bytesK l (longL l) l.length) ∧ Below w.heap.size w w'

set_option maxRecDepth 100000 in
set_option maxHeartbeats 1000000 in
theorem hbuild_any (A : Option Addr) (n c : Nat) (l : List Mt) (w : World) (hr : RowS encM 2 w A n l) (hn : n ≤ 65535) (hok : OkM l) :
    Calls Try.prog 15 #[.slice A n c] w (RetHB w l) := by
  have Hn := Lib.hid hr.len
  have Hok := Lib.hid hok
  clear hok
  by_cases hz : n = 0
  · subst hz
    have HL : Hid (l = []) := List.eq_nil_of_length_eq_zero Hn.out
    go_enter Try.func15, Try.ntmps15
    go_wp2
    go_ret2
    exact ⟨none, 0, 0, by rw [HL.out]; rfl, by rw [HL.out]; exact Own.nil _ _ _ _, Below.refl _ _⟩
  · have hb0 : ((n : Int) == 0) = false := by simp [hz]
    have hL := longL_le l
    rw [Hn.out] at hL
    have HL := Lib.hid (hlong_any A n c l w hr hn)
    go_enter Try.func15, Try.ntmps15
    go_wp2_with fail
    refine HL.out.mono ?_
    rintro e w1 ⟨rfl, q, rfl⟩
    have hA : Below w.heap.size w ((w.drewN q).alloc (.cells #[.slice none 0 0] 79)) := (below_drewN (Below.refl _ _) q).alloc (Nat.le_refl _) _
    have hw : Wr ((w.drewN q).alloc (.cells #[.slice none 0 0] 79)) w.heap.size w.heap.size [] := wr_new (w.drewN q)
    generalize hLL : longL l = L at *
    have HLL := Lib.hid hLL
    clear hb0 HL hLL
    go_wp2
    go_loopw [20] (fun i wr => ∃ k : Nat, k ≤ n ∧ i = .int .i64 k ∧ Wr wr w.heap.size w.heap.size (bytesK l L k) ∧ Below w.heap.size w wr) (fun i _ => n - (intOf i).toNat)
    case atStart => exact ⟨0, Nat.zero_le _, rfl, hw, hA⟩
    case round =>
      clear hw hA
      obtain ⟨k, hk, rfl, hw, hbel⟩ := hrel
      by_cases hlt : k < n
      · obtain ⟨m, hm⟩ := getM (l := l) (j := k) (by have := Hn.out; omega)
        obtain ⟨g, off, rfl, hg, hc0, hc1⟩ := atM (hr.below hbel) hm
        obtain ⟨m0, m1, m2, m3⟩ := Hok.out m (List.mem_of_getElem? hm)
        have hlen : (bytesK l L k).length ≤ 300000 := by rw [bytesK_len]; have := posM_le L k; omega
        have Hm := Lib.hid hm
        clear hm
        obtain ⟨a, b⟩ := m
        simp only at hc0 hc1 m0 m1 m2 m3
        have hal : Below wr.heap.size wr (wr.alloc (.cells #[.int .u16 a, .int .i16 b] 41)) := (Below.refl _ _).alloc (Nat.le_refl _) _
        have hs : StB w (wr.alloc (.cells #[.int .u16 a, .int .i16 b] 41)) w.heap.size (bytesK l L k) wr.heap.size #[.int .u16 a, .int .i16 b] 41 :=
          ⟨hw.below hal, hbel.trans (hal.mono hbel.size), heap_alloc_new wr _, by decide, by decide⟩
        clear hw hbel hal
        by_cases hkL : k < L
        · have HK := Lib.hid (bytesK_lt l L k (a, b) Hm.out hkL)
          go_wp2_with fail
          with_reducible refine (wu16_any _ _ _ a _ hs.wr_ (by omega) (by omega) (by omega)).mono ?_
          rintro e w3 ⟨rfl, hw3, ht3⟩
          have hs3 := hs.turned hw3 ht3
          have d1 := hs3.cell 1 _ rfl
          clear hs hw3 ht3
          go_wp2_with fail
          with_reducible refine (wi16_any _ _ _ b _ hs3.wr_ (by rw [List.length_append]; simp [b2]; omega)).mono ?_
          rintro e w4 ⟨rfl, hw4, ht4⟩
          have hs4 := hs3.turned hw4 ht4
          rw [← HK.out] at hs4
          clear hs3 hw4 ht4 d1
          go_wp2
          go_roundw
          case rel => exact ⟨k + 1, by omega, by go_num, hs4.wr_, hs4.bel⟩
          case measure => simp [intOf]; omega
        · have HK := Lib.hid (bytesK_ge l L k (a, b) Hm.out hkL)
          go_wp2_with fail
          with_reducible refine (wi16_any _ _ _ b _ hs.wr_ (by omega)).mono ?_
          rintro e w4 ⟨rfl, hw4, ht4⟩
          have hs4 := hs.turned hw4 ht4
          rw [← HK.out] at hs4
          clear hs hw4 ht4
          go_wp2
          go_roundw
          case rel => exact ⟨k + 1, by omega, by go_num, hs4.wr_, hs4.bel⟩
          case measure => simp [intOf]; omega
      · obtain rfl : k = n := by omega
        go_wp2_with fail
        with_reducible refine (done_any _ _ _ _ hw (by rw [bytesK_len]; have := posM_le L k; omega)).mono ?_
        rintro e w3 ⟨A3, n3, c3, rfl, hown3, hb3⟩
        go_wp2
        go_ret2
        refine ⟨A3, n3, c3, by rw [HLL.out]; rfl, ?_, hbel.trans (hb3.mono hbel.size)⟩
        rw [HLL.out, Hn.out]
        exact hown3.mono hbel.size

set_option maxRecDepth 100000 in
set_option maxHeartbeats 1000000 in
theorem rbytes7_any (A : Option Addr) (n c : Nat) (l : List Mt) (L : Nat) (w : World) (hr : RowS encR 2 w A n l) (hn : n ≤ 65535) (hok : OkM l) :
    Calls Try.prog 19 #[.slice A n c, .int .i64 L] w (RetB w (bytesK l L l.length)) := by
  have Hn := Lib.hid hr.len
  have Hok := Lib.hid hok
  clear hok
  go_enter Try.func19, Try.ntmps19
  go_wp2
  go_loopw [5, 10] (fun v i wr => ∃ (k : Nat) (A2 : Option Addr) (n2 c2 : Nat), k ≤ n ∧ i = .int .i64 k ∧ v = .slice A2 n2 c2 ∧ OwnB wr w.heap.size A2 n2 c2 (bytesK l L k) ∧ Below w.heap.size w wr) (fun _ i _ => n - (intOf i).toNat)
  case atStart => exact ⟨0, none, 0, 0, Nat.zero_le _, rfl, rfl, Own.nil _ _ _ _, Below.refl _ _⟩
  case round =>
    obtain ⟨k, A2, n2, c2, hk, rfl, rfl, hown, hbel⟩ := hrel
    by_cases hlt : k < n
    · obtain ⟨m, hm⟩ := getM (l := l) (j := k) (by have := Hn.out; omega)
      obtain ⟨g, off, rfl, hg, hc0, hc1⟩ := atR (hr.below hbel) hm
      obtain ⟨m0, m1, m2, m3⟩ := Hok.out m (List.mem_of_getElem? hm)
      have hlen : n2 ≤ 300000 := by have h := hown.len; rw [bytesK_len] at h; have := posM_le L k; omega
      have Hm := Lib.hid hm
      clear hm
      obtain ⟨a, b⟩ := m
      simp only at hc0 hc1 m0 m1 m2 m3
      have hal : Below wr.heap.size wr (wr.alloc (.cells #[.int .i64 a, .int .i64 b] 48)) := (Below.refl _ _).alloc (Nat.le_refl _) _
      have hbx := heap_alloc_new wr (.cells #[.int .i64 a, .int .i64 b] 48)
      have hown1 := hown.below hal
      have hbel1 := hbel.trans (hal.mono hbel.size)
      have hsz0 := hbel.size
      clear hown hbel hal
      by_cases hkL : (k : Int) < (L : Int)
      · have HK := Lib.hid (bytesK_lt l L k (a, b) Hm.out (by omega))
        go_wp2_with fail
        generalize wr.alloc (.cells #[.int .i64 a, .int .i64 b] 48) = V at *
        with_reducible refine (b2_any a _ (by omega) (by omega)).mono ?_
        rintro e w1 ⟨A1, n1, c1, rfl, o1, hb1⟩
        have hown2 := hown1.below hb1
        have hbel2 := hbel1.trans (hb1.mono hbel1.size)
        have hbx2 := kept_block hbx hb1
        have HL2 := Lib.hid hown2.len
        clear hown1 hbel1 hbx hb1
        go_wp2_with fail
        with_reducible refine (join2_any w1 _ A2 A1 n2 c2 n1 c1 _ _ rfl hown2.row o1.row (by have := HL2.out; simp [b2]; omega)).mono ?_
        rintro e w2 ⟨A3, n3, c3, rfl, o3, hb3⟩
        have hbel3 := hbel2.trans (hb3.mono hbel2.size)
        have hbx3 := kept_block hbx2 hb3
        have hown3 := o3.mono hbel2.size
        have d1 : w2.cell? ⟨wr.heap.size, 1, none⟩ = some (.int .i64 b) := cell_of_row w2 _ 1 _ _ _ hbx3
        have HL3 := Lib.hid hown3.len
        have hn3 : n3 ≤ 300002 := by have h := HL3.out; rw [List.length_append, HL2.out] at h; simp [b2] at h; omega
        clear o1 o3 hb3 hown2 hbel2 hbx2 hbx3 HL2
        go_wp2_with fail
        with_reducible refine (s2_any b _ (by omega) (by omega)).mono ?_
        rintro e w4 ⟨A4, n4, c4, rfl, o4, hb4⟩
        have hown4 := hown3.below hb4
        have hbel4 := hbel3.trans (hb4.mono hbel3.size)
        clear hown3 hbel3 hb4 d1
        go_wp2_with fail
        with_reducible refine (join2_any w4 _ A3 A4 n3 c3 n4 c4 _ _ rfl hown4.row o4.row (by have := HL3.out; simp [b2] at *; omega)).mono ?_
        rintro e w5 ⟨A5, n5, c5, rfl, o5, hb5⟩
        rw [← HK.out] at o5
        have hown5 := o5.mono hbel4.size
        have hbel5 := hbel4.trans (hb5.mono hbel4.size)
        clear o4 o5 hb5 hown4 hbel4
        go_wp2
        go_roundw
        case rel => exact ⟨k + 1, A5, n5, c5, by omega, by go_num, rfl, hown5, hbel5⟩
        case measure => simp [intOf]; omega
      · have HK := Lib.hid (bytesK_ge l L k (a, b) Hm.out (by omega))
        have HL3 := Lib.hid hown1.len
        go_wp2_with fail
        generalize wr.alloc (.cells #[.int .i64 a, .int .i64 b] 48) = V at *
        with_reducible refine (s2_any b _ (by omega) (by omega)).mono ?_
        rintro e w4 ⟨A4, n4, c4, rfl, o4, hb4⟩
        have hown4 := hown1.below hb4
        have hbel4 := hbel1.trans (hb4.mono hbel1.size)
        clear hown1 hbel1 hb4 hbx
        go_wp2_with fail
        with_reducible refine (join2_any w4 _ A2 A4 n2 c2 n4 c4 _ _ rfl hown4.row o4.row (by have := HL3.out; simp [b2] at *; omega)).mono ?_
        rintro e w5 ⟨A5, n5, c5, rfl, o5, hb5⟩
        rw [← HK.out] at o5
        have hown5 := o5.mono hbel4.size
        have hbel5 := hbel4.trans (hb5.mono hbel4.size)
        clear o4 o5 hb5 hown4 hbel4
        go_wp2
        go_roundw
        case rel => exact ⟨k + 1, A5, n5, c5, by omega, by go_num, rfl, hown5, hbel5⟩
        case measure => simp [intOf]; omega
    · obtain rfl : k = n := by omega
      go_wp2
      go_ret
      exact ⟨A2, n2, c2, rfl, by rw [Hn.out]; exact hown, hbel⟩

end Go.Proofs.Ytmbncdhpfhlobaa
