/- What package loca's Build answers, as a contract over this seat's translation. -/
import Derived.Test.YtmbncdhpfhlobaaLocaMath
import Derived.Test.YtmbncdhpfhlobaaInts
import Derived.Test.YtmbncdhpfhlobaaWrBox
namespace Go.Proofs.Ytmbncdhpfhlobaa
open Go.RowKit
set_option linter.unusedVariables false

set_option maxHeartbeats 1000000 in
theorem placesOf_any (A : Option Addr) (n c : Nat) (l : List Int) (w : World) (hr : Row w A n (cellsOf .i64 l)) (hn : n ≤ 70000) :
    Calls Try.prog 52 #[.slice A n c] w (RetPl w (okS 0 l) (scan 0 l) (.bool false) (.bool true)) := by
  obtain ⟨i0, hi, hz0, hz1, hz2⟩ := info_parts Try.i64info
  have Hn := Lib.hid hr.len
  go_enter Try.func52, Try.ntmps52
  go_wp2_with (at_make; refine wpList_make_ints rfl _ (.tmp 10) _ rfl 3 .i64 w.heap.size i0 8 Try.underlying62 hi hz0 hz1 hz2 _ _ 1 (n + 1) rfl rfl rfl (by omega) (by omega) (by omega) (by omega) (Nat.le_refl _) ?_; intro w1 hown1 hg1)
  have hb1 : Below w.heap.size w w1 := (Below.refl _ _).grown hg1 (Nat.le_refl _) (fun k e => by cases e)
  clear hg1
  go_wp2
  go_loopw [4, 5, 14] (fun v s i wr => ∃ (k : Nat) (A2 : Option Addr) (c2 : Nat), k ≤ n ∧ i = .int .i64 k ∧ s = .int .i64 (sumI (l.take k)) ∧ v = .slice A2 (k + 1) c2 ∧ okS 0 (l.take k) = true ∧ Own 3 .i64 wr w.heap.size A2 (k + 1) c2 (scan 0 (l.take k)) ∧ Below w.heap.size w wr) (fun _ _ i _ => n - (intOf i).toNat)
  case atStart => exact ⟨0, _, _, Nat.zero_le _, rfl, rfl, rfl, rfl, hown1, hb1⟩
  case round =>
    clear hown1 hb1
    obtain ⟨k, A2, c2, hk, rfl, rfl, rfl, hok, hown, hbel⟩ := hrel
    have Hok := Lib.hid hok
    obtain ⟨s0, s1, _⟩ := okS_sum _ _ hok (by omega) (by omega)
    rw [Int.zero_add] at s1
    clear hok
    by_cases hlt : k < n
    · obtain ⟨x, hx⟩ := get_some (zs := l) (k := k) (by have := Hn.out; omega)
      obtain ⟨g, off, rfl, hg, hc⟩ := (hr.below hbel).at (cellsOf_get (k := .i64) hx)
      have HT := Lib.hid (take_snocI l k x hx)
      have HO : Hid (okS 0 (l.take (k + 1)) = decide (0 ≤ x ∧ x ≤ 67108864 - sumI (l.take k))) := by
        rw [HT.out, okS_snoc, Hok.out, Int.zero_add]
        exact Bool.true_and _
      clear hx
      by_cases h1 : x < 0
      · go_wp2
        go_ret2
        refine ⟨hbel, .inl ⟨okS_take l 0 (k + 1) ?_, rfl⟩⟩
        rw [HO.out]
        exact decide_eq_false (by omega)
      · by_cases h2 : 67108864 - sumI (l.take k) < x
        · go_wp2
          go_ret2
          refine ⟨hbel, .inl ⟨okS_take l 0 (k + 1) ?_, rfl⟩⟩
          rw [HO.out]
          exact decide_eq_false (by omega)
        · have hsz : w.heap.size ≤ wr.heap.size := hbel.size
          have HS : Hid (sumI (l.take (k + 1)) = sumI (l.take k) + x) := by rw [HT.out]; exact sumI_snoc _ _
          have HC : Hid (scan 0 (l.take (k + 1)) = scan 0 (l.take k) ++ [sumI (l.take k) + x]) := by rw [HT.out, scan_snoc, Int.zero_add]; exact rfl
          go_wp2_with (at_builtin; refine wpList_append_row rfl (.tmp 29) (.tmp 31) _ rfl 3 .i64 w.heap.size i0 8 Try.underlying62 hi hz0 hz1 hz2 A2 (k + 1) c2 _ rfl (hown.alloc _) (some ⟨wr.heap.size, 0, none⟩) 1 1 [sumI (l.take k) + x] rfl (row_one _ _ _ _) (by omega) (by omega) (by simp; omega) ?_)
          intro A3 c3 w1 hown1 hg1
          rw [← HC.out] at hown1
          have hbel1 : Below w.heap.size w w1 := (hbel.alloc hsz _).grown hg1 (by simp; omega) (fun q e => (hown.from_ q e).1)
          clear hg1 hown hbel hc
          go_wp2
          go_roundw
          case rel => exact ⟨k + 1, A3, c3, by omega, by go_num, by rw [HS.out], rfl, by rw [HO.out]; exact decide_eq_true (by omega), hown1, hbel1⟩
          case measure => simp [intOf]; omega
    · have HE : Hid (l.take k = l) := List.take_of_length_le (by have := Hn.out; omega)
      go_wp2
      go_ret2
      have := Hok.out
      rw [HE.out] at this hown
      exact ⟨hbel, .inr ⟨this, _, _, _, rfl, hown⟩⟩

theorem fitShort_any (A : Option Addr) (n c : Nat) (l : List Int) (w : World) (hr : Row w A n (cellsOf .i64 l)) (hn : n ≤ 70001) (hl : ∀ x ∈ l, 0 ≤ x ∧ x ≤ 67108864) :
    Calls Try.prog 53 #[.slice A n c] w fun e w' => e = .returned (.bool (fitB l)) ∧ w = w' := by
  have Hn := Lib.hid hr.len
  have HL := Lib.hid hl
  clear hl
  go_enter Try.func53, Try.ntmps53
  go_wp2
  go_loop [7] (fun i => ∃ k : Nat, k ≤ n ∧ i = .int .i64 k ∧ fitB (l.take k) = true) (fun i => n - (intOf i).toNat)
  case atStart => exact ⟨0, Nat.zero_le _, rfl, rfl⟩
  case round =>
    obtain ⟨k, hk, rfl, hok⟩ := hrel
    have Hok := Lib.hid hok
    clear hok
    by_cases hlt : k < n
    · obtain ⟨x, hx⟩ := get_some (zs := l) (k := k) (by have := Hn.out; omega)
      obtain ⟨g, off, rfl, hg, hc⟩ := hr.at (cellsOf_get (k := .i64) hx)
      have HF : Hid (fitB (l.take (k + 1)) = decide (x % 2 = 0 ∧ x ≤ 131070)) := by
        rw [take_snocI l k x hx, fitB_snoc, Hok.out]
        exact Bool.true_and _
      obtain ⟨x0, x1⟩ := HL.out x (List.mem_of_getElem? hx)
      clear hx
      by_cases h1 : x % 2 = 0
      · have hb : (x % 2 != 0) = false := by simp [h1]
        have H1 := Lib.hid h1
        clear h1
        by_cases h2 : 131070 < x
        · go_wp2
          go_ret
          refine ⟨?_, rfl⟩
          rw [fitB_take l (k + 1) (by rw [HF.out]; exact decide_eq_false (by omega))]
          rfl
        · go_wp2
          go_round
          case rel => exact ⟨k + 1, by omega, by go_num, by rw [HF.out]; exact decide_eq_true ⟨H1.out, by omega⟩⟩
          case measure => simp [intOf]; omega
      · have hb : (x % 2 != 0) = true := by simp [h1]
        have H1 := Lib.hid h1
        clear h1
        go_wp2
        go_ret
        refine ⟨?_, rfl⟩
        rw [fitB_take l (k + 1) (by rw [HF.out]; exact decide_eq_false (fun h => H1.out h.1))]
        rfl
    · have HE : Hid (l.take k = l) := List.take_of_length_le (by have := Hn.out; omega)
      go_wp2
      go_ret
      refine ⟨?_, rfl⟩
      rw [← HE.out, Hok.out]
      rfl

end Go.Proofs.Ytmbncdhpfhlobaa
