/- What the document's Build of layer 8 answers, as a contract over this seat's translation. -/
import Derived.Test.YtmbncdhpfhlobaaLocaB2
import Derived.Test.YtmbncdhpfhlobaaJoinN
namespace Go.Proofs.Ytmbncdhpfhlobaa
open Go.RowKit
set_option linter.unusedVariables false

/-- Two slices of bytes written out, to be joined. -/
theorem join2_any (V : World) (b : Nat) (A A' : Option Addr) (n c n' c' : Nat) (xs ys : List Int) (hb : b = V.heap.size) (hx : Row V A n (cellsOf .u8 xs)) (hy : Row V A' n' (cellsOf .u8 ys)) (hl : xs.length + ys.length ≤ 140737488351232) :
    Calls Try.prog 28 #[.slice (some ⟨b, 0, none⟩) 2 2] (V.alloc (.cells #[.slice A n c, .slice A' n' c'] 27)) (RetB V (xs ++ ys)) := by
  have := joinN_any V b [⟨A, n, c, xs⟩, ⟨A', n', c', ys⟩] 2 #[.slice A n c, .slice A' n' c'] rfl hb rfl (fun p hp => by
    simp at hp
    rcases hp with rfl | rfl
    · exact hx
    · exact hy) (by omega) (by simpa [joined] using hl)
  simpa [joined] using this

theorem fit_snoc (l : List Int) (x : Int) : fitB (scan 0 (l ++ [x])) = (fitB (scan 0 l) && decide ((sumI l + x) % 2 = 0 ∧ sumI l + x ≤ 131070)) := by rw [scan_snoc, fitB_snoc, Int.zero_add]

set_option maxRecDepth 100000 in
set_option maxHeartbeats 2000000 in
theorem rBuild_any (A : Option Addr) (n c : Nat) (l : List Int) (w : World) (hr : Row w A n (cellsOf .i64 l)) (hn : n ≤ 65535) (hok : okS 0 l = true) :
    Calls Try.prog 34 #[.slice A n c] w (RetBd w l) := by
  have Hn := Lib.hid hr.len
  have Hok := Lib.hid hok
  have HM := Lib.hid (scan_mem l hok)
  have HS := Lib.hid (scan_len l 0)
  have HT := Lib.hid (fun k => sumI_take l k hok)
  clear hok
  go_enter Try.func34, Try.ntmps34
  go_wp2
  go_loop [4, 5, 13] (fun s v i => ∃ (k : Nat) (L : Bool), k ≤ n ∧ i = .int .i64 k ∧ s = .int .i64 (sumI (l.take k)) ∧ v = .bool L ∧ L = !fitB (scan 0 (l.take k))) (fun _ _ i => n - (intOf i).toNat)
  case atStart => exact ⟨0, false, Nat.zero_le _, rfl, rfl, rfl, rfl⟩
  case round =>
    obtain ⟨k, L, hk, rfl, rfl, rfl, hL⟩ := hrel
    have HL := Lib.hid hL
    clear hL
    by_cases hlt : k < n
    · obtain ⟨x, hx⟩ := get_some (zs := l) (k := k) (by have := Hn.out; omega)
      obtain ⟨g, off, rfl, hg, hc⟩ := hr.at (cellsOf_get (k := .i64) hx)
      obtain ⟨s0, s1⟩ := HT.out k
      obtain ⟨t0, t1⟩ := HT.out (k + 1)
      rw [take_snocI l k x hx, sumI_snoc] at t0 t1
      have HU : Hid (sumI (l.take (k + 1)) = sumI (l.take k) + x) := by rw [take_snocI l k x hx, sumI_snoc]; exact rfl
      have HF : Hid (fitB (scan 0 (l.take (k + 1))) = (!L && decide ((sumI (l.take k) + x) % 2 = 0 ∧ sumI (l.take k) + x ≤ 131070))) := by
        rw [take_snocI l k x hx, fit_snoc, HL.out, Bool.not_not]
        exact rfl
      clear hx
      cases L with
      | true =>
        go_wp2
        go_round
        case rel => exact ⟨k + 1, true, by omega, by go_num, by rw [HU.out], rfl, by rw [HF.out]; rfl⟩
        case measure => simp [intOf]; omega
      | false =>
        by_cases h1 : 0 < (sumI (l.take k) + x) % 2
        · go_wp2
          go_round
          case rel => exact ⟨k + 1, true, by omega, by go_num, by rw [HU.out], rfl, by rw [HF.out, decide_eq_false (by omega)]; rfl⟩
          case measure => simp [intOf]; omega
        · by_cases h2 : 131070 < sumI (l.take k) + x
          · go_wp2
            go_round
            case rel => exact ⟨k + 1, true, by omega, by go_num, by rw [HU.out], rfl, by rw [HF.out, decide_eq_false (by omega)]; rfl⟩
            case measure => simp [intOf]; omega
          · go_wp2
            go_round
            case rel => exact ⟨k + 1, false, by omega, by go_num, by rw [HU.out], rfl, by rw [HF.out, decide_eq_true (by omega)]; rfl⟩
            case measure => simp [intOf]; omega
    · have HE : Hid (l.take k = l) := List.take_of_length_le (by have := Hn.out; omega)
      have HLo : Hid (longOf l = L) := by
        have := HL.out
        rw [HE.out] at this
        exact this.symm
      have Hfit : Hid (L = false → fitB (scan 0 l) = true) := by
        intro h
        have := HL.out
        rw [HE.out, h] at this
        cases hh : fitB (scan 0 l) with
        | true => rfl
        | false => rw [hh] at this; cases this
      obtain rfl : k = n := by omega
      clear HL
      cases L with
      | true =>
        go_wp2
        go_loopw [8, 9, 10] (fun s v i wr => ∃ (j : Nat) (A2 : Option Addr) (n2 c2 : Nat), j ≤ k + 1 ∧ i = .int .i64 j ∧ s = .int .i64 (sumI (l.take j)) ∧ v = .slice A2 n2 c2 ∧ OwnB wr w.heap.size A2 n2 c2 (plsB true ((scan 0 l).take j)) ∧ Below w.heap.size w wr) (fun _ _ i _ => k + 1 - (intOf i).toNat)
        case atStart => exact ⟨0, none, 0, 0, Nat.zero_le _, rfl, rfl, rfl, Own.nil _ _ _ _, Below.refl _ _⟩
        case round =>
          obtain ⟨j, A2, n2, c2, hj, rfl, rfl, rfl, hown, hbel⟩ := hrel
          obtain ⟨s0, s1⟩ := HT.out j
          by_cases hlt : j < k + 1
          · have hx := scan_get l 0 j (by have := Hn.out; omega)
            rw [Int.zero_add] at hx
            have HP : Hid (plsB true ((scan 0 l).take (j + 1)) = plsB true ((scan 0 l).take j) ++ b4 (sumI (l.take j))) := by rw [take_snocI _ j _ hx, plsB_snoc]; exact rfl
            clear hx
            have hn2 : n2 ≤ 4 * j := by
              have := hown.len
              rw [plsB_len, List.length_take] at this
              simp only [eachB] at this
              have h1 : min j (scan 0 l).length ≤ j := Nat.min_le_left _ _
              simp at this
              omega
            have hrow := hown.row
            have HL2 := Lib.hid hown.len
            go_wp2_with fail
            with_reducible refine (b4_any (sumI (l.take j)) _ s0 (by omega)).mono ?_
            rintro e w1 ⟨A1, n1, c1, rfl, hown1, hb1⟩
            have hrow1 := hrow.below hb1
            go_wp2_with fail
            with_reducible refine (join2_any w1 _ A2 A1 n2 c2 n1 c1 _ _ rfl hrow1 hown1.row (by have := HL2.out; simp [b2, b4]; omega)).mono ?_
            rintro e w2 ⟨A3, n3, c3, rfl, hown3, hb3⟩
            rw [← HP.out] at hown3
            have hbel3 : Below w.heap.size w w2 := (hbel.trans (hb1.mono hbel.size)).trans (hb3.mono (Nat.le_trans hbel.size hb1.size))
            have hown4 := hown3.mono (Nat.le_trans hbel.size hb1.size)
            clear hown3 hb3 hown1 hb1 hown hrow hrow1 hbel HL2
            by_cases hjk : j < k
            · obtain ⟨x, hx⟩ := get_some (zs := l) (k := j) (by have := Hn.out; omega)
              obtain ⟨g, off, rfl, hg, hc⟩ := (hr.below hbel3).at (cellsOf_get (k := .i64) hx)
              obtain ⟨t0, t1⟩ := HT.out (j + 1)
              rw [take_snocI l j x hx, sumI_snoc] at t0 t1
              have HU : Hid (sumI (l.take (j + 1)) = sumI (l.take j) + x) := by rw [take_snocI l j x hx, sumI_snoc]; exact rfl
              clear hx
              go_wp2
              go_roundw
              case rel => exact ⟨j + 1, A3, n3, c3, by omega, by go_num, by rw [HU.out], rfl, hown4, hbel3⟩
              case measure => simp [intOf]; omega
            · have HU : Hid (sumI (l.take (j + 1)) = sumI (l.take j)) := by
                rw [List.take_of_length_le (show l.length ≤ j + 1 by have := Hn.out; omega), List.take_of_length_le (show l.length ≤ j by have := Hn.out; omega)]
                exact rfl
              go_wp2
              go_roundw
              case rel => exact ⟨j + 1, A3, n3, c3, by omega, by go_num, by rw [HU.out], rfl, hown4, hbel3⟩
              case measure => simp [intOf]; omega
          · have HE2 : Hid ((scan 0 l).take j = scan 0 l) := List.take_of_length_le (by rw [HS.out, Hn.out]; omega)
            rw [HE2.out] at hown
            go_wp2
            go_ret2
            refine ⟨hbel, .inr ⟨Hok.out, A2, n2, c2, ?_, ?_⟩⟩
            · rw [HLo.out]
              rfl
            · unfold bytesOf
              rw [HLo.out]
              exact hown
      | false =>
        go_wp2
        go_loopw [8, 9, 10] (fun s v i wr => ∃ (j : Nat) (A2 : Option Addr) (n2 c2 : Nat), j ≤ k + 1 ∧ i = .int .i64 j ∧ s = .int .i64 (sumI (l.take j)) ∧ v = .slice A2 n2 c2 ∧ OwnB wr w.heap.size A2 n2 c2 (plsB false ((scan 0 l).take j)) ∧ Below w.heap.size w wr) (fun _ _ i _ => k + 1 - (intOf i).toNat)
        case atStart => exact ⟨0, none, 0, 0, Nat.zero_le _, rfl, rfl, rfl, Own.nil _ _ _ _, Below.refl _ _⟩
        case round =>
          obtain ⟨j, A2, n2, c2, hj, rfl, rfl, rfl, hown, hbel⟩ := hrel
          obtain ⟨s0, s1⟩ := HT.out j
          by_cases hlt : j < k + 1
          · have hx := scan_get l 0 j (by have := Hn.out; omega)
            rw [Int.zero_add] at hx
            obtain ⟨_, x2⟩ := fit_at (Hfit.out (by trivial)) hx
            have HP : Hid (plsB false ((scan 0 l).take (j + 1)) = plsB false ((scan 0 l).take j) ++ b2 (sumI (l.take j) / 2)) := by rw [take_snocI _ j _ hx, plsB_snoc]; exact rfl
            clear hx
            have hn2 : n2 ≤ 4 * j := by
              have := hown.len
              rw [plsB_len, List.length_take] at this
              simp only [eachB] at this
              have h1 : min j (scan 0 l).length ≤ j := Nat.min_le_left _ _
              simp at this
              omega
            have hrow := hown.row
            have HL2 := Lib.hid hown.len
            go_wp2_with fail
            with_reducible refine (b2_any (sumI (l.take j) / 2) _ (by omega) (by omega)).mono ?_
            rintro e w1 ⟨A1, n1, c1, rfl, hown1, hb1⟩
            have hrow1 := hrow.below hb1
            go_wp2_with fail
            with_reducible refine (join2_any w1 _ A2 A1 n2 c2 n1 c1 _ _ rfl hrow1 hown1.row (by have := HL2.out; simp [b2]; omega)).mono ?_
            rintro e w2 ⟨A3, n3, c3, rfl, hown3, hb3⟩
            rw [← HP.out] at hown3
            have hbel3 : Below w.heap.size w w2 := (hbel.trans (hb1.mono hbel.size)).trans (hb3.mono (Nat.le_trans hbel.size hb1.size))
            have hown4 := hown3.mono (Nat.le_trans hbel.size hb1.size)
            clear hown3 hb3 hown1 hb1 hown hrow hrow1 hbel HL2
            by_cases hjk : j < k
            · obtain ⟨x, hx⟩ := get_some (zs := l) (k := j) (by have := Hn.out; omega)
              obtain ⟨g, off, rfl, hg, hc⟩ := (hr.below hbel3).at (cellsOf_get (k := .i64) hx)
              obtain ⟨t0, t1⟩ := HT.out (j + 1)
              rw [take_snocI l j x hx, sumI_snoc] at t0 t1
              have HU : Hid (sumI (l.take (j + 1)) = sumI (l.take j) + x) := by rw [take_snocI l j x hx, sumI_snoc]; exact rfl
              clear hx
              go_wp2
              go_roundw
              case rel => exact ⟨j + 1, A3, n3, c3, by omega, by go_num, by rw [HU.out], rfl, hown4, hbel3⟩
              case measure => simp [intOf]; omega
            · have HU : Hid (sumI (l.take (j + 1)) = sumI (l.take j)) := by
                rw [List.take_of_length_le (show l.length ≤ j + 1 by have := Hn.out; omega), List.take_of_length_le (show l.length ≤ j by have := Hn.out; omega)]
                exact rfl
              go_wp2
              go_roundw
              case rel => exact ⟨j + 1, A3, n3, c3, by omega, by go_num, by rw [HU.out], rfl, hown4, hbel3⟩
              case measure => simp [intOf]; omega
          · have HE2 : Hid ((scan 0 l).take j = scan 0 l) := List.take_of_length_le (by rw [HS.out, Hn.out]; omega)
            rw [HE2.out] at hown
            go_wp2
            go_ret2
            refine ⟨hbel, .inr ⟨Hok.out, A2, n2, c2, ?_, ?_⟩⟩
            · rw [HLo.out]
              rfl
            · unfold bytesOf
              rw [HLo.out]
              exact hown


end Go.Proofs.Ytmbncdhpfhlobaa
