/- What the document's Places and Build of layer 8 answer, as contracts over this seat's translation. -/
import Derived.Test.YtmbncdhpfhlobaaLocaB
import Derived.Test.YtmbncdhpfhlobaaJoinN
import Derived.Test.YtmbncdhpfhlobaaCells
namespace Go.Proofs.Ytmbncdhpfhlobaa
open Go.RowKit
set_option linter.unusedVariables false

theorem prv_pos (long : Bool) (zs : List Int) (k : Nat) (h : 0 < k) : prv long zs k = plc long zs (k - 1) := by
  cases k with
  | zero => omega
  | succ k => rfl

theorem Below.setN {B : Nat} {a w : World} (h : Below B a w) (n : Nat) : Below B a (w.drewN n) := below_drewN h n

set_option maxRecDepth 100000 in
set_option maxHeartbeats 2000000 in
theorem places_false (A : Option Addr) (n c : Nat) (zs : List Int) (g : Nat) (size : Int) (w : World) (hr : Row w A n (cellsOf .u8 zs)) (hB : Bytes zs) (hn : n ≤ 140737488351232) (hg : g < 65536) :
    Calls Try.prog 31 #[.slice A n c, .bool false, .int .i64 g, .int .i64 size] w (RetPl w (placesB false zs g size) (pls false zs (g + 1)) (.bool false) (.bool true)) := by
  obtain ⟨i0, hi, hz0, hz1, hz2⟩ := info_parts Try.i64info
  have Hn := Lib.hid hr.len
  have HB := Lib.hid hB
  clear hB
  by_cases hlen : n = (g + 1) * 2
  · subst hlen
    have hne : (((g : Int) + 1) * 2 != 2 * ((g : Int) + 1)) = false := by simp; omega
    go_enter Try.func31, Try.ntmps31
    go_wp2
    clear hne
    go_loopw [11, 12] (fun v i wr => ∃ (k : Nat) (A2 : Option Addr) (c2 : Nat), k ≤ g + 1 ∧ i = .int .i64 k ∧ v = .slice A2 k c2 ∧ okPls false zs size k = true ∧ Own 3 .i64 wr w.heap.size A2 k c2 (pls false zs k) ∧ Below w.heap.size w wr) (fun _ i _ => g + 1 - (intOf i).toNat)
    case atStart => exact ⟨0, none, 0, Nat.zero_le _, rfl, rfl, rfl, Own.nil _ _ _ _, Below.refl _ _⟩
    case round =>
      obtain ⟨k, A2, c2, hk, rfl, rfl, hok, hown, hbel⟩ := hrel
      have Hok := Lib.hid hok
      clear hok
      by_cases hlt : k < g + 1
      · obtain ⟨a0, a1⟩ := n2at_lt HB.out (2 * k)
        obtain ⟨d0, d1⟩ := n4at_lt HB.out (4 * k)
        obtain ⟨p0, p1⟩ := prv_bd (long := false) HB.out k
        have hrow := hr.below hbel
        have hlk : k ≤ g := by omega
        go_wp2_with fail
        rw [show (2 * (k : Int)) = ((2 * k : Nat) : Int) by omega]
        refine (n2_any _ _ _ zs _ _ hrow HB.out hn (by omega)).mono ?_
        rintro e w1 ⟨rfl, q, rfl⟩
        rw [n2v_at]
        have hsz : w.heap.size ≤ wr.heap.size := hbel.size
        have HP : Hid (pls false zs (k + 1) = pls false zs k ++ [2 * n2at zs (2 * k)]) := by rw [pls_succ]; exact rfl
        by_cases h2 : size < 2 * n2at zs (2 * k)
        · go_wp2
          go_ret2
          refine ⟨below_drewN hbel _, .inl ⟨?_, rfl⟩⟩
          unfold placesB
          rw [okPls_mono (k + 1) (g + 1) (by rw [okPls, decide_eq_false (by rintro ⟨_, h⟩; change 2 * n2at zs (2 * k) ≤ size at h; omega)]; simp) (by omega)]
          simp
        · by_cases h0 : k = 0
          · have hz0' : ¬ (0 : Int) < (k : Int) := by omega
            have H0 := Lib.hid h0
            clear h0
            have hok' : okPls false zs size (k + 1) = true := by
              rw [okPls, Hok.out, decide_eq_true (show prv false zs k ≤ plc false zs k ∧ plc false zs k ≤ size from ⟨by rw [H0.out]; exact (plc_bd HB.out 0).1, by change 2 * n2at zs (2 * k) ≤ size; omega⟩)]
              rfl
            have Hok' := Lib.hid hok'
            clear hok'
            go_wp2_with (at_builtin; refine wpList_append_row rfl (.tmp 66) (.tmp 68) _ rfl 3 .i64 w.heap.size i0 8 Try.underlying62 hi hz0 hz1 hz2 A2 k c2 _ rfl ((hown.drewN q).alloc _) (some ⟨wr.heap.size, 0, none⟩) 1 1 [2 * n2at zs (2 * k)] rfl (row_one _ _ _ _) (by omega) (by omega) (by simp; omega) ?_)
            intro A3 c3 w1 hown1 hg1
            rw [← HP.out] at hown1
            have hbel1 : Below w.heap.size w w1 := ((below_drewN hbel q).alloc hsz _).grown hg1 (by simp; omega) (fun q e => (hown.from_ q e).1)
            clear hg1 hown hbel hrow
            go_wp2
            go_roundw
            case rel => exact ⟨k + 1, A3, c3, by omega, by go_num, rfl, Hok'.out, hown1, hbel1⟩
            case measure => simp [intOf]; omega
          · have hpos : (0 : Int) < (k : Int) := by omega
            have hpv := prv_pos false zs k (by omega)
            have HPV := Lib.hid hpv
            obtain ⟨g', off, rfl, hg', hc⟩ := hown.row.at (cellsOf_get (k := .i64) (pls_get (long := false) (zs := zs) k (k - 1) (by omega)))
            rw [← hpv] at hc
            clear hpv
            have t1 : ((k : Int) - 1).toNat = k - 1 := by omega
            by_cases h3 : 2 * n2at zs (2 * k) < prv false zs k
            · go_wp2
              go_ret2
              refine ⟨below_drewN hbel _, .inl ⟨?_, rfl⟩⟩
              unfold placesB
              rw [okPls_mono (k + 1) (g + 1) (by rw [okPls, decide_eq_false (by rintro ⟨h, _⟩; change prv false zs k ≤ 2 * n2at zs (2 * k) at h; omega)]; simp) (by omega)]
              simp
            · have hok' : okPls false zs size (k + 1) = true := by
                rw [okPls, Hok.out, decide_eq_true (show prv false zs k ≤ plc false zs k ∧ plc false zs k ≤ size from ⟨by change prv false zs k ≤ 2 * n2at zs (2 * k); omega, by change 2 * n2at zs (2 * k) ≤ size; omega⟩)]
                rfl
              have Hok' := Lib.hid hok'
              clear hok'
              go_wp2_with (at_builtin; refine wpList_append_row rfl (.tmp 66) (.tmp 68) _ rfl 3 .i64 w.heap.size i0 8 Try.underlying62 hi hz0 hz1 hz2 _ k c2 _ rfl ((hown.drewN q).alloc _) (some ⟨wr.heap.size, 0, none⟩) 1 1 [2 * n2at zs (2 * k)] rfl (row_one _ _ _ _) (by omega) (by omega) (by simp; omega) ?_)
              intro A3 c3 w1 hown1 hg1
              rw [← HP.out] at hown1
              have hbel1 : Below w.heap.size w w1 := ((below_drewN hbel q).alloc hsz _).grown hg1 (by simp; omega) (fun q e => (hown.from_ q e).1)
              clear hg1 hown hbel hrow hc t1 hpos
              go_wp2
              go_roundw
              case rel => exact ⟨k + 1, A3, c3, by omega, by go_num, rfl, Hok'.out, hown1, hbel1⟩
              case measure => simp [intOf]; omega
      · obtain rfl : k = g + 1 := by omega
        go_wp2
        go_ret2
        refine ⟨hbel, .inr ⟨?_, _, _, _, rfl, hown⟩⟩
        unfold placesB
        rw [Hok.out, decide_eq_true (by rw [Hn.out]; rfl)]
        rfl
  · have hne : (((n : Nat) : Int) != 2 * ((g : Int) + 1)) = true := by
      rw [bne_iff_ne]
      omega
    go_enter Try.func31, Try.ntmps31
    go_wp2
    go_ret2
    refine ⟨Below.refl _ _, .inl ⟨?_, rfl⟩⟩
    unfold placesB
    rw [decide_eq_false (by rw [Hn.out]; exact hlen)]
    rfl

set_option maxRecDepth 100000 in
set_option maxHeartbeats 2000000 in
theorem places_true (A : Option Addr) (n c : Nat) (zs : List Int) (g : Nat) (size : Int) (w : World) (hr : Row w A n (cellsOf .u8 zs)) (hB : Bytes zs) (hn : n ≤ 140737488351232) (hg : g < 65536) :
    Calls Try.prog 31 #[.slice A n c, .bool true, .int .i64 g, .int .i64 size] w (RetPl w (placesB true zs g size) (pls true zs (g + 1)) (.bool false) (.bool true)) := by
  obtain ⟨i0, hi, hz0, hz1, hz2⟩ := info_parts Try.i64info
  have Hn := Lib.hid hr.len
  have HB := Lib.hid hB
  clear hB
  by_cases hlen : n = (g + 1) * 4
  · subst hlen
    have hne : (((g : Int) + 1) * 4 != 4 * ((g : Int) + 1)) = false := by simp; omega
    go_enter Try.func31, Try.ntmps31
    go_wp2
    clear hne
    go_loopw [11, 12] (fun v i wr => ∃ (k : Nat) (A2 : Option Addr) (c2 : Nat), k ≤ g + 1 ∧ i = .int .i64 k ∧ v = .slice A2 k c2 ∧ okPls true zs size k = true ∧ Own 3 .i64 wr w.heap.size A2 k c2 (pls true zs k) ∧ Below w.heap.size w wr) (fun _ i _ => g + 1 - (intOf i).toNat)
    case atStart => exact ⟨0, none, 0, Nat.zero_le _, rfl, rfl, rfl, Own.nil _ _ _ _, Below.refl _ _⟩
    case round =>
      obtain ⟨k, A2, c2, hk, rfl, rfl, hok, hown, hbel⟩ := hrel
      have Hok := Lib.hid hok
      clear hok
      by_cases hlt : k < g + 1
      · obtain ⟨a0, a1⟩ := n2at_lt HB.out (2 * k)
        obtain ⟨d0, d1⟩ := n4at_lt HB.out (4 * k)
        obtain ⟨p0, p1⟩ := prv_bd (long := true) HB.out k
        have hrow := hr.below hbel
        have hlk : k ≤ g := by omega
        go_wp2_with fail
        rw [show (2 * (k : Int)) = ((2 * k : Nat) : Int) by omega]
        refine (n2_any _ _ _ zs _ _ hrow HB.out hn (by omega)).mono ?_
        rintro e w1 ⟨rfl, q, rfl⟩
        rw [n2v_at]
        go_wp2_with fail
        rw [show (4 * (k : Int)) = ((4 * k : Nat) : Int) by omega]
        refine (n4_any _ _ _ zs _ _ (hrow.drewN q) HB.out hn (by omega)).mono ?_
        rintro e w1 ⟨rfl, q', rfl⟩
        rw [n4v_at]
        have hsz : w.heap.size ≤ wr.heap.size := hbel.size
        have HP : Hid (pls true zs (k + 1) = pls true zs k ++ [n4at zs (4 * k)]) := by rw [pls_succ]; exact rfl
        by_cases h2 : size < n4at zs (4 * k)
        · go_wp2
          go_ret2
          refine ⟨below_drewN hbel _, .inl ⟨?_, rfl⟩⟩
          unfold placesB
          rw [okPls_mono (k + 1) (g + 1) (by rw [okPls, decide_eq_false (by rintro ⟨_, h⟩; change n4at zs (4 * k) ≤ size at h; omega)]; simp) (by omega)]
          simp
        · by_cases h0 : k = 0
          · have hz0' : ¬ (0 : Int) < (k : Int) := by omega
            have H0 := Lib.hid h0
            clear h0
            have hok' : okPls true zs size (k + 1) = true := by
              rw [okPls, Hok.out, decide_eq_true (show prv true zs k ≤ plc true zs k ∧ plc true zs k ≤ size from ⟨by rw [H0.out]; exact (plc_bd HB.out 0).1, by change n4at zs (4 * k) ≤ size; omega⟩)]
              rfl
            have Hok' := Lib.hid hok'
            clear hok'
            go_wp2_with (at_builtin; refine wpList_append_row rfl (.tmp 66) (.tmp 68) _ rfl 3 .i64 w.heap.size i0 8 Try.underlying62 hi hz0 hz1 hz2 A2 k c2 _ rfl ((hown.drewN (q + q')).alloc _) (some ⟨wr.heap.size, 0, none⟩) 1 1 [n4at zs (4 * k)] rfl (row_one _ _ _ _) (by omega) (by omega) (by simp; omega) ?_)
            intro A3 c3 w1 hown1 hg1
            rw [← HP.out] at hown1
            have hbel1 : Below w.heap.size w w1 := ((below_drewN hbel (q + q')).alloc hsz _).grown hg1 (by simp; omega) (fun q e => (hown.from_ q e).1)
            clear hg1 hown hbel hrow
            go_wp2
            go_roundw
            case rel => exact ⟨k + 1, A3, c3, by omega, by go_num, rfl, Hok'.out, hown1, hbel1⟩
            case measure => simp [intOf]; omega
          · have hpos : (0 : Int) < (k : Int) := by omega
            have hpv := prv_pos true zs k (by omega)
            have HPV := Lib.hid hpv
            obtain ⟨g', off, rfl, hg', hc⟩ := hown.row.at (cellsOf_get (k := .i64) (pls_get (long := true) (zs := zs) k (k - 1) (by omega)))
            rw [← hpv] at hc
            clear hpv
            have t1 : ((k : Int) - 1).toNat = k - 1 := by omega
            by_cases h3 : n4at zs (4 * k) < prv true zs k
            · go_wp2
              go_ret2
              refine ⟨below_drewN hbel _, .inl ⟨?_, rfl⟩⟩
              unfold placesB
              rw [okPls_mono (k + 1) (g + 1) (by rw [okPls, decide_eq_false (by rintro ⟨h, _⟩; change prv true zs k ≤ n4at zs (4 * k) at h; omega)]; simp) (by omega)]
              simp
            · have hok' : okPls true zs size (k + 1) = true := by
                rw [okPls, Hok.out, decide_eq_true (show prv true zs k ≤ plc true zs k ∧ plc true zs k ≤ size from ⟨by change prv true zs k ≤ n4at zs (4 * k); omega, by change n4at zs (4 * k) ≤ size; omega⟩)]
                rfl
              have Hok' := Lib.hid hok'
              clear hok'
              go_wp2_with (at_builtin; refine wpList_append_row rfl (.tmp 66) (.tmp 68) _ rfl 3 .i64 w.heap.size i0 8 Try.underlying62 hi hz0 hz1 hz2 _ k c2 _ rfl ((hown.drewN (q + q')).alloc _) (some ⟨wr.heap.size, 0, none⟩) 1 1 [n4at zs (4 * k)] rfl (row_one _ _ _ _) (by omega) (by omega) (by simp; omega) ?_)
              intro A3 c3 w1 hown1 hg1
              rw [← HP.out] at hown1
              have hbel1 : Below w.heap.size w w1 := ((below_drewN hbel (q + q')).alloc hsz _).grown hg1 (by simp; omega) (fun q e => (hown.from_ q e).1)
              clear hg1 hown hbel hrow hc t1 hpos
              go_wp2
              go_roundw
              case rel => exact ⟨k + 1, A3, c3, by omega, by go_num, rfl, Hok'.out, hown1, hbel1⟩
              case measure => simp [intOf]; omega
      · obtain rfl : k = g + 1 := by omega
        go_wp2
        go_ret2
        refine ⟨hbel, .inr ⟨?_, _, _, _, rfl, hown⟩⟩
        unfold placesB
        rw [Hok.out, decide_eq_true (by rw [Hn.out]; rfl)]
        rfl
  · have hne : (((n : Nat) : Int) != 4 * ((g : Int) + 1)) = true := by
      rw [bne_iff_ne]
      omega
    go_enter Try.func31, Try.ntmps31
    go_wp2
    go_ret2
    refine ⟨Below.refl _ _, .inl ⟨?_, rfl⟩⟩
    unfold placesB
    rw [decide_eq_false (by rw [Hn.out]; exact hlen)]
    rfl

theorem places_any (A : Option Addr) (n c : Nat) (zs : List Int) (long : Bool) (g : Nat) (size : Int) (w : World) (hr : Row w A n (cellsOf .u8 zs)) (hB : Bytes zs) (hn : n ≤ 140737488351232) (hg : g < 65536) :
    Calls Try.prog 31 #[.slice A n c, .bool long, .int .i64 g, .int .i64 size] w (RetPl w (placesB long zs g size) (pls long zs (g + 1)) (.bool false) (.bool true)) := by
  cases long
  · exact places_false A n c zs g size w hr hB hn hg
  · exact places_true A n c zs g size w hr hB hn hg

end Go.Proofs.Ytmbncdhpfhlobaa
