/- What the document's Parse of layer 7 answers, as a contract over this seat's translation. -/
import Derived.Test.YtmbncdhpfhlobaaHmtxP
namespace Go.Proofs.Ytmbncdhpfhlobaa
open Go.RowKit
set_option linter.unusedVariables false

set_option maxRecDepth 100000 in
set_option maxHeartbeats 2000000 in
theorem rparse7_ok (A : Option Addr) (n c : Nat) (zs : List Int) (L g : Nat) (w : World) (hr : Row w A n (cellsOf .u8 zs)) (hB : Bytes zs) (h0 : 0 < L) (hL : L ≤ g) (hg : g < 65536) (hlen : n = 2 * L + 2 * g) :
    Calls Try.prog 23 #[.slice A n c, .int .i64 L, .int .i64 g] w (RetMs 48 encR w g (mets zs L g) (.bool true)) := by
  obtain ⟨i0, hi, hz0, hz1, hz2⟩ := info_parts Try.rminfo
  have Hn := Lib.hid hr.len
  have HB := Lib.hid hB
  clear hB
  subst hlen
  have hne : (2 * (L : Int) + 2 * (g : Int) != 2 * (L : Int) + 2 * (g : Int)) = false := by simp
  go_enter Try.func23, Try.ntmps23
  go_wp2
  clear hne
  go_loopw [8, 9] (fun v i wr => ∃ (k : Nat) (A2 : Option Addr) (c2 : Nat), k ≤ g ∧ i = .int .i64 k ∧ v = .slice A2 k c2 ∧ OwnS 48 encR 2 wr w.heap.size A2 k c2 (mets zs L k) ∧ Below w.heap.size w wr) (fun _ i _ => g - (intOf i).toNat)
  case atStart => exact ⟨0, none, 0, Nat.zero_le _, rfl, rfl, OwnS.nil _ _ _ _ _, Below.refl _ _⟩
  case round =>
    obtain ⟨k, A2, c2, hk, rfl, rfl, hown, hbel⟩ := hrel
    by_cases hlt : k < g
    · obtain ⟨m, hm, hm'⟩ : ∃ m : Nat, min (k : Int) ((L : Int) - 1) = (m : Int) ∧ m = min k (L - 1) := ⟨min k (L - 1), by omega, rfl⟩
      have hmL : m < L := by omega
      have Hm := Lib.hid hm'
      clear hm'
      have hrow := hr.below hbel
      have hsz := hbel.size
      obtain ⟨a0, a1⟩ := n2at_lt HB.out (4 * m)
      go_wp2_with fail
      rw [show (4 * (m : Int)) = ((4 * m : Nat) : Int) by omega]
      refine (n2_any _ _ _ zs _ _ hrow HB.out (by omega) (by omega)).mono ?_
      rintro e w1 ⟨rfl, q, rfl⟩
      rw [n2v_at]
      clear hm
      by_cases hkL : (L : Int) ≤ (k : Int)
      · have HP : Hid (mets zs L (k + 1) = mets zs L k ++ [(n2at zs (4 * m), sgn (n2at zs (4 * L + 2 * (k - L))))]) := by
          rw [mets_succ, metAt, if_neg (show ¬ k < L by omega), ← Hm.out]
          exact rfl
        obtain ⟨b0, b1⟩ := n2at_lt HB.out (4 * L + 2 * (k - L))
        go_wp2_with fail
        rw [show (4 * (L : Int) + 2 * ((k : Int) - (L : Int))) = ((4 * L + 2 * (k - L) : Nat) : Int) by omega]
        refine (n2_any _ _ _ zs _ _ (hrow.drewN q) HB.out (by omega) (by omega)).mono ?_
        rintro e w1 ⟨rfl, q', rfl⟩
        rw [n2v_at]
        go_wp2_with fail
        refine (sign_any _ _ b0 b1).mono ?_
        rintro e w' ⟨rfl, rfl⟩
        rw [show (if 32767 < n2at zs (4 * L + 2 * (k - L)) then n2at zs (4 * L + 2 * (k - L)) - 65536 else n2at zs (4 * L + 2 * (k - L))) = sgn (n2at zs (4 * L + 2 * (k - L))) from rfl]
        generalize sgn (n2at zs (4 * L + 2 * (k - L))) = lf at *
        have hro : RowS encR 2 ((wr.drewN (q + q')).alloc (.cells #[.int .i64 (n2at zs (4 * m)), .int .i64 lf] 48)) (some ⟨wr.heap.size, 0, none⟩) 1 [(n2at zs (4 * m), lf)] := rowS_vals encR_len (wr.drewN (q + q')) 48 [(n2at zs (4 * m), lf)] _ rfl 1 rfl
        have hown1 : OwnS 48 encR 2 ((wr.drewN (q + q')).alloc (.cells #[.int .i64 (n2at zs (4 * m)), .int .i64 lf] 48)) w.heap.size A2 k c2 (mets zs L k) := OwnS.alloc (hown.drewN (q + q')) _
        go_wp2_with (at_builtin; refine wpList_append_rowS rfl (.tmp 59) (.tmp 64) _ rfl 48 encR 2 encR_len (by omega) encR_one w.heap.size i0 _ 16 Try.underlying24 hi hz0 hz1 rfl hz2 A2 k c2 _ rfl hown1 (some ⟨wr.heap.size, 0, none⟩) 1 1 [(n2at zs (4 * m), lf)] rfl hro (by omega) (by omega) (by simp; omega) ?_)
        intro A3 c3 w3 hown3 hg3
        rw [← HP.out] at hown3
        have hbel3 : Below w.heap.size w w3 := ((below_drewN hbel (q + q')).alloc hsz _).grown hg3 (by simp; omega) (fun r e => (hown.from_ r e).1)
        clear hg3 hown hown1 hro hbel hrow
        go_wp2
        go_roundw
        case rel => exact ⟨k + 1, A3, c3, by omega, by go_num, rfl, hown3, hbel3⟩
        case measure => simp [intOf]; omega
      · have HP : Hid (mets zs L (k + 1) = mets zs L k ++ [(n2at zs (4 * m), sgn (n2at zs (4 * k + 2)))]) := by
          rw [mets_succ, metAt, if_pos (show k < L by omega), ← Hm.out]
          exact rfl
        obtain ⟨b0, b1⟩ := n2at_lt HB.out (4 * k + 2)
        go_wp2_with fail
        rw [show (4 * (k : Int) + 2) = ((4 * k + 2 : Nat) : Int) by omega]
        refine (n2_any _ _ _ zs _ _ (hrow.drewN q) HB.out (by omega) (by omega)).mono ?_
        rintro e w1 ⟨rfl, q', rfl⟩
        rw [n2v_at]
        go_wp2_with fail
        refine (sign_any _ _ b0 b1).mono ?_
        rintro e w' ⟨rfl, rfl⟩
        rw [show (if 32767 < n2at zs (4 * k + 2) then n2at zs (4 * k + 2) - 65536 else n2at zs (4 * k + 2)) = sgn (n2at zs (4 * k + 2)) from rfl]
        generalize sgn (n2at zs (4 * k + 2)) = lf at *
        have hro : RowS encR 2 ((wr.drewN (q + q')).alloc (.cells #[.int .i64 (n2at zs (4 * m)), .int .i64 lf] 48)) (some ⟨wr.heap.size, 0, none⟩) 1 [(n2at zs (4 * m), lf)] := rowS_vals encR_len (wr.drewN (q + q')) 48 [(n2at zs (4 * m), lf)] _ rfl 1 rfl
        have hown1 : OwnS 48 encR 2 ((wr.drewN (q + q')).alloc (.cells #[.int .i64 (n2at zs (4 * m)), .int .i64 lf] 48)) w.heap.size A2 k c2 (mets zs L k) := OwnS.alloc (hown.drewN (q + q')) _
        go_wp2_with (at_builtin; refine wpList_append_rowS rfl (.tmp 59) (.tmp 64) _ rfl 48 encR 2 encR_len (by omega) encR_one w.heap.size i0 _ 16 Try.underlying24 hi hz0 hz1 rfl hz2 A2 k c2 _ rfl hown1 (some ⟨wr.heap.size, 0, none⟩) 1 1 [(n2at zs (4 * m), lf)] rfl hro (by omega) (by omega) (by simp; omega) ?_)
        intro A3 c3 w3 hown3 hg3
        rw [← HP.out] at hown3
        have hbel3 : Below w.heap.size w w3 := ((below_drewN hbel (q + q')).alloc hsz _).grown hg3 (by simp; omega) (fun r e => (hown.from_ r e).1)
        clear hg3 hown hown1 hro hbel hrow
        go_wp2
        go_roundw
        case rel => exact ⟨k + 1, A3, c3, by omega, by go_num, rfl, hown3, hbel3⟩
        case measure => simp [intOf]; omega
    · obtain rfl : k = g := by omega
      go_wp2
      go_ret2
      exact ⟨A2, c2, rfl, hown, hbel⟩

theorem rparse7_no (A : Option Addr) (n c : Nat) (L g : Nat) (w : World) (hL : L < 65536) (hg : g < 65536) (hn : n ≤ 140737488351232) (hlen : n ≠ 2 * L + 2 * g) :
    Calls Try.prog 23 #[.slice A n c, .int .i64 L, .int .i64 g] w fun e w' => e = .returned (.tuple #[.slice none 0 0, .bool false]) ∧ w = w' := by
  have hne : ((n : Int) != 2 * (L : Int) + 2 * (g : Int)) = true := by rw [bne_iff_ne]; omega
  clear hlen
  go_enter Try.func23, Try.ntmps23
  go_wp2
  go_ret2
  exact ⟨rfl, rfl⟩

end Go.Proofs.Ytmbncdhpfhlobaa
