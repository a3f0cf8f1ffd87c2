/- The law HmtxLongs. -/
import Derived.Test.YtmbncdhpfhlobaaLHmtx
namespace Go.Proofs.Ytmbncdhpfhlobaa
open Go.RowKit
set_option linter.unusedVariables false

set_option maxRecDepth 100000 in
set_option maxHeartbeats 2000000 in
theorem law_HmtxLongs (A : Option Addr) (n0 c : Nat) (l0 : List Mt) (w : World) (hr : RowS encM 2 w A n0 l0) (hok : OkM l0) (hn : n0 ≤ 9223372036854775807) (hcap : n0 ≤ c) :
    Calls Try.prog 7 #[.slice A n0 c] w (True_ w) := by
  go_enter Try.func7, Try.ntmps7
  go_wp2_with fail
  refine (awake7_any w).mono ?_
  rintro e w0 ⟨rfl, hb0⟩
  go_wp2_with fail
  refine (few7_any _ _ _ l0 _ (hr.below hb0) hok hn hcap).mono ?_
  rintro e w1 ⟨A1, n, c1, A2, c2, rfl, om, or_, hb1⟩
  have hrow := om.row encM_len
  have hbw : Below w.heap.size w w1 := hb0.trans (hb1.mono hb0.size)
  have hc1 := om.cap
  have hn60 : n ≤ 60 := by have := om.len; rw [List.length_take] at this; omega
  have Hn := Lib.hid om.len
  clear om or_ hb1 hb0 hr hok hn hcap
  generalize l0.take 60 = l at *
  have hL := longL_le l
  rw [Hn.out] at hL
  have HP := Lib.hid (longL_pos l)
  have HG := Lib.hid (longL_good l)
  have HE := Lib.hid (longL_least l)
  rw [Hn.out] at HP HG
  have hlo := Lib.hid (hlong_any A1 n c1 l w1 hrow (by omega))
  go_wp2_with fail
  refine hlo.out.mono ?_
  rintro e w2 ⟨rfl, q, rfl⟩
  have hrow2 := hrow.drewN q
  have hbw2 := below_drewN hbw q
  generalize w1.drewN q = w2 at *
  clear hrow hbw hlo
  generalize longL l = L at *
  by_cases hz : n = 0
  · subst hz
    obtain rfl : L = 0 := by omega
    go_wp2
    go_ret
    exact ⟨rfl, hbw2⟩
  · have hz' : ((n : Int) == 0) = false := by simp [hz]
    have hLp : 0 < L := HP.out (by omega)
    have hne : ¬ c1 = L - 1 := by omega
    have v4 : ((L : Int) - 1).toNat = L - 1 := by omega
    obtain ⟨x, hx⟩ := getM (l := l) (j := L - 1) (by have := Hn.out; omega)
    obtain ⟨g, off, rfl, hg, _, _⟩ := atM hrow2 hx
    have HX : Hid (adv l (L - 1) = x.1) := by unfold adv; rw [mAt_of hx]; exact rfl
    have Hx := Lib.hid hx
    obtain ⟨x1, x2⟩ := x
    simp only at HX
    clear hx hg
    go_wp2
    go_loopw [26] (fun i wr => ∃ j : Nat, j ≤ n - (L - 1) ∧ i = .int .i64 j ∧ Below w2.heap.size w2 wr) (fun i _ => n - (L - 1) - (intOf i).toNat)
    case atStart => exact ⟨0, Nat.zero_le _, rfl, Below.refl _ _⟩
    case round =>
      obtain ⟨j, hj, rfl, hbel⟩ := hrel
      obtain ⟨g', off', e', hg', hc0, _⟩ := atM (hrow2.below hbel) Hx.out
      simp only [Option.some.injEq, Addr.mk.injEq, and_true] at e'
      obtain ⟨rfl, rfl⟩ := e'
      have v2 : IntKind.i64.wrap ((L : Int) - 1) = (L : Int) - 1 := IntWalk.i64_in _ (by omega)
      have v6 : (0 : Int) ≤ (L : Int) - 1 := by omega
      have v8 : (1 : Int) ≤ (L : Int) := by omega
      have v10 : (L : Int) - 1 < (n : Int) := by omega
      by_cases hjl : j < n - (L - 1)
      · obtain ⟨y, hy⟩ := getM (l := l) (j := L - 1 + j) (by have := Hn.out; omega)
        obtain ⟨g', off', e', _, hd0, hd1⟩ := atM (hrow2.below hbel) hy
        simp only [Option.some.injEq, Addr.mk.injEq, and_true] at e'
        obtain ⟨rfl, rfl⟩ := e'
        rw [Nat.add_mul, ← Nat.add_assoc] at hd0 hd1
        have hyx : y.1 = x1 := by
          have := HG.out (L - 1 + j) (by omega) (by omega)
          rw [HX.out] at this
          rw [← this]
          unfold adv
          rw [mAt_of hy]
        clear hy
        obtain ⟨y1, y2⟩ := y
        simp only at hd0 hd1 hyx
        subst hyx
        have hb1 := Lib.hid (hbel.alloc hbel.size (.cells #[.int .u16 y1, .int .i16 y2] 41))
        go_wp2
        go_quiet (fail)
        go_wp2
        go_roundw
        case rel => exact ⟨j + 1, by omega, by go_num, below_drewN hb1.out _⟩
        case measure => simp [intOf]; omega
      · have hbw3 : Below w.heap.size w wr := hbw2.trans (hbel.mono hbw2.size)
        by_cases h1 : L = 1
        · subst h1
          go_wp2
          go_quiet (fail)
          go_wp2
          go_ret
          exact ⟨rfl, below_drewN hbw3 _⟩
        · have h1' : ((L : Int) == 1) = false := by simp; omega
          obtain ⟨y, hy⟩ := getM (l := l) (j := L - 2) (by have := Hn.out; omega)
          obtain ⟨g', off', e', _, hd0, _⟩ := atM (hrow2.below hbel) hy
          simp only [Option.some.injEq, Addr.mk.injEq, and_true] at e'
          obtain ⟨rfl, rfl⟩ := e'
          have hyx : y.1 ≠ x1 := by
            have := HE.out (by omega)
            rw [HX.out] at this
            rw [show adv l (L - 2) = y.1 by unfold adv; rw [mAt_of hy]] at this
            exact this
          obtain ⟨y1, y2⟩ := y
          simp only at hd0 hyx
          have hb : (y1 != x1) = true := by simp [hyx]
          have u2 : IntKind.i64.wrap ((L : Int) - 2) = (L : Int) - 2 := IntWalk.i64_in _ (by omega)
          have u4 : ((L : Int) - 2).toNat = L - 2 := by omega
          have u6 : (0 : Int) ≤ (L : Int) - 2 := by omega
          have u8 : (2 : Int) ≤ (L : Int) := by omega
          have u10 : (L : Int) - 2 < (n : Int) := by omega
          clear hyx hy h1
          go_wp2
          go_quiet (fail)
          go_wp2
          go_ret
          exact ⟨rfl, below_drewN hbw3 _⟩

end Go.Proofs.Ytmbncdhpfhlobaa
