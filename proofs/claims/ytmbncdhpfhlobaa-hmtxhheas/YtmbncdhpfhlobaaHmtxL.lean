/- What hmtx.Long and the document's Long answer, as contracts over this seat's translation. -/
import Derived.Test.YtmbncdhpfhlobaaHmtxMath
import Derived.BigQuiet
namespace Go.Proofs.Ytmbncdhpfhlobaa
open Go.RowKit
set_option linter.unusedVariables false

theorem down_eq (l : List Mt) (k : Nat) (h : adv l k = adv l (k + 1)) : down l (k + 2) = down l (k + 1) := by rw [down, if_pos h]
theorem down_ne (l : List Mt) (k : Nat) (h : ¬ adv l k = adv l (k + 1)) : down l (k + 2) = k + 2 := by rw [down, if_neg h]

set_option maxRecDepth 100000 in
set_option maxHeartbeats 1000000 in
theorem hlong_any (A : Option Addr) (n c : Nat) (l : List Mt) (w : World) (hr : RowS encM 2 w A n l) (hn : n ≤ 65535) :
    Calls Try.prog 17 #[.slice A n c] w (Quiet w (.int .u16 (longL l))) := by
  have Hn := Lib.hid hr.len
  go_enter Try.func17, Try.ntmps17
  go_wp2
  go_loopw [3] (fun i wr => ∃ k q : Nat, k ≤ n ∧ i = .int .i64 k ∧ down l k = longL l ∧ wr = w.drewN q) (fun i _ => (intOf i).toNat)
  case atStart => exact ⟨n, 0, Nat.le_refl _, rfl, by unfold longL; rw [Hn.out], rfl⟩
  case round =>
    obtain ⟨k, q, hk, rfl, hd, rfl⟩ := hrel
    have Hd := Lib.hid hd
    clear hd
    by_cases h1 : k ≤ 1
    · have HE : Hid (longL l = k) := by
        show longL l = k
        rw [← Hd.out]
        rcases Nat.lt_or_ge k 1 with h | h
        · obtain rfl : k = 0 := by omega
          rfl
        · obtain rfl : k = 1 := by omega
          rfl
      have hk1 : decide ((1 : Int) < (k : Int)) = false := decide_eq_false (by omega)
      go_wp2
      go_quiet (fail)
      go_wp2
      go_ret
      exact ⟨by rw [HE.out]; rfl, _, by first | rfl | (rw [World.drewN_drewN])⟩
    · obtain ⟨x, hx⟩ := getM (l := l) (j := k - 2) (by have := Hn.out; omega)
      obtain ⟨y, hy⟩ := getM (l := l) (j := k - 1) (by have := Hn.out; omega)
      obtain ⟨g, off, rfl, hg, hc0, _⟩ := atM hr hx
      obtain ⟨g', off', e', _, hc1, _⟩ := atM hr hy
      simp only [Option.some.injEq, Addr.mk.injEq, and_true] at e'
      obtain ⟨rfl, rfl⟩ := e'
      have hax : adv l (k - 2) = x.1 := by unfold adv; rw [mAt_of hx]
      have hay : adv l (k - 2 + 1) = y.1 := by unfold adv; rw [show k - 2 + 1 = k - 1 by omega, mAt_of hy]
      obtain ⟨x, x'⟩ := x
      obtain ⟨y, y'⟩ := y
      simp only at hax hay hc0 hc1
      have HX := Lib.hid hax
      have HY := Lib.hid hay
      clear hax hay hx hy
      have v1 : decide ((1 : Int) < (k : Int)) = true := decide_eq_true (by omega)
      have v2 : IntKind.i64.wrap ((k : Int) - 2) = (k : Int) - 2 := IntWalk.i64_in _ (by omega)
      have v3 : IntKind.i64.wrap ((k : Int) - 1) = (k : Int) - 1 := IntWalk.i64_in _ (by omega)
      have v4 : ((k : Int) - 2).toNat = k - 2 := by omega
      have v5 : ((k : Int) - 1).toNat = k - 1 := by omega
      have v6 : (0 : Int) ≤ (k : Int) - 2 := by omega
      have v7 : (0 : Int) ≤ (k : Int) - 1 := by omega
      have v8 : (2 : Int) ≤ (k : Int) := by omega
      have v9 : (1 : Int) ≤ (k : Int) := by omega
      have v10 : (k : Int) - 2 < (n : Int) := by omega
      have v11 : (k : Int) - 1 < (n : Int) := by omega
      by_cases he : x = y
      · have HD : Hid (down l (k - 1) = longL l) := by
          show down l (k - 1) = longL l
          rw [← Hd.out]
          have := down_eq l (k - 2) (by rw [HX.out, HY.out, he])
          rw [show k - 2 + 2 = k by omega, show k - 2 + 1 = k - 1 by omega] at this
          exact this.symm
        subst he
        go_wp2
        go_quiet (fail)
        go_wp2
        go_roundw
        case rel => exact ⟨k - 1, _, by omega, by go_num, HD.out, by first | rfl | (rw [World.drewN_drewN])⟩
        case measure => simp [intOf]; omega
      · have b1 : (x == y) = false := by simp [he]
        have HE : Hid (longL l = k) := by
          show longL l = k
          rw [← Hd.out]
          have := down_ne l (k - 2) (by rw [HX.out, HY.out]; exact he)
          rw [show k - 2 + 2 = k by omega] at this
          exact this
        clear he
        go_wp2
        go_quiet (fail)
        go_wp2
        go_ret
        exact ⟨by rw [HE.out]; rfl, _, by first | rfl | (rw [World.drewN_drewN])⟩

set_option maxRecDepth 100000 in
set_option maxHeartbeats 1000000 in
theorem rlong_any (A : Option Addr) (n c : Nat) (l : List Mt) (w : World) (hr : RowS encR 2 w A n l) (hn : n ≤ 65535) (hcap : n ≤ c) :
    Calls Try.prog 16 #[.slice A n c] w (Ret w (.int .i64 (longL l))) := by
  have Hn := Lib.hid hr.len
  go_enter Try.func16, Try.ntmps16
  go_wp2
  go_loopw [3] (fun i wr => ∃ k : Nat, 1 ≤ k ∧ (k ≤ longL l ∨ n = 0) ∧ k ≤ n + 1 ∧ i = .int .i64 k ∧ Below w.heap.size w wr) (fun i _ => n + 1 - (intOf i).toNat)
  case atStart =>
    refine ⟨1, Nat.le_refl _, ?_, by omega, rfl, Below.refl _ _⟩
    rcases Nat.eq_zero_or_pos n with h | h
    · exact .inr h
    · exact .inl (longL_pos l (by have := Hn.out; omega))
  case round =>
    obtain ⟨k, hk1, hkL, hkn, rfl, hbel⟩ := hrel
    have HkL := Lib.hid hkL
    clear hkL
    by_cases hlt : k ≤ n
    · have hne : ¬ c = k - 1 := by omega
      have v4 : ((k : Int) - 1).toNat = k - 1 := by omega
      obtain ⟨x, hx⟩ := getM (l := l) (j := k - 1) (by have := Hn.out; omega)
      obtain ⟨g, off, rfl, hg, _, _⟩ := atR (hr.below hbel) hx
      have HX : Hid (adv l (k - 1) = x.1) := by unfold adv; rw [mAt_of hx]; exact rfl
      have Hx := Lib.hid hx
      clear hx hg
      go_wp2
      go_loopw [4, 18] (fun v i wr => ∃ (j : Nat) (S : Bool), j ≤ n - (k - 1) ∧ i = .int .i64 j ∧ v = .bool S ∧ S = alike l (k - 1) j ∧ Below w.heap.size w wr) (fun _ i _ => n - (k - 1) - (intOf i).toNat)
      case atStart => exact ⟨0, true, Nat.zero_le _, rfl, rfl, rfl, hbel⟩
      case round =>
        clear hbel
        obtain ⟨j, S, hj, rfl, rfl, hS, hbel⟩ := hrel
        have HS := Lib.hid hS
        clear hS
        by_cases hjl : j < n - (k - 1)
        · obtain ⟨y, hy⟩ := getM (l := l) (j := k - 1 + j) (by have := Hn.out; omega)
          obtain ⟨g', off', e', hg', hd0, hd1⟩ := atR (hr.below hbel) hy
          simp only [Option.some.injEq, Addr.mk.injEq, and_true] at e'
          obtain ⟨rfl, rfl⟩ := e'
          obtain ⟨g', off', e', _, hc0, _⟩ := atR (hr.below hbel) Hx.out
          simp only [Option.some.injEq, Addr.mk.injEq, and_true] at e'
          obtain ⟨rfl, rfl⟩ := e'
          rw [Nat.add_mul, ← Nat.add_assoc] at hd0 hd1
          have HY : Hid (adv l (k - 1 + j) = y.1) := by unfold adv; rw [mAt_of hy]; exact rfl
          clear hy
          obtain ⟨y1, y2⟩ := y
          simp only at hd0 hd1 HY
          have HA : Hid (alike l (k - 1) (j + 1) = (S && decide (y1 = x.1))) := by rw [alike, HY.out, HX.out, HS.out]; exact rfl
          have hb1 : Below w.heap.size w (wr.alloc (.cells #[.int .i64 y1, .int .i64 y2] 48)) := hbel.alloc hbel.size _
          have v2 : IntKind.i64.wrap ((k : Int) - 1) = (k : Int) - 1 := IntWalk.i64_in _ (by omega)
          have v6 : (0 : Int) ≤ (k : Int) - 1 := by omega
          have v8 : (1 : Int) ≤ (k : Int) := by omega
          have v10 : (k : Int) - 1 < (n : Int) := by omega
          obtain ⟨x1, x2⟩ := x
          simp only at hc0 HX HA
          cases S with
          | false =>
            go_wp2
            go_quiet (fail)
            go_wp2
            go_roundw
            case rel => exact ⟨j + 1, false, by omega, by go_num, rfl, by rw [HA.out]; rfl, below_drewN hb1 _⟩
            case measure => simp [intOf]; omega
          | true =>
            by_cases he : y1 = x1
            · subst he
              go_wp2
              go_quiet (fail)
              go_wp2
              go_roundw
              case rel => exact ⟨j + 1, true, by omega, by go_num, rfl, by rw [HA.out]; simp, below_drewN hb1 _⟩
              case measure => simp [intOf]; omega
            · have he' : (y1 == x1) = false := by simp [he]
              go_wp2
              go_quiet (fail)
              go_wp2
              go_roundw
              case rel => exact ⟨j + 1, false, by omega, by go_num, rfl, by rw [HA.out, decide_eq_false he]; rfl, below_drewN hb1 _⟩
              case measure => simp [intOf]; omega
        · obtain rfl : j = n - (k - 1) := by omega
          have hlen := Hn.out
          rcases HkL.out with hkL | h0
          · rcases Nat.lt_or_ge k (longL l) with h | h
            · have hS : S = false := by rw [HS.out, ← hlen]; exact alike_short l k (by omega) h
              subst hS
              clear hlen
              have H := Lib.hid h
              clear h hkL
              go_wp2
              go_roundw
              case rel => exact ⟨k + 1, by omega, .inl (by have := H.out; omega), by omega, by go_num, hbel⟩
              case measure => simp [intOf]; omega
            · have hkk : k = longL l := by omega
              have hS : S = true := by rw [HS.out, ← hlen, hkk]; exact alike_long l (by omega)
              subst hS
              have HK := Lib.hid hkk
              clear hkk h hkL hlen
              go_wp2
              go_ret
              exact ⟨by rw [← HK.out]; rfl, hbel⟩
          · omega
    · have hz : n = 0 := by
        rcases HkL.out with h | h
        · have := longL_le l
          have := Hn.out
          omega
        · exact h
      have HZ : Hid (longL l = 0) := by
        show longL l = 0
        have := longL_le l
        have := Hn.out
        omega
      clear hz
      go_wp2
      go_ret
      exact ⟨by rw [HZ.out]; rfl, hbel⟩

end Go.Proofs.Ytmbncdhpfhlobaa
