/- The law LocaRefuses. -/
import Derived.Test.YtmbncdhpfhlobaaLLoca
import Derived.Lib.MinMax
namespace Go.Proofs.Ytmbncdhpfhlobaa
open Go.RowKit
set_option linter.unusedVariables false

set_option maxRecDepth 100000 in
set_option maxHeartbeats 1000000 in
theorem law_LocaRefuses (A : Option Addr) (n c : Nat) (zs : List Int) (w : World) (hr : Row w A n (cellsOf .i64 zs)) (hn : n ≤ 9223372036854775807) (hcap : n ≤ c) :
    Calls Try.prog 11 #[.slice A n c] w (True_ w) := by
  obtain ⟨i0, hi, hz0, hz1, hz2⟩ := info_parts Try.i64info
  obtain ⟨m, hm, hm1, hm2⟩ : ∃ m : Nat, min (n : Int) 20 = (m : Int) ∧ m ≤ 20 ∧ m ≤ n := ⟨min n 20, by omega, by omega, by omega⟩
  have hmc : m ≤ c := by omega
  have hr' := hr.take hm2
  rw [cellsOf_take] at hr'
  generalize zs.take m = l at hr'
  have Hl := Lib.hid hr'.len
  clear hr
  go_enter Try.func11, Try.ntmps11
  go_wp2_with fail
  refine (awake8_any w).mono ?_
  rintro e w0 ⟨rfl, hb0⟩
  have ho0 : Own 3 .i64 (w0.alloc (.cells #[] 3)) w0.heap.size (some ⟨w0.heap.size, 0, none⟩) 0 0 [] := own_lit w0 w0.heap.size 3 .i64 [] 0 rfl (Nat.le_refl _) (by simp only [maxLen]; omega)
  have hba : Below w0.heap.size w0 (w0.alloc (.cells #[] 3)) := (Below.refl _ _).alloc (Nat.le_refl _) _
  have hr0 := (hr'.below hb0).below hba
  go_wp2_with (at_builtin; refine wpList_append_row rfl (.tmp 13) (.tmp 18) _ rfl 3 .i64 w0.heap.size i0 8 Try.underlying62 hi hz0 hz1 hz2 _ 0 0 [] rfl ho0 A m c l rfl hr0 (by omega) (by omega) (by simp) ?_)
  intro A1 c1 w1 hown1 hg1
  have hb1 : Below w0.heap.size w0 w1 := hba.grown hg1 (by simp) (fun q e => by simp [blockOf] at e; omega)
  clear hg1 ho0 hba hr0 hm hr'
  have hrow := hown1.row
  have hbw1 : Below w.heap.size w w1 := hb0.trans (hb1.mono hb0.size)
  clear hown1 hb1 hb0
  go_wp2_with fail
  refine (locaBuild_any _ _ _ l _ hrow (by omega)).mono ?_
  rintro e w2 ⟨hb2, h2⟩
  have hrow2 := hrow.below hb2
  have hbw2 : Below w.heap.size w w2 := hbw1.trans (hb2.mono hbw1.size)
  clear hrow hbw1
  rcases h2 with ⟨hok, rfl⟩ | ⟨hok, A2, n2, c2, rfl, hown2⟩
  · have Hok := Lib.hid hok
    clear hok hb2
    go_wp2
    go_loop [5, 6, 27] (fun s v i => ∃ k : Nat, k ≤ m ∧ i = .int .i64 k ∧ s = .int .i64 (sumI (l.take k)) ∧ v = .bool true ∧ okS 0 (l.take k) = true) (fun _ _ i => m - (intOf i).toNat)
    case atStart => exact ⟨0, Nat.zero_le _, rfl, rfl, rfl, rfl⟩
    case round =>
      obtain ⟨k, hk, rfl, rfl, rfl, hkk⟩ := hrel
      obtain ⟨s0, s1, _⟩ := okS_sum _ _ hkk (by omega) (by omega)
      rw [Int.zero_add] at s1
      have Hkk := Lib.hid hkk
      clear hkk
      by_cases hlt : k < m
      · obtain ⟨x, hx⟩ := get_some (zs := l) (k := k) (by have := Hl.out; omega)
        obtain ⟨g, off, rfl, hg, hc⟩ := hrow2.at (cellsOf_get (k := .i64) hx)
        have HU : Hid (sumI (l.take (k + 1)) = sumI (l.take k) + x) := by rw [take_snocI l k x hx, sumI_snoc]; exact rfl
        have HO : Hid (okS 0 (l.take (k + 1)) = decide (0 ≤ x ∧ x ≤ 67108864 - sumI (l.take k))) := by
          rw [take_snocI l k x hx, okS_snoc, Hkk.out, Int.zero_add]
          exact Bool.true_and _
        clear hx
        by_cases h1 : x < 0
        · go_wp2
          go_ret
          exact ⟨rfl, hbw2⟩
        · by_cases h2 : 67108864 < x
          · go_wp2
            go_ret
            exact ⟨rfl, hbw2⟩
          · by_cases h3 : 67108864 < sumI (l.take k) + x
            · go_wp2
              go_ret
              exact ⟨rfl, hbw2⟩
            · go_wp2
              go_round
              case rel => exact ⟨k + 1, by omega, by go_num, by rw [HU.out], rfl, by rw [HO.out]; exact decide_eq_true (by omega)⟩
              case measure => simp [intOf]; omega
      · have := Hkk.out
        rw [List.take_of_length_le (by have := Hl.out; omega), Hok.out] at this
        cases this
  · have Hok := Lib.hid hok
    have r2 := hown2.row
    have ln2 : n2 ≤ 100 := by
      have h := hown2.len
      rw [bytesOf_len, Hl.out] at h
      have := (each_le (longOf l)).1
      have : (m + 1) * eachB (longOf l) ≤ 21 * 4 := Nat.mul_le_mul (by omega) this
      omega
    clear hok hown2 hb2
    go_wp2
    go_loop [5, 6, 27] (fun s v i => ∃ k : Nat, k ≤ m ∧ i = .int .i64 k ∧ s = .int .i64 (sumI (l.take k)) ∧ v = .bool true) (fun _ _ i => m - (intOf i).toNat)
    case atStart => exact ⟨0, Nat.zero_le _, rfl, rfl, rfl⟩
    case round =>
      obtain ⟨k, hk, rfl, rfl, rfl⟩ := hrel
      by_cases hlt : k < m
      · obtain ⟨x, hx⟩ := get_some (zs := l) (k := k) (by have := Hl.out; omega)
        obtain ⟨g, off, rfl, hg, hc⟩ := hrow2.at (cellsOf_get (k := .i64) hx)
        obtain ⟨s0, s1⟩ := sumI_take l k Hok.out
        have HU : Hid (sumI (l.take (k + 1)) = sumI (l.take k) + x) := by rw [take_snocI l k x hx, sumI_snoc]; exact rfl
        have hO := okS_take_true l 0 (k + 1) Hok.out
        rw [take_snocI l k x hx, okS_snoc, Int.zero_add, Bool.and_eq_true, decide_eq_true_eq] at hO
        obtain ⟨_, x0, x1⟩ := hO
        clear hx
        go_wp2
        go_round
        case rel => exact ⟨k + 1, by omega, by go_num, by rw [HU.out], rfl⟩
        case measure => simp [intOf]; omega
      · go_wp2_with fail
        refine (rBuild_ok _ _ _ l _ hrow2 (by omega) Hok.out).mono ?_
        rintro e w3 ⟨A3, n3, c3, rfl, hown3, hb3⟩
        have r3 := hown3.row
        have r2' := r2.below hb3
        have ln3 : n3 ≤ 100 := by have h1 := r3.len; have h2 := r2.len; omega
        have hbw3 : Below w.heap.size w w3 := hbw2.trans (hb3.mono hbw2.size)
        clear hown3 hb3 hbw2 r2 hrow2
        go_wp2_with fail
        refine (same_any _ _ _ _ _ _ _ _ _ r2' r3 (by omega) (by omega)).mono ?_
        rintro e w4 ⟨rfl, q, rfl⟩
        rw [sameB_refl]
        generalize longOf l = lo at *
        go_wp2
        go_ret
        exact ⟨by simp, below_drewN hbw3 q⟩

end Go.Proofs.Ytmbncdhpfhlobaa
