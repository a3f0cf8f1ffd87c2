/- slices.Equal of numbers and of places; simple.Same. -/
import Derived.Test.YtlcnonhebppeiaaSimB
namespace Go.Proofs.Ytlcnonhebppeiaa
open Go.RowKit
set_option linter.unusedVariables false

set_option maxHeartbeats 1000000 in
theorem equalU16_any (A B : Option Addr) (n c m d : Nat) (xs ys : List Int) (w : World) (hx : Row w A n (cellsOf .u16 xs)) (hy : Row w B m (cellsOf .u16 ys)) (hl : n ≤ 140737488355328) (hl' : m ≤ 140737488355328) :
    Calls Try.prog 68 #[.slice A n c, .slice B m d] w (Quiet w (.bool (sameB xs ys))) := by
  have Hx := Lib.hid hx.len
  have Hy := Lib.hid hy.len
  by_cases hnm : n = m
  · subst hnm
    have hne : ((n : Int) != (n : Int)) = false := by simp
    go_enter Try.func68, Try.ntmps68
    go_wp2
    clear hne
    go_loopw [13] (fun i wr => ∃ k q : Nat, k ≤ n ∧ i = .int .i64 k ∧ xs.take k = ys.take k ∧ wr = w.drewN q) (fun i _ => n - (intOf i).toNat)
    case atStart => exact ⟨0, 0, Nat.zero_le _, rfl, by simp, rfl⟩
    case round =>
      obtain ⟨k, q, hk, rfl, hp, rfl⟩ := hrel
      have Hp := Lib.hid hp
      clear hp
      by_cases hlt : k < n
      · obtain ⟨x, ex⟩ := get_some (zs := xs) (k := k) (by have := Hx.out; omega)
        obtain ⟨y, ey⟩ := get_some (zs := ys) (k := k) (by have := Hy.out; omega)
        obtain ⟨g, off, rfl, hg, hc⟩ := hx.at (cellsOf_get (k := .u16) ex)
        obtain ⟨g', off', rfl, hg', hc'⟩ := hy.at (cellsOf_get (k := .u16) ey)
        have Ex := Lib.hid ex
        have Ey := Lib.hid ey
        clear ex ey
        by_cases he : x = y
        · have hb : (x != y) = false := by simp [he]
          have He := Lib.hid he
          clear he
          go_wp2
          go_quiet (fail)
          go_wp2
          go_roundw
          case rel => exact ⟨k + 1, _, by omega, by go_num, by rw [List.take_add_one, List.take_add_one, Ex.out, Ey.out, Hp.out, He.out], by first | rfl | (rw [World.drewN_drewN])⟩
          case measure => simp [intOf]; omega
        · have hb : (x != y) = true := by simp [he]
          have He := Lib.hid he
          clear he
          go_wp2
          go_quiet (fail)
          go_wp2
          go_ret
          refine ⟨?_, _, by first | rfl | (rw [World.drewN_drewN])⟩
          have hf : sameB xs ys = false := by
            unfold sameB
            rw [decide_eq_false_iff_not]
            rintro rfl
            have e1 := Ex.out
            rw [Ey.out] at e1
            exact He.out (Option.some.inj e1).symm
          rw [hf]
          rfl
      · go_wp2
        go_ret
        refine ⟨?_, q, rfl⟩
        have hp := Hp.out
        rw [List.take_of_length_le (by have := Hx.out; omega), List.take_of_length_le (by have := Hy.out; omega)] at hp
        have hf : sameB xs ys = true := by unfold sameB; simp [hp]
        rw [hf]
        rfl
  · have hne : ((n : Int) != (m : Int)) = true := by simp; omega
    go_enter Try.func68, Try.ntmps68
    go_wp2
    go_ret
    refine ⟨?_, 0, rfl⟩
    have hf : sameB xs ys = false := by
      unfold sameB
      rw [decide_eq_false_iff_not]
      rintro rfl
      have := Hx.out
      have := Hy.out
      omega
    rw [hf]
    rfl

set_option maxHeartbeats 1000000 in
theorem equalU8_any (A B : Option Addr) (n c m d : Nat) (xs ys : List Int) (w : World) (hx : Row w A n (cellsOf .u8 xs)) (hy : Row w B m (cellsOf .u8 ys)) (hl : n ≤ 140737488355328) (hl' : m ≤ 140737488355328) :
    Calls Try.prog 69 #[.slice A n c, .slice B m d] w (Quiet w (.bool (sameB xs ys))) := by
  have Hx := Lib.hid hx.len
  have Hy := Lib.hid hy.len
  by_cases hnm : n = m
  · subst hnm
    have hne : ((n : Int) != (n : Int)) = false := by simp
    go_enter Try.func69, Try.ntmps69
    go_wp2
    clear hne
    go_loopw [13] (fun i wr => ∃ k q : Nat, k ≤ n ∧ i = .int .i64 k ∧ xs.take k = ys.take k ∧ wr = w.drewN q) (fun i _ => n - (intOf i).toNat)
    case atStart => exact ⟨0, 0, Nat.zero_le _, rfl, by simp, rfl⟩
    case round =>
      obtain ⟨k, q, hk, rfl, hp, rfl⟩ := hrel
      have Hp := Lib.hid hp
      clear hp
      by_cases hlt : k < n
      · obtain ⟨x, ex⟩ := get_some (zs := xs) (k := k) (by have := Hx.out; omega)
        obtain ⟨y, ey⟩ := get_some (zs := ys) (k := k) (by have := Hy.out; omega)
        obtain ⟨g, off, rfl, hg, hc⟩ := hx.at (cellsOf_get (k := .u8) ex)
        obtain ⟨g', off', rfl, hg', hc'⟩ := hy.at (cellsOf_get (k := .u8) ey)
        have Ex := Lib.hid ex
        have Ey := Lib.hid ey
        clear ex ey
        by_cases he : x = y
        · have hb : (x != y) = false := by simp [he]
          have He := Lib.hid he
          clear he
          go_wp2
          go_quiet (fail)
          go_wp2
          go_roundw
          case rel => exact ⟨k + 1, _, by omega, by go_num, by rw [List.take_add_one, List.take_add_one, Ex.out, Ey.out, Hp.out, He.out], by first | rfl | (rw [World.drewN_drewN])⟩
          case measure => simp [intOf]; omega
        · have hb : (x != y) = true := by simp [he]
          have He := Lib.hid he
          clear he
          go_wp2
          go_quiet (fail)
          go_wp2
          go_ret
          refine ⟨?_, _, by first | rfl | (rw [World.drewN_drewN])⟩
          have hf : sameB xs ys = false := by
            unfold sameB
            rw [decide_eq_false_iff_not]
            rintro rfl
            have e1 := Ex.out
            rw [Ey.out] at e1
            exact He.out (Option.some.inj e1).symm
          rw [hf]
          rfl
      · go_wp2
        go_ret
        refine ⟨?_, q, rfl⟩
        have hp := Hp.out
        rw [List.take_of_length_le (by have := Hx.out; omega), List.take_of_length_le (by have := Hy.out; omega)] at hp
        have hf : sameB xs ys = true := by unfold sameB; simp [hp]
        rw [hf]
        rfl
  · have hne : ((n : Int) != (m : Int)) = true := by simp; omega
    go_enter Try.func69, Try.ntmps69
    go_wp2
    go_ret
    refine ⟨?_, 0, rfl⟩
    have hf : sameB xs ys = false := by
      unfold sameB
      rw [decide_eq_false_iff_not]
      rintro rfl
      have := Hx.out
      have := Hy.out
      omega
    rw [hf]
    rfl

/-- Are two lists of places alike? -/
def samePs (a b : List Sp) : Bool := decide (a = b)

set_option maxHeartbeats 1000000 in
theorem equalSp_any (A B : Option Addr) (n c m d : Nat) (xs ys : List Sp) (w : World) (hx : RowS encSp 3 w A n xs) (hy : RowS encSp 3 w B m ys) (hl : n ≤ 1000000) (hl' : m ≤ 1000000) :
    Calls Try.prog 70 #[.slice A n c, .slice B m d] w (Quiet w (.bool (samePs xs ys))) := by
  have Hx := Lib.hid hx.len
  have Hy := Lib.hid hy.len
  by_cases hnm : n = m
  · subst hnm
    have hne : ((n : Int) != (n : Int)) = false := by simp
    go_enter Try.func70, Try.ntmps70
    go_wp2
    clear hne
    go_loopw [13] (fun i wr => ∃ k q : Nat, k ≤ n ∧ i = .int .i64 k ∧ xs.take k = ys.take k ∧ wr = w.drewN q) (fun i _ => n - (intOf i).toNat)
    case atStart => exact ⟨0, 0, Nat.zero_le _, rfl, by simp, rfl⟩
    case round =>
      obtain ⟨k, q, hk, rfl, hp, rfl⟩ := hrel
      have Hp := Lib.hid hp
      clear hp
      by_cases hlt : k < n
      · obtain ⟨x, ex⟩ : ∃ p, xs[k]? = some p := ⟨xs[k]'(by have := Hx.out; omega), List.getElem?_eq_getElem (by have := Hx.out; omega)⟩
        obtain ⟨y, ey⟩ : ∃ p, ys[k]? = some p := ⟨ys[k]'(by have := Hy.out; omega), List.getElem?_eq_getElem (by have := Hy.out; omega)⟩
        obtain ⟨g, off, rfl, hg, q0, q1, q2⟩ := atSp hx ex
        obtain ⟨g', off', rfl, hg', r0, r1, r2⟩ := atSp hy ey
        have Ex := Lib.hid ex
        have Ey := Lib.hid ey
        have i0 : (0 : Int) ≤ (k : Int) := by omega
        have i1 : (k : Int) < (n : Int) := by omega
        clear ex ey
        by_cases he : x = y
        · subst he
          obtain ⟨a0, a1, a2⟩ := x
          simp only at *
          go_wp2
          go_quiet (fail)
          go_wp2
          go_roundw
          case rel => exact ⟨k + 1, _, by omega, by go_num, by rw [List.take_add_one, List.take_add_one, Ex.out, Ey.out, Hp.out], by first | rfl | (rw [World.drewN_drewN])⟩
          case measure => simp [intOf]; omega
        · have hf : Hid (samePs xs ys = false) := by
            show _ = _
            unfold samePs
            rw [decide_eq_false_iff_not]
            rintro rfl
            have e1 := Ex.out
            rw [Ey.out] at e1
            exact he (Option.some.inj e1).symm
          obtain ⟨a0, a1, a2⟩ := x
          obtain ⟨b0, b1, b2⟩ := y
          simp only at *
          by_cases h0 : a0 = b0
          · subst h0
            by_cases h1 : a1 = b1
            · subst h1
              have h2 : a2 ≠ b2 := fun h => he (by rw [h])
              clear he
              cases a2 <;> cases b2
              all_goals
                first
                | exact absurd rfl h2
                | (clear h2
                   go_wp2
                   go_quiet (fail)
                   go_wp2
                   go_ret
                   exact ⟨by rw [hf.out]; rfl, _, by first | rfl | (rw [World.drewN_drewN])⟩
                   )
            · have e0 : decide (a1 = b1) = false := decide_eq_false h1
              have e1 : (a1 == b1) = false := by simp [h1]
              clear he
              go_wp2
              go_quiet (fail)
              go_wp2
              go_ret
              exact ⟨by rw [hf.out]; rfl, _, by first | rfl | (rw [World.drewN_drewN])⟩
          · have e0 : decide (a0 = b0) = false := decide_eq_false h0
            have e1 : (a0 == b0) = false := by simp [h0]
            clear he
            go_wp2
            go_quiet (fail)
            go_wp2
            go_ret
            exact ⟨by rw [hf.out]; rfl, _, by first | rfl | (rw [World.drewN_drewN])⟩
      · go_wp2
        go_ret
        refine ⟨?_, q, rfl⟩
        have hp := Hp.out
        rw [List.take_of_length_le (by have := Hx.out; omega), List.take_of_length_le (by have := Hy.out; omega)] at hp
        have hf : samePs xs ys = true := by unfold samePs; simp [hp]
        rw [hf]
        rfl
  · have hne : ((n : Int) != (m : Int)) = true := by simp; omega
    go_enter Try.func70, Try.ntmps70
    go_wp2
    go_ret
    refine ⟨?_, 0, rfl⟩
    have hf : samePs xs ys = false := by
      unfold samePs
      rw [decide_eq_false_iff_not]
      rintro rfl
      have := Hx.out
      have := Hy.out
      omega
    rw [hf]
    rfl

end Go.Proofs.Ytlcnonhebppeiaa
