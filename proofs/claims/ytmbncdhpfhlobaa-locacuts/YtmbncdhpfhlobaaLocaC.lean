/- What package loca's Cut answers, as a contract over this seat's translation. -/
import Derived.Test.YtmbncdhpfhlobaaLocaMath
import Derived.Test.YtmbncdhpfhlobaaInts
import Derived.Test.YtmbncdhpfhlobaaWord
namespace Go.Proofs.Ytmbncdhpfhlobaa
open Go.RowKit
set_option linter.unusedVariables false

/-- The bytes of glyph i. -/
def cutL (zs ps : List Int) (i : Int) : List Int :=
  if i < 0 then [] else match ps[i.toNat]?, ps[i.toNat + 1]? with
    | some a, some b => if 0 ≤ a ∧ a ≤ b ∧ b ≤ zs.length then (zs.drop a.toNat).take (b.toNat - a.toNat) else []
    | _, _ => []

theorem cutL_neg (zs ps : List Int) (i : Int) (h : i < 0) : cutL zs ps i = [] := by unfold cutL; rw [if_pos h]
theorem cutL_far (zs ps : List Int) (i : Int) (h : (ps.length : Int) ≤ i + 1) : cutL zs ps i = [] := by
  unfold cutL
  split
  · rfl
  · rw [List.getElem?_eq_none (show ps.length ≤ i.toNat + 1 by omega)]
    cases ps[i.toNat]? <;> rfl
theorem cutL_at (zs ps : List Int) (i : Nat) (a b : Int) (h1 : ps[i]? = some a) (h2 : ps[i + 1]? = some b) : cutL zs ps i = if 0 ≤ a ∧ a ≤ b ∧ b ≤ zs.length then (zs.drop a.toNat).take (b.toNat - a.toNat) else [] := by
  unfold cutL
  rw [if_neg (by omega), Int.toNat_natCast, h1, h2]

set_option maxRecDepth 100000 in
set_option maxHeartbeats 1000000 in
theorem lcut_any (A : Option Addr) (n c : Nat) (zs : List Int) (A' : Option Addr) (n' c' : Nat) (ps : List Int) (i : Int) (w : World) (hr : Row w A n (cellsOf .u8 zs)) (hcap : n ≤ c) (hn : n ≤ 140737488351232) (hp : Row w A' n' (cellsOf .i64 ps)) (hn' : n' ≤ 140737488351232) :
    Calls Try.prog 35 #[.slice A n c, .slice A' n' c', .int .i64 i] w (RetB w (cutL zs ps i)) := by
  have Hn := Lib.hid hr.len
  have Hp := Lib.hid hp.len
  by_cases h1 : i < 0
  · go_enter Try.func35, Try.ntmps35
    go_wp2
    go_ret
    exact ⟨none, 0, 0, rfl, by rw [cutL_neg _ _ _ h1]; exact Own.nil _ _ _ _, Below.refl _ _⟩
  by_cases h2 : (n' : Int) - 1 ≤ i
  · go_enter Try.func35, Try.ntmps35
    go_wp2
    go_ret
    exact ⟨none, 0, 0, rfl, by rw [cutL_far _ _ _ (by have := Hp.out; omega)]; exact Own.nil _ _ _ _, Below.refl _ _⟩
  obtain ⟨i, rfl⟩ := Int.eq_ofNat_of_zero_le (show 0 ≤ i by omega)
  obtain ⟨a, ha⟩ := get_some (zs := ps) (k := i) (by have := Hp.out; omega)
  obtain ⟨b, hb⟩ := get_some (zs := ps) (k := i + 1) (by have := Hp.out; omega)
  obtain ⟨g, off, rfl, hg, hc⟩ := hp.at (cellsOf_get (k := .i64) ha)
  obtain ⟨g', off', e', _, hc'⟩ := hp.at (cellsOf_get (k := .i64) hb)
  simp only [Option.some.injEq, Addr.mk.injEq, and_true] at e'
  obtain ⟨rfl, rfl⟩ := e'
  have HC := Lib.hid (cutL_at zs ps i a b ha hb)
  clear ha hb
  have w1 : IntKind.i64.wrap ((i : Int) + 1) = (i : Int) + 1 := IntWalk.i64_in _ (by omega)
  have w2 : ((i : Int) + 1).toNat = i + 1 := by omega
  have w3 : (0 : Int) ≤ (i : Int) + 1 := by omega
  have w4 : (i : Int) + 1 < (n' : Int) := by omega
  have w5 : (i : Int) < (n' : Int) := by omega
  by_cases h3 : a < 0
  · rw [if_neg (by omega)] at HC
    go_enter Try.func35, Try.ntmps35
    go_wp2
    go_quiet (fail)
    go_wp2
    go_ret
    exact ⟨none, 0, 0, rfl, by rw [HC.out]; exact Own.nil _ _ _ _, below_drewN (Below.refl _ _) _⟩
  by_cases h4 : b < a
  · rw [if_neg (by omega)] at HC
    go_enter Try.func35, Try.ntmps35
    go_wp2
    go_quiet (fail)
    go_wp2
    go_ret
    exact ⟨none, 0, 0, rfl, by rw [HC.out]; exact Own.nil _ _ _ _, below_drewN (Below.refl _ _) _⟩
  by_cases h5 : (n : Int) < b
  · rw [if_neg (by have := Hn.out; omega)] at HC
    go_enter Try.func35, Try.ntmps35
    go_wp2
    go_quiet (fail)
    go_wp2
    go_ret
    exact ⟨none, 0, 0, rfl, by rw [HC.out]; exact Own.nil _ _ _ _, below_drewN (Below.refl _ _) _⟩
  rw [if_pos (by have := Hn.out; omega)] at HC
  obtain ⟨a, rfl⟩ := Int.eq_ofNat_of_zero_le (show 0 ≤ a by omega)
  obtain ⟨b, rfl⟩ := Int.eq_ofNat_of_zero_le (show 0 ≤ b by omega)
  simp only [Int.toNat_natCast] at HC
  have hbc : b ≤ c := by omega
  go_enter Try.func35, Try.ntmps35
  go_wp2
  go_quiet (fail)
  go_wp2_with fail
  · with_reducible refine (clone_any _ _ _ [] _ (Row.empty _ _) (by omega)).mono ?_
    rintro e w6 ⟨A6, n6, c6, rfl, hown6, hb6⟩
    go_wp2
    go_ret
    refine ⟨A6, n6, c6, rfl, by rw [HC.out, show b - a = 0 by omega, List.take_zero]; exact hown6, ?_⟩
    exact (below_drewN (Below.refl _ _) nq).trans hb6
  · with_reducible refine (clone_any _ _ _ ((zs.drop a).take (b - a)) _ (by
      have h := (hr.drop a).take (k := b - a) (by omega)
      rw [cellsOf_drop, cellsOf_take] at h
      exact h.drewN nq) (by omega)).mono ?_
    rintro e w6 ⟨A6, n6, c6, rfl, hown6, hb6⟩
    go_wp2
    go_ret
    refine ⟨A6, n6, c6, rfl, by rw [HC.out]; exact hown6, ?_⟩
    exact (below_drewN (Below.refl _ _) nq).trans hb6

end Go.Proofs.Ytmbncdhpfhlobaa
