/- compo: many parts alike: plain lists. -/
import Derived.Test.YtlcnonhebppeiaaComX
namespace Go.Proofs.Ytlcnonhebppeiaa
open Go.RowKit
set_option linter.unusedVariables false

def pt0 : Pt := ⟨2, 0, 0, 0, 16384, 0, 0, 16384⟩
def ptC : Pt := ⟨258, 0, 0, 0, 16384, 0, 0, 16384⟩
def ctA (n : Nat) (code : Bool) : List Pt := if code && decide (0 < n) then (List.replicate n pt0).set (n - 1) ptC else List.replicate n pt0
def ctL (n : Nat) (code early : Bool) : List Pt := if early && decide (1 < n) then (ctA n code).set 0 ptC else ctA n code
theorem ctA_len (n : Nat) (code : Bool) : (ctA n code).length = n := by unfold ctA; split <;> simp
theorem ctL_len (n : Nat) (code early : Bool) : (ctL n code early).length = n := by unfold ctL; split <;> simp [ctA_len]
theorem ctA_get {n i : Nat} {code : Bool} (h : i < n) : (ctA n code)[i]? = some (if code && decide (i = n - 1) then ptC else pt0) := by
  unfold ctA
  cases code with
  | false => simp [h]
  | true =>
    rw [if_pos (by simp; omega)]
    by_cases hi : i = n - 1
    · subst hi
      rw [List.getElem?_set_self (by simp; omega)]
      simp
    · rw [List.getElem?_set_ne (fun e => hi e.symm)]
      simp [h, hi]
theorem ctL_get {n i : Nat} {code early : Bool} (h : i < n) : (ctL n code early)[i]? = some (if (early && decide (1 < n) && decide (i = 0)) || (code && decide (i = n - 1)) then ptC else pt0) := by
  unfold ctL
  by_cases he : (early && decide (1 < n)) = true
  · rw [if_pos he, he]
    by_cases hi : i = 0
    · subst hi
      rw [List.getElem?_set_self (by rw [ctA_len]; omega)]
      simp
    · rw [List.getElem?_set_ne (fun e => hi e.symm), ctA_get h]
      simp [hi]
  · rw [if_neg he, ctA_get h]
    rw [Bool.not_eq_true] at he
    rw [he]
    simp
theorem pt0_r : ptRight pt0 = true ∧ ptRight ptC = true ∧ fb pt0.f 256 = false ∧ fb ptC.f 256 = true := by decide
theorem ptAll_r (b : Bool) : ptRight (if b then ptC else pt0) = true ∧ fb (if b then ptC else pt0).f 256 = b := by cases b <;> decide
theorem pt0_ok : pt0.ok ∧ ptC.ok := ⟨⟨by decide, by decide, by decide, by decide, by decide, by decide, by decide, by decide⟩, ⟨by decide, by decide, by decide, by decide, by decide, by decide, by decide, by decide⟩⟩
theorem ctL_ok (n : Nat) (code early : Bool) : ∀ p ∈ ctL n code early, p.ok := by
  intro p hp
  obtain ⟨i, hi⟩ := List.getElem?_of_mem hp
  have hlt : i < n := by have := (List.getElem?_eq_some_iff.1 hi).1; rwa [ctL_len] at this
  rw [ctL_get hlt] at hi
  simp only [Option.some.injEq] at hi
  subst hi
  split
  · exact pt0_ok.2
  · exact pt0_ok.1
theorem ct_parts {n : Nat} {code early : Bool} (hn : 1 ≤ n) : partsOk (ctL n code early) n = (decide (n = 1) || !early) := by
  rw [Bool.eq_iff_iff]
  unfold partsOk
  rw [List.all_eq_true]
  constructor
  · intro h
    by_cases h1 : n = 1
    · simp [h1]
    · have := h 0 (List.mem_range.2 (by omega))
      rw [ctL_get (by omega)] at this
      simp only [(ptAll_r _).1, (ptAll_r _).2, ctL_len] at this
      cases early
      · simp
      · simp [show 1 < n by omega] at this
  · intro h i hi
    have hi := List.mem_range.1 hi
    rw [ctL_get hi]
    simp only [(ptAll_r _).1, (ptAll_r _).2, ctL_len]
    by_cases h1 : i + 1 < n
    · have hn1 : ¬ n = 1 := by omega
      have he : early = false := by simpa [hn1] using h
      subst he
      have hne : ¬ i = n - 1 := by omega
      simp [hne]
    · simp [h1]
theorem ct_code {n : Nat} {code early : Bool} (hn : 1 ≤ n) : codeB (ctL n code early) = code := by
  have h : (ctL n code early)[(ctL n code early).length - 1]? = some (if (early && decide (1 < n) && decide (n - 1 = 0)) || (code && decide (n - 1 = n - 1)) then ptC else pt0) := by
    rw [ctL_len]
    exact ctL_get (by omega)
  rw [codeB_last h, (ptAll_r _).2]
  by_cases h1 : 1 < n
  · simp [show ¬ n - 1 = 0 by omega]
  · simp [h1]
theorem ct_right (n : Nat) (code early : Bool) (pr : List Int) (hp : pr.length ≤ 20) : cRight ⟨0, 0, 0, 0, ctL n code early, pr⟩ = (decide (1 ≤ n) && decide (n ≤ 200) && (decide (n = 1) || !early) && (code || decide (pr.length = 0))) := by
  unfold cRight
  simp only [ctL_len]
  by_cases hn : 1 ≤ n
  · rw [ct_parts hn, ct_code hn, decide_eq_true (show pr.length ≤ 65535 by omega)]
    simp
  · simp [hn]
theorem cBytes_pos (g : Cg) : decide (0 < (cBytes g).length) = cRight g := by
  unfold cBytes
  cases h : cRight g with
  | false => rfl
  | true =>
    rw [if_pos rfl]
    unfold cB
    simp [b2]
end Go.Proofs.Ytlcnonhebppeiaa
