/- The order of tags, byte by byte; what a sort by it leaves. -/
import Derived.Test.YtlkidnacfljpkaaShelf3
import Derived.Test.YtlkidnacfljpkaaStructs
namespace Go.Proofs.Ytlkidnacfljpkaa
open Go.RowKit
set_option linter.unusedVariables false

abbrev cb := Lib.compareBytes

theorem cb_self : ∀ a : List UInt8, cb a a = 0
  | [] => rfl
  | x :: a => by
    have := cb_self a
    simp only [cb, Lib.compareBytes] at *
    have h : ¬ x < x := by simp
    rw [if_neg h, if_neg h]
    exact this

theorem cb_eq : ∀ a b : List UInt8, cb a b = 0 → a = b
  | [], [], _ => rfl
  | [], _ :: _, h => by simp [cb, Lib.compareBytes] at h
  | _ :: _, [], h => by simp [cb, Lib.compareBytes] at h
  | x :: a, y :: b, h => by
    simp only [cb, Lib.compareBytes] at h
    split at h
    · omega
    · split at h
      · omega
      · rename_i h1 h2
        have e : x = y := by
          rw [UInt8.lt_iff_toNat_lt] at h1 h2
          exact UInt8.toNat_inj.1 (by omega)
        rw [e, cb_eq a b h]

theorem cb_anti : ∀ a b : List UInt8, cb a b = - cb b a
  | [], [] => rfl
  | [], _ :: _ => rfl
  | _ :: _, [] => rfl
  | x :: a, y :: b => by
    have ih := cb_anti a b
    simp only [cb, Lib.compareBytes] at *
    by_cases h1 : x < y
    · have h2 : ¬ y < x := by rw [UInt8.lt_iff_toNat_lt] at *; omega
      rw [if_pos h1, if_neg h2, if_pos h1]
    · by_cases h2 : y < x
      · rw [if_neg h1, if_pos h2, if_pos h2]; rfl
      · rw [if_neg h1, if_neg h2, if_neg h2, if_neg h1]; exact ih

theorem cb_trans : ∀ a b c : List UInt8, cb a b ≤ 0 → cb b c ≤ 0 → cb a c ≤ 0 ∧ (cb a b < 0 ∨ cb b c < 0 → cb a c < 0)
  | [], [], [], _, _ => by simp [cb, Lib.compareBytes]
  | [], [], _ :: _, _, _ => by simp [cb, Lib.compareBytes]
  | [], _ :: _, [], _, h => by simp [cb, Lib.compareBytes] at h
  | [], _ :: _, _ :: _, _, _ => by simp [cb, Lib.compareBytes]
  | _ :: _, [], _, h, _ => by simp [cb, Lib.compareBytes] at h
  | _ :: _, _ :: _, [], _, h => by simp [cb, Lib.compareBytes] at h
  | x :: a, y :: b, z :: c, h1, h2 => by
    have ih := cb_trans a b c
    simp only [cb, Lib.compareBytes] at *
    by_cases xy : x < y
    · by_cases yz : y < z
      · have xz : x < z := by rw [UInt8.lt_iff_toNat_lt] at *; omega
        rw [if_pos xz]; simp
      · by_cases zy : z < y
        · rw [if_neg yz, if_pos zy] at h2; omega
        · have xz : x < z := by rw [UInt8.lt_iff_toNat_lt] at *; omega
          rw [if_pos xz]; simp
    · by_cases yx : y < x
      · rw [if_neg xy, if_pos yx] at h1; omega
      · by_cases yz : y < z
        · have xz : x < z := by rw [UInt8.lt_iff_toNat_lt] at *; omega
          rw [if_pos xz]; simp
        · by_cases zy : z < y
          · rw [if_neg yz, if_pos zy] at h2; omega
          · have n1 : ¬ x < z := by rw [UInt8.lt_iff_toNat_lt] at *; omega
            have n2 : ¬ z < x := by rw [UInt8.lt_iff_toNat_lt] at *; omega
            rw [if_neg xy, if_neg yx] at h1 ⊢
            rw [if_neg yz, if_neg zy] at h2 ⊢
            rw [if_neg n1, if_neg n2]
            exact ih h1 h2

theorem cb_lt_trans {a b c : List UInt8} (h1 : cb a b < 0) (h2 : cb b c < 0) : cb a c < 0 := (cb_trans a b c (by omega) (by omega)).2 (.inl h1)

/-- Tags that rise. -/
def Rise (l : List (List UInt8)) : Prop := l.Pairwise fun a b => cb a b < 0

/-- Two lists of the same things, of which one rises and the other one doesn't fall, are one. -/
theorem rise_uniq {α : Type} (f : α → List UInt8) : ∀ (a b : List α), a.Perm b → a.Pairwise (fun x y => cb (f x) (f y) < 0) → b.Pairwise (fun x y => cb (f y) (f x) ≥ 0) → a = b := by
  intro a
  induction a with
  | nil => intro b hp _ _; exact hp.nil_eq
  | cons x a ih =>
    intro b hp ha hb
    cases b with
    | nil => exact absurd hp.length_eq (by simp)
    | cons y b =>
      have hxy : x = y := by
        rcases List.mem_cons.1 (hp.mem_iff.1 (List.mem_cons_self (a := x) (l := a))) with h | hx
        · exact h
        · rcases List.mem_cons.1 (hp.mem_iff.2 (List.mem_cons_self (a := y) (l := b))) with h | hy
          · exact h.symm
          · have h1 := (List.pairwise_cons.1 ha).1 y hy
            have h2 := (List.pairwise_cons.1 hb).1 x hx
            omega
      subst hxy
      rw [ih b (List.Perm.cons_inv hp) (List.pairwise_cons.1 ha).2 (List.pairwise_cons.1 hb).2]

/-- In a list that doesn't fall, what is there twice stands side by side. -/
theorem twice_near {α : Type} (f : α → List UInt8) (l : List α) (hb : l.Pairwise (fun x y => cb (f y) (f x) ≥ 0)) (i j : Nat) (hij : i < j) (x y : α) (hi : l[i]? = some x) (hj : l[j]? = some y) (he : f x = f y) : ∃ k u v, l[k]? = some u ∧ l[k + 1]? = some v ∧ f u = f v := by
  have hjl := (List.getElem?_eq_some_iff.1 hj).1
  obtain ⟨hil, rfl⟩ := List.getElem?_eq_some_iff.1 hi
  obtain ⟨_, rfl⟩ := List.getElem?_eq_some_iff.1 hj
  have hv : l[i + 1]? = some (l[i + 1]'(by omega)) := List.getElem?_eq_getElem (by omega)
  refine ⟨i, _, _, hi, hv, ?_⟩
  have h1 := List.pairwise_iff_getElem.1 hb i (i + 1) hil (by omega) (by omega)
  rcases Nat.lt_or_ge (i + 1) j with h | h
  · have h2 := List.pairwise_iff_getElem.1 hb (i + 1) j (by omega) hjl h
    rw [← he] at h2
    have h3 := cb_anti (f (l[i + 1]'(by omega))) (f (l[i]'hil))
    exact cb_eq _ _ (by omega)
  · have : j = i + 1 := by omega
    subst this
    exact he

end Go.Proofs.Ytlkidnacfljpkaa
