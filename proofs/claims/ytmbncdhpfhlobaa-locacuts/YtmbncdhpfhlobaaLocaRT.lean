/- What is built is read again: places of sizes, as plain lists. -/
import Derived.Test.YtmbncdhpfhlobaaLocaB2
namespace Go.Proofs.Ytmbncdhpfhlobaa
set_option linter.unusedVariables false

theorem flatMap_win {α : Type} (f : α → List Int) (e : Nat) (he : ∀ x, (f x).length = e) (l : List α) : ∀ (i : Nat) (x : α), l[i]? = some x → ((l.flatMap f).drop (e * i)).take e = f x := by
  induction l with
  | nil => intro i x h; simp at h
  | cons y l ih =>
    intro i x h
    rw [List.flatMap_cons]
    cases i with
    | zero =>
      simp at h
      subst h
      rw [Nat.mul_zero, List.drop_zero, List.take_append_of_le_length (by rw [he]; exact Nat.le_refl _), List.take_of_length_le (by rw [he]; exact Nat.le_refl _)]
    | succ i =>
      rw [List.drop_append, he, Nat.mul_succ, List.drop_of_length_le (by rw [he]; omega), List.nil_append, show e * i + e - e = e * i by omega]
      exact ih i x (by simpa using h)

theorem sumI_append (a b : List Int) : sumI (a ++ b) = sumI a + sumI b := by
  rw [show sumI (a ++ b) = b.foldl (· + ·) (sumI a) by simp [sumI], foldl_add]
theorem sumI_nonneg (l : List Int) (h : ∀ x ∈ l, 0 ≤ x) : 0 ≤ sumI l := by
  induction l with
  | nil => simp [sumI]
  | cons y l ih =>
    rw [sumI_cons]
    have := h y (by simp)
    have := ih (fun x hx => h x (List.mem_cons_of_mem _ hx))
    omega
theorem sumI_take_le (l : List Int) (h : ∀ x ∈ l, 0 ≤ x) (i : Nat) : sumI (l.take i) ≤ sumI l := by
  have e : sumI l = sumI (l.take i) + sumI (l.drop i) := by rw [← sumI_append, List.take_append_drop]
  have := sumI_nonneg (l.drop i) (fun x hx => h x (List.mem_of_mem_drop hx))
  omega
theorem sumI_le (l : List Int) (m : Int) (h : ∀ x ∈ l, x ≤ m) : sumI l ≤ m * l.length := by
  induction l with
  | nil => simp [sumI]
  | cons y l ih =>
    rw [sumI_cons, List.length_cons]
    have := h y (by simp)
    have := ih (fun x hx => h x (List.mem_cons_of_mem _ hx))
    rw [Int.natCast_succ, Int.mul_add, Int.mul_one]
    omega
theorem okS_of (l : List Int) : ∀ a, (∀ x ∈ l, 0 ≤ x) → a + sumI l ≤ 67108864 → okS a l = true := by
  induction l with
  | nil => intro a _ _; rfl
  | cons y l ih =>
    intro a h hs
    rw [sumI_cons] at hs
    have h0 := h y (by simp)
    have h1 := sumI_nonneg l (fun x hx => h x (List.mem_cons_of_mem _ hx))
    rw [okS, decide_eq_true (by omega), ih (a + y) (fun x hx => h x (List.mem_cons_of_mem _ hx)) (by omega)]
    rfl

/-- The place i of what was built. -/
theorem plc_built (l : List Int) (h : okS 0 l = true) (i : Nat) (hi : i ≤ l.length) : plc (longOf l) (bytesOf l) i = sumI (l.take i) := by
  have hx := scan_get l 0 i hi
  rw [Int.zero_add] at hx
  have hw := flatMap_win (plB (longOf l)) (eachB (longOf l)) (plB_len _) (scan 0 l) i _ hx
  obtain ⟨s0, s1⟩ := sumI_take l i h
  unfold plc
  change ((bytesOf l).drop (eachB (longOf l) * i)).take (eachB (longOf l)) = _ at hw
  cases hL : longOf l with
  | true =>
    rw [hL] at hw
    rw [if_pos rfl]
    exact n4at_of hw s0 (by omega)
  | false =>
    rw [hL] at hw
    rw [if_neg (by decide)]
    have hf : fitB (scan 0 l) = true := by
      unfold longOf at hL
      cases hh : fitB (scan 0 l) with
      | true => rfl
      | false => rw [hh] at hL; cases hL
    obtain ⟨e1, e2⟩ := fit_at hf hx
    have := n2at_of hw (by omega) (by omega)
    rw [show eachB false * i = 2 * i from rfl] at this
    rw [this]
    omega

theorem pls_built (l : List Int) (h : okS 0 l = true) : pls (longOf l) (bytesOf l) (l.length + 1) = scan 0 l := by
  apply List.ext_getElem?
  intro i
  by_cases hi : i ≤ l.length
  · rw [pls_get _ i (by omega), plc_built l h i hi, scan_get l 0 i hi, Int.zero_add]
  · rw [List.getElem?_eq_none (by rw [pls_len]; omega), List.getElem?_eq_none (by rw [scan_len]; omega)]

theorem places_built (l : List Int) (h : okS 0 l = true) (size : Int) (hs : sumI l ≤ size) : placesB (longOf l) (bytesOf l) l.length size = true := by
  have hnn := (okS_sum l 0 h (by omega) (by omega)).2.2
  have key : ∀ m, m ≤ l.length + 1 → okPls (longOf l) (bytesOf l) size m = true := by
    intro m
    induction m with
    | zero => intro _; rfl
    | succ m ih =>
      intro hm
      have h1 := plc_built l h m (by omega)
      have h2 := sumI_take_le l hnn m
      have h3 : prv (longOf l) (bytesOf l) m ≤ plc (longOf l) (bytesOf l) m := by
        cases m with
        | zero => rw [h1]; simp [prv, sumI]
        | succ m =>
          rw [h1]
          show plc (longOf l) (bytesOf l) m ≤ _
          rw [plc_built l h m (by omega)]
          have := sumI_take_le (l.take (m + 1)) (fun x hx => hnn x (List.mem_of_mem_take hx)) m
          rw [List.take_take, Nat.min_eq_left (by omega)] at this
          exact this
      rw [okPls, ih (by omega), decide_eq_true ⟨h3, by omega⟩]
      rfl
  unfold placesB
  rw [key _ (Nat.le_refl _), decide_eq_true (by unfold bytesOf; rw [plsB_len, scan_len])]
  rfl

theorem bytesOf_bytes (l : List Int) : Bytes (bytesOf l) := plsB_bytes _ _

end Go.Proofs.Ytmbncdhpfhlobaa
