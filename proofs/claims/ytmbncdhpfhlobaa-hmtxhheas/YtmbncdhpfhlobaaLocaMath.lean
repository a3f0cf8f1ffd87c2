/- Places of glyphs, as plain lists: what a table tells, and what sizes make. -/
import Derived.Test.YtmbncdhpfhlobaaWin
namespace Go.Proofs.Ytmbncdhpfhlobaa
set_option linter.unusedVariables false

/-- How many bytes a place has. -/
def eachB (long : Bool) : Nat := if long then 4 else 2
/-- The place i of a table. -/
def plc (long : Bool) (zs : List Int) (i : Nat) : Int := if long then n4at zs (4 * i) else 2 * n2at zs (2 * i)
def pls (long : Bool) (zs : List Int) (m : Nat) : List Int := (List.range m).map (plc long zs)
/-- The place ahead. -/
def prv (long : Bool) (zs : List Int) : Nat → Int
  | 0 => 0
  | k + 1 => plc long zs k
/-- Do the first m places rise, up to size? -/
def okPls (long : Bool) (zs : List Int) (size : Int) : Nat → Bool
  | 0 => true
  | m + 1 => okPls long zs size m && decide (prv long zs m ≤ plc long zs m ∧ plc long zs m ≤ size)
def placesB (long : Bool) (zs : List Int) (g : Nat) (size : Int) : Bool := decide (zs.length = (g + 1) * eachB long) && okPls long zs size (g + 1)

section
variable {long : Bool} {zs : List Int} {size : Int}
theorem plc_bd (hB : Bytes zs) (i : Nat) : 0 ≤ plc long zs i ∧ plc long zs i < 4294967296 := by
  have h1 := n4at_lt hB (4 * i)
  have h2 := n2at_lt hB (2 * i)
  unfold plc
  split <;> omega
theorem prv_bd (hB : Bytes zs) (i : Nat) : 0 ≤ prv long zs i ∧ prv long zs i < 4294967296 := by
  cases i with
  | zero => simp [prv]
  | succ i => exact plc_bd hB i
theorem okPls_mono (k m : Nat) (h : okPls long zs size k = false) (hk : k ≤ m) : okPls long zs size m = false := by
  induction m with
  | zero =>
    obtain rfl : k = 0 := by omega
    exact h
  | succ m ih =>
    rcases Nat.lt_or_ge m k with h1 | h1
    · obtain rfl : k = m + 1 := by omega
      exact h
    · rw [okPls, ih h1]
      rfl
theorem pls_len (m : Nat) : (pls long zs m).length = m := by simp [pls]
theorem pls_get (m i : Nat) (h : i < m) : (pls long zs m)[i]? = some (plc long zs i) := by simp [pls, h]
theorem pls_succ (m : Nat) : pls long zs (m + 1) = pls long zs m ++ [plc long zs m] := by simp [pls, List.range_succ]
/-- How the list looks behind k rounds. -/
theorem pls_set (n k : Nat) (h : k < n) : (pls long zs k ++ List.replicate (n - k) 0).set k (plc long zs k) = pls long zs (k + 1) ++ List.replicate (n - (k + 1)) 0 := by
  rw [pls_succ, show n - k = (n - (k + 1)) + 1 by omega, List.replicate_succ, List.set_append_right _ _ (by rw [pls_len]; omega), pls_len, Nat.sub_self, List.set_cons_zero, List.append_assoc]
  rfl
end

/-- The sum of numbers; the places that sizes make, from one on; do they all fit? -/
def sumI (l : List Int) : Int := l.foldl (· + ·) 0
def scan (a : Int) : List Int → List Int
  | [] => [a]
  | x :: l => a :: scan (a + x) l
def okS (a : Int) : List Int → Bool
  | [] => true
  | x :: l => decide (0 ≤ x ∧ x ≤ 67108864 - a) && okS (a + x) l

theorem foldl_add (l : List Int) : ∀ a : Int, l.foldl (· + ·) a = a + sumI l := by
  induction l with
  | nil => intro a; simp [sumI]
  | cons x l ih =>
    intro a
    have h1 := ih (a + x)
    have h2 := ih (0 + x)
    unfold sumI at *
    simp only [List.foldl_cons] at *
    rw [h1, h2]
    omega
theorem sumI_cons (x : Int) (l : List Int) : sumI (x :: l) = x + sumI l := by
  have := foldl_add l (0 + x)
  rw [show sumI (x :: l) = l.foldl (· + ·) (0 + x) from rfl, this]
  omega
theorem sumI_snoc (l : List Int) (x : Int) : sumI (l ++ [x]) = sumI l + x := by simp [sumI]
theorem sumI_nil : sumI [] = 0 := rfl

theorem scan_snoc (l : List Int) (x : Int) : ∀ a, scan a (l ++ [x]) = scan a l ++ [a + sumI l + x] := by
  induction l with
  | nil => intro a; simp [scan, sumI_nil]
  | cons y l ih =>
    intro a
    simp only [List.cons_append, scan, ih, sumI_cons]
    rw [show a + y + sumI l + x = a + (y + sumI l) + x by omega]
theorem scan_len (l : List Int) : ∀ a, (scan a l).length = l.length + 1 := by
  induction l with
  | nil => intro a; rfl
  | cons y l ih => intro a; simp [scan, ih]
theorem scan_get (l : List Int) : ∀ (a : Int) (i : Nat), i ≤ l.length → (scan a l)[i]? = some (a + sumI (l.take i)) := by
  induction l with
  | nil =>
    intro a i h
    simp at h
    subst h
    simp [scan, sumI]
  | cons y l ih =>
    intro a i h
    cases i with
    | zero => simp [scan, sumI]
    | succ i =>
      simp only [scan, List.getElem?_cons_succ, List.take_succ_cons]
      rw [ih (a + y) i (by simpa using h), sumI_cons]
      congr 1
      omega
theorem okS_snoc (l : List Int) (x : Int) : ∀ a, okS a (l ++ [x]) = (okS a l && decide (0 ≤ x ∧ x ≤ 67108864 - (a + sumI l))) := by
  induction l with
  | nil => intro a; simp [okS, sumI_nil]
  | cons y l ih =>
    intro a
    simp only [List.cons_append, okS, ih, sumI_cons]
    rw [show a + y + sumI l = a + (y + sumI l) by omega, Bool.and_assoc]
theorem okS_take (l : List Int) (a : Int) (k : Nat) (h : okS a (l.take k) = false) : okS a l = false := by
  induction l generalizing a k with
  | nil => simpa using h
  | cons y l ih =>
    cases k with
    | zero => simp [okS] at h
    | succ k =>
      simp only [List.take_succ_cons, okS, Bool.and_eq_false_iff] at h ⊢
      rcases h with h | h
      · exact .inl h
      · exact .inr (ih _ _ h)
theorem okS_sum (l : List Int) : ∀ a, okS a l = true → 0 ≤ a → a ≤ 67108864 → 0 ≤ sumI l ∧ a + sumI l ≤ 67108864 ∧ ∀ x ∈ l, 0 ≤ x := by
  induction l with
  | nil => intro a _ h0 h1; simp [sumI_nil]; omega
  | cons y l ih =>
    intro a h h0 h1
    simp only [okS, Bool.and_eq_true, decide_eq_true_eq] at h
    have := ih (a + y) h.2 (by omega) (by omega)
    rw [sumI_cons]
    refine ⟨by omega, by omega, fun x hx => ?_⟩
    rcases List.mem_cons.1 hx with rfl | hx
    · omega
    · exact this.2.2 x hx
theorem okS_take_true (l : List Int) (a : Int) (k : Nat) (h : okS a l = true) : okS a (l.take k) = true := by
  cases hh : okS a (l.take k) with
  | true => rfl
  | false => rw [okS_take l a k hh] at h; cases h
theorem sumI_take (l : List Int) (k : Nat) (h : okS 0 l = true) : 0 ≤ sumI (l.take k) ∧ sumI (l.take k) ≤ 67108864 := by
  have := okS_sum (l.take k) 0 (okS_take_true l 0 k h) (by omega) (by omega)
  omega
theorem scan_mem (l : List Int) (h : okS 0 l = true) : ∀ x ∈ scan 0 l, 0 ≤ x ∧ x ≤ 67108864 := by
  intro x hx
  obtain ⟨i, hi⟩ := List.mem_iff_getElem?.1 hx
  have hl : i < (scan 0 l).length := (List.getElem?_eq_some_iff.1 hi).1
  rw [scan_len] at hl
  rw [scan_get l 0 i (by omega)] at hi
  have := sumI_take l i h
  simp at hi
  omega
theorem take_snocI (l : List Int) (k : Nat) (x : Int) (h : l[k]? = some x) : l.take (k + 1) = l.take k ++ [x] := by rw [List.take_add_one, h]; rfl

/-- Do two bytes hold the half of each place? The bytes of all places. -/
def fitB (l : List Int) : Bool := l.all fun x => decide (x % 2 = 0 ∧ x ≤ 131070)
def plB (long : Bool) (x : Int) : List Int := if long then b4 x else b2 (x / 2)
def plsB (long : Bool) (l : List Int) : List Int := l.flatMap (plB long)

theorem fitB_take (l : List Int) (k : Nat) (h : fitB (l.take k) = false) : fitB l = false := by
  cases hh : fitB l with
  | false => rfl
  | true =>
    unfold fitB at *
    rw [List.all_eq_true] at hh
    have : (l.take k).all (fun x => decide (x % 2 = 0 ∧ x ≤ 131070)) = true := List.all_eq_true.2 fun x hx => hh x (List.mem_of_mem_take hx)
    rw [this] at h
    cases h
theorem fitB_snoc (l : List Int) (x : Int) : fitB (l ++ [x]) = (fitB l && decide (x % 2 = 0 ∧ x ≤ 131070)) := by simp [fitB]
theorem plB_len (long : Bool) (x : Int) : (plB long x).length = eachB long := by cases long <;> rfl
theorem plsB_snoc (long : Bool) (l : List Int) (x : Int) : plsB long (l ++ [x]) = plsB long l ++ plB long x := by simp [plsB]
theorem plsB_len (long : Bool) (l : List Int) : (plsB long l).length = l.length * eachB long := by
  unfold plsB
  induction l with
  | nil => simp
  | cons x l ih => rw [List.flatMap_cons, List.length_append, ih, plB_len, List.length_cons, Nat.succ_mul]; omega
theorem plsB_bytes (long : Bool) (l : List Int) : Bytes (plsB long l) := by
  intro y hy
  unfold plsB at hy
  obtain ⟨x, _, hx⟩ := List.mem_flatMap.1 hy
  cases long
  · exact b2_bytes _ y hx
  · exact b4_bytes _ y hx
theorem each_le (long : Bool) : eachB long ≤ 4 ∧ 2 ≤ eachB long := by cases long <;> simp [eachB]

end Go.Proofs.Ytmbncdhpfhlobaa
