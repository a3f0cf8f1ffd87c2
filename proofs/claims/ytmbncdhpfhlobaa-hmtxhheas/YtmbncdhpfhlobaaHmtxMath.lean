/- The tables of metrics, as plain lists. -/
import Derived.Test.YtmbncdhpfhlobaaWin
import Derived.Test.YtmbncdhpfhlobaaMetric
namespace Go.Proofs.Ytmbncdhpfhlobaa
set_option linter.unusedVariables false

/-- The metric at a place. -/
def mAt (l : List Mt) (i : Nat) : Mt := l[i]?.getD (0, 0)
def adv (l : List Mt) (i : Nat) : Int := (mAt l i).1
theorem mAt_of {l : List Mt} {i : Nat} {m : Mt} (h : l[i]? = some m) : mAt l i = m := by simp [mAt, h]

/-- How many are told whole, counted down. -/
def down (l : List Mt) : Nat → Nat
  | 0 => 0
  | 1 => 1
  | n + 2 => if adv l n = adv l (n + 1) then down l (n + 1) else n + 2
def longL (l : List Mt) : Nat := down l l.length

theorem down_le (l : List Mt) : ∀ n, down l n ≤ n
  | 0 => Nat.le_refl _
  | 1 => Nat.le_refl _
  | n + 2 => by
    rw [down]
    split
    · have := down_le l (n + 1); omega
    · exact Nat.le_refl _
theorem down_pos (l : List Mt) : ∀ n, 0 < n → 0 < down l n
  | 0, h => h
  | 1, _ => by simp [down]
  | n + 2, _ => by
    rw [down]
    split
    · exact down_pos l (n + 1) (by omega)
    · omega
/-- From the last one on that is told whole all have one advance. -/
theorem down_good (l : List Mt) : ∀ n j, down l n ≤ j + 1 → j < n → adv l j = adv l (down l n - 1)
  | 0, j, _, h => by omega
  | 1, j, _, h => by
    obtain rfl : j = 0 := by omega
    rfl
  | n + 2, j, h1, h2 => by
    rw [down] at *
    split
    · rename_i he
      rw [if_pos he] at h1
      rcases Nat.lt_or_ge j (n + 1) with h | h
      · exact down_good l (n + 1) j h1 h
      · obtain rfl : j = n + 1 := by omega
        rw [← he]
        exact down_good l (n + 1) n (by have := down_le l (n + 1); omega) (by omega)
    · rename_i he
      rw [if_neg he] at h1
      obtain rfl : j = n + 1 := by omega
      rfl
/-- The one ahead has another. -/
theorem down_least (l : List Mt) : ∀ n, 1 < down l n → adv l (down l n - 2) ≠ adv l (down l n - 1)
  | 0, h => by simp [down] at h
  | 1, h => by simp [down] at h
  | n + 2, h => by
    rw [down] at *
    split
    · rename_i he
      rw [if_pos he] at h
      exact down_least l (n + 1) h
    · rename_i he
      exact he

theorem longL_le (l : List Mt) : longL l ≤ l.length := down_le l _
theorem longL_pos (l : List Mt) (h : 0 < l.length) : 0 < longL l := down_pos l _ h
theorem longL_good (l : List Mt) (j : Nat) (h1 : longL l ≤ j + 1) (h2 : j < l.length) : adv l j = adv l (longL l - 1) := down_good l _ j h1 h2
theorem longL_least (l : List Mt) (h : 1 < longL l) : adv l (longL l - 2) ≠ adv l (longL l - 1) := down_least l _ h

/-- Of k and all behind it: have the first j of them one advance? -/
def alike (l : List Mt) (k : Nat) : Nat → Bool
  | 0 => true
  | j + 1 => alike l k j && decide (adv l (k + j) = adv l k)
theorem alike_true (l : List Mt) (k : Nat) : ∀ j, (∀ i, i < j → adv l (k + i) = adv l k) → alike l k j = true
  | 0, _ => rfl
  | j + 1, h => by rw [alike, alike_true l k j (fun i hi => h i (by omega)), decide_eq_true (h j (by omega))]; rfl
theorem alike_false (l : List Mt) (k i : Nat) (hi : adv l (k + i) ≠ adv l k) : ∀ j, i < j → alike l k j = false
  | 0, h => by omega
  | j + 1, h => by
    rw [alike]
    rcases Nat.lt_or_ge i j with h1 | h1
    · rw [alike_false l k i hi j h1]; rfl
    · obtain rfl : i = j := by omega
      rw [decide_eq_false hi, Bool.and_false]
theorem alike_long (l : List Mt) (h : 0 < l.length) : alike l (longL l - 1) (l.length - (longL l - 1)) = true := by
  have := longL_pos l h
  exact alike_true l _ _ fun i hi => longL_good l _ (by omega) (by omega)
theorem alike_short (l : List Mt) (k : Nat) (h0 : 0 < k) (hk : k < longL l) : alike l (k - 1) (l.length - (k - 1)) = false := by
  have h1 := longL_le l
  by_cases h2 : adv l (longL l - 1) = adv l (k - 1)
  · have h3 := longL_least l (by omega)
    refine alike_false l (k - 1) (longL l - 2 - (k - 1)) ?_ _ (by omega)
    rw [show k - 1 + (longL l - 2 - (k - 1)) = longL l - 2 by omega, ← h2]
    exact h3
  · refine alike_false l (k - 1) (longL l - 1 - (k - 1)) ?_ _ (by omega)
    rw [show k - 1 + (longL l - 1 - (k - 1)) = longL l - 1 by omega]
    exact h2

/-- A metric's bytes, told whole or not; those of the first k. -/
def mB (L i : Nat) (m : Mt) : List Int := (if i < L then b2 m.1 else []) ++ b2 (m.2 % 65536)
def bytesK (l : List Mt) (L : Nat) : Nat → List Int
  | 0 => []
  | k + 1 => bytesK l L k ++ mB L k (mAt l k)
/-- Where the metric i begins. -/
def posM (L i : Nat) : Nat := if i ≤ L then 4 * i else 4 * L + 2 * (i - L)
theorem posM_succ (L i : Nat) : posM L (i + 1) = posM L i + (if i < L then 4 else 2) := by
  unfold posM
  by_cases h : i < L
  · rw [if_pos h, if_pos (by omega), if_pos (by omega)]; omega
  · rw [if_neg h, if_neg (by omega)]
    split <;> omega
theorem mB_len (L i : Nat) (m : Mt) : (mB L i m).length = if i < L then 4 else 2 := by unfold mB; split <;> simp [b2]
theorem bytesK_len (l : List Mt) (L : Nat) : ∀ k, (bytesK l L k).length = posM L k
  | 0 => by simp [bytesK, posM]
  | k + 1 => by rw [bytesK, List.length_append, bytesK_len l L k, mB_len, posM_succ]
theorem posM_all (L n : Nat) (h : L ≤ n) : posM L n = 2 * L + 2 * n := by
  unfold posM
  split <;> omega
theorem bytesK_bytes (l : List Mt) (L : Nat) : ∀ k, Bytes (bytesK l L k)
  | 0 => fun x hx => by cases hx
  | k + 1 => by
    rw [bytesK]
    refine bytes_append (bytesK_bytes l L k) ?_
    unfold mB
    refine bytes_append ?_ (b2_bytes _)
    split
    · exact b2_bytes _
    · intro x hx; cases hx
theorem bytesK_mid (l : List Mt) (L i : Nat) : ∀ n, i < n → ∃ r, bytesK l L n = bytesK l L i ++ (mB L i (mAt l i) ++ r)
  | 0, h => by omega
  | n + 1, h => by
    rcases Nat.lt_or_ge i n with h1 | h1
    · obtain ⟨r, hr⟩ := bytesK_mid l L i n h1
      exact ⟨r ++ mB L n (mAt l n), by rw [bytesK, hr]; simp⟩
    · obtain rfl : i = n := by omega
      exact ⟨[], by rw [bytesK, List.append_nil]⟩
theorem n2at_mid (X Y : List Int) (x : Int) (i : Nat) (hi : X.length = i) (h0 : 0 ≤ x) (h1 : x < 65536) : n2at (X ++ (b2 x ++ Y)) i = x := by
  refine n2at_of ?_ h0 h1
  subst hi
  rw [List.drop_append_of_le_length (Nat.le_refl _), List.drop_length, List.nil_append]
  rfl

/-- The metric i that bytes tell, of which L are told whole. -/
def metAt (zs : List Int) (L i : Nat) : Mt := (n2at zs (4 * min i (L - 1)), sgn (n2at zs (if i < L then 4 * i + 2 else 4 * L + 2 * (i - L))))
def mets (zs : List Int) (L n : Nat) : List Mt := (List.range n).map (metAt zs L)
theorem mets_len (zs : List Int) (L n : Nat) : (mets zs L n).length = n := by simp [mets]
theorem mets_succ (zs : List Int) (L k : Nat) : mets zs L (k + 1) = mets zs L k ++ [metAt zs L k] := by simp [mets, List.range_succ]
theorem mets_set (zs : List Int) (L n k : Nat) (h : k < n) : (mets zs L k ++ List.replicate (n - k) (0, 0)).set k (metAt zs L k) = mets zs L (k + 1) ++ List.replicate (n - (k + 1)) (0, 0) := by
  rw [mets_succ, show n - k = (n - (k + 1)) + 1 by omega, List.replicate_succ, List.set_append_right _ _ (by rw [mets_len]; omega), mets_len, Nat.sub_self, List.set_cons_zero, List.append_assoc]
  rfl
theorem sgn_bd (x : Int) (h0 : 0 ≤ x) (h1 : x < 65536) : -32768 ≤ sgn x ∧ sgn x ≤ 32767 := by
  unfold sgn
  split <;> omega
theorem mets_ok {zs : List Int} (hB : Bytes zs) (L n : Nat) : OkM (mets zs L n) := by
  intro m hm
  unfold mets at hm
  obtain ⟨i, _, rfl⟩ := List.mem_map.1 hm
  have h1 := n2at_lt hB (4 * min i (L - 1))
  have h2 := n2at_lt hB (if i < L then 4 * i + 2 else 4 * L + 2 * (i - L))
  have h3 := sgn_bd _ h2.1 h2.2
  exact ⟨h1.1, by show n2at zs (4 * min i (L - 1)) ≤ 65535; omega, h3.1, h3.2⟩

theorem sgn_back (x : Int) (h0 : -32768 ≤ x) (h1 : x ≤ 32767) : sgn (x % 65536) = x := by
  unfold sgn
  split <;> omega

/-- What was built is read again, wherever all behind the last whole one share its advance. -/
theorem mets_back (l : List Mt) (L : Nat) (hok : OkM l) (h0 : 0 < L) (hL : L ≤ l.length) (hg : ∀ j, L ≤ j + 1 → j < l.length → adv l j = adv l (L - 1)) : mets (bytesK l L l.length) L l.length = l := by
  apply List.ext_getElem?
  intro i
  by_cases hi : i < l.length
  · have hm : l[i]? = some l[i] := List.getElem?_eq_getElem hi
    have key : ∀ j, j < l.length → j < L → n2at (bytesK l L l.length) (4 * j) = adv l j := by
      intro j hj hjL
      obtain ⟨r, hr⟩ := bytesK_mid l L j l.length hj
      have hm : l[j]? = some l[j] := List.getElem?_eq_getElem hj
      have := hok _ (List.mem_of_getElem? hm)
      rw [hr]
      unfold mB adv
      rw [if_pos hjL, List.append_assoc, mAt_of hm]
      refine n2at_mid _ _ _ _ ?_ (by omega) (by omega)
      rw [bytesK_len, posM, if_pos (by omega)]
    have hb := hok _ (List.mem_of_getElem? hm)
    have e1 : n2at (bytesK l L l.length) (4 * min i (L - 1)) = adv l i := by
      rw [key _ (by omega) (by omega)]
      rcases Nat.lt_or_ge i L with h | h
      · rw [Nat.min_eq_left (by omega)]
      · rw [Nat.min_eq_right (by omega)]
        exact (hg i (by omega) hi).symm
    have e2 : n2at (bytesK l L l.length) (if i < L then 4 * i + 2 else 4 * L + 2 * (i - L)) = (mAt l i).2 % 65536 := by
      obtain ⟨r, hr⟩ := bytesK_mid l L i l.length hi
      rw [hr]
      unfold mB
      split
      · rw [List.append_assoc, ← List.append_assoc (bytesK l L i)]
        refine n2at_mid _ _ _ _ ?_ (by omega) (by omega)
        rw [List.length_append, bytesK_len, posM, if_pos (by omega)]
        rfl
      · rw [List.nil_append]
        refine n2at_mid _ _ _ _ ?_ (by omega) (by omega)
        rw [bytesK_len]
        unfold posM
        split <;> omega
    rw [hm]
    simp only [mets, List.getElem?_map, List.getElem?_range hi, Option.map_some, metAt, e1, e2]
    rw [adv, mAt_of hm, sgn_back _ (by omega) (by omega)]
  · rw [List.getElem?_eq_none (by rw [mets_len]; omega), List.getElem?_eq_none (by omega)]

theorem mets_long (l : List Mt) (hok : OkM l) (h : 0 < l.length) : mets (bytesK l (longL l) l.length) (longL l) l.length = l :=
  mets_back l _ hok (longL_pos l h) (longL_le l) (fun j h1 h2 => longL_good l j h1 h2)
theorem mets_whole (l : List Mt) (hok : OkM l) (h : 0 < l.length) : mets (bytesK l l.length l.length) l.length l.length = l :=
  mets_back l _ hok h (Nat.le_refl _) (fun j h1 h2 => by rw [show j = l.length - 1 by omega])

end Go.Proofs.Ytmbncdhpfhlobaa
