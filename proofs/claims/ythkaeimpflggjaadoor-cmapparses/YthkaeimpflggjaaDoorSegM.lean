/- Tables of segments: plain lists. -/
import Derived.Test.YthkaeimpflggjaaDoorGrpM
namespace Go.Proofs.YthkaeimpflggjaaDoor
set_option linter.unusedVariables false

def expoS (n : Nat) : Nat := n.log2
theorem expoS_spec (n : Nat) (h0 : 1 ≤ n) : 2 ^ expoS n ≤ n ∧ n < 2 ^ (expoS n + 1) := ⟨Nat.log2_self_le (by omega), Nat.lt_log2_self⟩
theorem expoS_uniq (n e : Nat) (h0 : 1 ≤ n) (h2 : 2 ^ e ≤ n) (h3 : n < 2 ^ (e + 1)) : e = expoS n := by
  obtain ⟨h4, h5⟩ := expoS_spec n h0
  rcases Nat.lt_trichotomy e (expoS n) with h | h | h
  · have : 2 ^ (e + 1) ≤ 2 ^ expoS n := Nat.pow_le_pow_right (by omega) (by omega)
    omega
  · exact h
  · have : 2 ^ (expoS n + 1) ≤ 2 ^ e := Nat.pow_le_pow_right (by omega) (by omega)
    omega
theorem expoS_lt (n : Nat) (h0 : 1 ≤ n) (h1 : n < 32768) : expoS n < 15 := by
  obtain ⟨h4, _⟩ := expoS_spec n h0
  rcases Nat.lt_or_ge (expoS n) 15 with h | h
  · exact h
  · have : 2 ^ 15 ≤ 2 ^ expoS n := Nat.pow_le_pow_right (by omega) h
    omega

/-- The three numbers for those who look up by halves. -/
def srL (n : Nat) : List Int := [2 * (2 ^ expoS n : Nat), (expoS n : Int), 2 * (n : Int) - 2 * (2 ^ expoS n : Nat)]

def sN (zs : List Int) : Nat := (n2at zs 6 / 2).toNat
def sFront (zs : List Int) : Bool := decide (n2at zs 0 = 4) && decide (24 ≤ n2at zs 2) && decide (n2at zs 2 ≤ zs.length) && decide (n2at zs 2 % 2 = 0)
def sCnt0 (zs : List Int) : Bool := decide (n2at zs 6 % 2 = 0) && decide (n2at zs 6 / 2 ≠ 0) && decide (16 + 8 * (n2at zs 6 / 2) ≤ n2at zs 2)
def sTold (zs : List Int) : Bool := decide ([n2at zs 8, n2at zs 10, n2at zs 12] = srL (sN zs))
def sCnt (zs : List Int) : Bool := sCnt0 zs && sTold zs

structure Sq where
  a : Int
  b : Int
  d : Int
  o : Int
def sqAt (zs : List Int) (n i : Nat) : Sq := ⟨n2at zs (16 + 2 * n + 2 * i), n2at zs (14 + 2 * i), n2at zs (16 + 4 * n + 2 * i), n2at zs (16 + 6 * n + 2 * i)⟩
def sLeast (zs : List Int) (i : Nat) : Int := if i = 0 then 0 else n2at zs (12 + 2 * i) + 1
def sOff (zs : List Int) (n i : Nat) (x : Sq) : Bool := decide (x.o = 0) || (decide (x.o % 2 = 0) && decide (16 + 6 * (n : Int) + 2 * i + x.o + 2 * (x.b - x.a) + 2 ≤ n2at zs 2))
def sOkAt (zs : List Int) (n i : Nat) : Bool := decide (sLeast zs i ≤ (sqAt zs n i).a) && decide ((sqAt zs n i).a ≤ (sqAt zs n i).b) && sOff zs n i (sqAt zs n i)
def sOkK (zs : List Int) (n k : Nat) : Bool := (List.range k).all (sOkAt zs n)
def sEnd (zs : List Int) (n : Nat) : Bool := decide (n2at zs (12 + 2 * n) = 65535) && decide (n2at zs (14 + 2 * n) = 0)
def sRight (zs : List Int) : Bool := sFront zs && sCnt zs && (sOkK zs (sN zs) (sN zs) && sEnd zs (sN zs))

theorem sOkK_succ (zs : List Int) (n k : Nat) : sOkK zs n (k + 1) = (sOkK zs n k && sOkAt zs n k) := by simp [sOkK, List.range_succ]
theorem sOkK_not {zs : List Int} {n k m : Nat} (h : k < m) (hk : sOkAt zs n k = false) : sOkK zs n m = false := by
  unfold sOkK
  rw [List.all_eq_false]
  exact ⟨k, List.mem_range.2 h, by simp [hk]⟩
theorem sOk_at {zs : List Int} {n m i : Nat} (h : sOkK zs n m = true) (hi : i < m) : sOkAt zs n i = true := by
  unfold sOkK at h
  rw [List.all_eq_true] at h
  exact h i (List.mem_range.2 hi)

/-- What segment i tells of a code. -/
def valS (zs : List Int) (n i : Nat) (code : Int) : Int :=
  if (sqAt zs n i).a ≤ code then
    if (sqAt zs n i).o = 0 then (code + (sqAt zs n i).d) % 65536
    else if n2at zs (16 + 6 * n + 2 * i + (sqAt zs n i).o.toNat + 2 * (code - (sqAt zs n i).a).toNat) = 0 then 0
    else (n2at zs (16 + 6 * n + 2 * i + (sqAt zs n i).o.toNat + 2 * (code - (sqAt zs n i).a).toNat) + (sqAt zs n i).d) % 65536
  else 0
/-- What the table tells, from segment i on. -/
def lookS (zs : List Int) (n : Nat) (code : Int) : Nat → Nat → Int
  | _, 0 => 0
  | i, f + 1 => if code ≤ n2at zs (14 + 2 * i) then valS zs n i code else lookS zs n code (i + 1) f
theorem lookS_skip (zs : List Int) (n : Nat) (code : Int) : ∀ (r i f : Nat), (∀ j, i ≤ j → j < i + r → n2at zs (14 + 2 * j) < code) → r ≤ f → lookS zs n code i f = lookS zs n code (i + r) (f - r)
  | 0, i, f, _, _ => rfl
  | r + 1, i, f, h, hr => by
    obtain ⟨f', rfl⟩ : ∃ f', f = f' + 1 := ⟨f - 1, by omega⟩
    have h0 := h i (Nat.le_refl _) (by omega)
    rw [lookS, if_neg (by omega), lookS_skip zs n code r (i + 1) f' (fun j h1 h2 => h j (by omega) (by omega)) (by omega)]
    rw [show i + 1 + r = i + (r + 1) by omega, show f' + 1 - (r + 1) = f' - r by omega]
theorem lookS_at {zs : List Int} {n : Nat} {code : Int} {r : Nat} (hr : r < n) (h : ∀ j, j < r → n2at zs (14 + 2 * j) < code) (h2 : code ≤ n2at zs (14 + 2 * r)) : lookS zs n code 0 n = valS zs n r code := by
  rw [lookS_skip zs n code r 0 n (fun j _ h1 => h j (by omega)) (by omega), Nat.zero_add]
  obtain ⟨f, hf⟩ : ∃ f, n - r = f + 1 := ⟨n - r - 1, by omega⟩
  rw [hf, lookS, if_pos h2]
theorem lookS_none {zs : List Int} {n : Nat} {code : Int} (h : ∀ j, j < n → n2at zs (14 + 2 * j) < code) : lookS zs n code 0 n = 0 := by
  rw [lookS_skip zs n code n 0 n (fun j _ h1 => h j (by omega)) (Nat.le_refl _), Nat.sub_self]
  rfl
theorem sEnds {zs : List Int} {n m : Nat} (h : sOkK zs n m = true) : ∀ {i : Nat}, i + 1 < m → n2at zs (14 + 2 * i) < n2at zs (14 + 2 * (i + 1)) := by
  intro i hi
  have := sOk_at h hi
  unfold sOkAt sLeast at this
  rw [Bool.and_eq_true, Bool.and_eq_true, decide_eq_true_eq, decide_eq_true_eq, if_neg (by omega), show 12 + 2 * (i + 1) = 14 + 2 * i by omega] at this
  have e : (sqAt zs n (i + 1)).b = n2at zs (14 + 2 * (i + 1)) := rfl
  omega
theorem sEnds_le {zs : List Int} {n m : Nat} (h : sOkK zs n m = true) {r : Nat} (hr : r < m) {code : Int} (hc : n2at zs (14 + 2 * r) < code) : ∀ j, j ≤ r → n2at zs (14 + 2 * j) < code := by
  induction r with
  | zero =>
    intro j hj
    obtain rfl : j = 0 := by omega
    exact hc
  | succ r ih =>
    intro j hj
    have := sEnds h hr
    rcases Nat.lt_or_ge j (r + 1) with h1 | h1
    · exact ih (by omega) (by omega) j (by omega)
    · obtain rfl : j = r + 1 := by omega
      exact hc

theorem valS_lt (zs : List Int) (n i : Nat) (code : Int) : 0 ≤ valS zs n i code ∧ valS zs n i code ≤ 65535 := by
  unfold valS
  split
  · split
    · omega
    · split <;> omega
  · omega
theorem lookS_lt (zs : List Int) (n : Nat) (code : Int) : ∀ (f i : Nat), 0 ≤ lookS zs n code i f ∧ lookS zs n code i f ≤ 65535
  | 0, _ => by simp [lookS]
  | f + 1, i => by
    rw [lookS]
    split
    · exact valS_lt _ _ _ _
    · exact lookS_lt zs n code f (i + 1)

/-- The numbers of a table. -/
def nums (zs : List Int) (m : Nat) : List Int := (List.range m).map fun i => n2at zs (2 * i)
theorem nums_len (zs : List Int) (m : Nat) : (nums zs m).length = m := by simp [nums]
theorem nums_get (zs : List Int) {m i : Nat} (h : i < m) : (nums zs m)[i]? = some (n2at zs (2 * i)) := by simp [nums, h]
theorem nums_succ (zs : List Int) (m : Nat) : nums zs (m + 1) = nums zs m ++ [n2at zs (2 * m)] := by simp [nums, List.range_succ]
theorem nums_set (zs : List Int) (m k : Nat) (h : k < m) : (nums zs k ++ List.replicate (m - k) 0).set k (n2at zs (2 * k)) = nums zs (k + 1) ++ List.replicate (m - (k + 1)) 0 := by
  rw [List.set_append_right _ _ (by rw [nums_len]; exact Nat.le_refl _), nums_len, Nat.sub_self, nums_succ, List.append_assoc, show m - k = (m - (k + 1)) + 1 by omega, List.replicate_succ]
  rfl

end Go.Proofs.YthkaeimpflggjaaDoor
