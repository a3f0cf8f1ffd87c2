/- What the laws of this seat lean on: GrpM SegM CmM Structs Grow Cells Prs RdQ Two Ints GrpP. -/
import Derived.ChangeSame
import Derived.Deep.Slices
import Derived.OwnWalk
import Derived.BigQuiet
import Derived.Shelf.SlSortCmp.QuietGrown
import Derived.ProofKit
import Derived.Laws.MakeOwn
import Derived.Lib.MinMax
import Derived.Test.YthkaeimpflggjaaDoorBase1

/- Tables of groups: plain lists. -/
namespace Go.Proofs.YthkaeimpflggjaaDoor
set_option linter.unusedVariables false

theorem told_takeG (zs : List Int) (M i m : Nat) (h : i + m ≤ M) : told ((zs.take M).drop i) m = told (zs.drop i) m := by
  unfold told
  rw [List.drop_take]
  simp only [List.length_take, List.length_drop, List.take_take]
  by_cases hl : m ≤ zs.length - i
  · rw [if_pos (by omega), if_pos hl, Nat.min_eq_left (by omega)]
  · rw [if_neg (by omega), if_neg hl]
theorem n2at_takeG (zs : List Int) (M i : Nat) (h : i + 2 ≤ M) : n2at (zs.take M) i = n2at zs i := by unfold n2at num; rw [told_takeG zs M i 2 h]
theorem n4at_takeG (zs : List Int) (M i : Nat) (h : i + 4 ≤ M) : n4at (zs.take M) i = n4at zs i := by unfold n4at num; rw [told_takeG zs M i 4 h]
theorem n2at_dropG (zs : List Int) (m i : Nat) : n2at (zs.drop m) i = n2at zs (m + i) := by unfold n2at; rw [List.drop_drop]
theorem n4at_dropG (zs : List Int) (m i : Nat) : n4at (zs.drop m) i = n4at zs (m + i) := by unfold n4at; rw [List.drop_drop]

def gN (zs : List Int) : Nat := (n4at zs 12).toNat
def gFront (zs : List Int) : Bool := decide (n2at zs 0 = 12) && decide (n2at zs 2 = 0) && decide (n4at zs 4 = 16 + 12 * n4at zs 12) && decide (n4at zs 4 ≤ zs.length)
def gAt (zs : List Int) (i : Nat) : Rn := ⟨n4at zs (16 + 12 * i), n4at zs (20 + 12 * i), n4at zs (24 + 12 * i)⟩
def gOne (x : Rn) : Bool := decide (x.a ≤ x.b ∧ x.b ≤ 1114111 ∧ x.g + (x.b - x.a) ≤ 65535)
/-- The least that a Start may be. -/
def gLeast (zs : List Int) (i : Nat) : Int := if i = 0 then 0 else n4at zs (8 + 12 * i) + 1
def gOkAt (zs : List Int) (i : Nat) : Bool := gOne (gAt zs i) && decide (gLeast zs i ≤ n4at zs (16 + 12 * i))
def gOkK (zs : List Int) (k : Nat) : Bool := (List.range k).all (gOkAt zs)
def grps (zs : List Int) (k : Nat) : List Rn := (List.range k).map (gAt zs)
def gRight (zs : List Int) : Bool := gFront zs && gOkK zs (gN zs)

theorem gOkK_succ (zs : List Int) (k : Nat) : gOkK zs (k + 1) = (gOkK zs k && gOkAt zs k) := by simp [gOkK, List.range_succ]
theorem gOkK_not {zs : List Int} {k n : Nat} (h : k < n) (hk : gOkAt zs k = false) : gOkK zs n = false := by
  unfold gOkK
  rw [List.all_eq_false]
  exact ⟨k, List.mem_range.2 h, by simp [hk]⟩
theorem grps_len (zs : List Int) (k : Nat) : (grps zs k).length = k := by simp [grps]
theorem grps_succ (zs : List Int) (k : Nat) : grps zs (k + 1) = grps zs k ++ [gAt zs k] := by simp [grps, List.range_succ]
theorem grps_set (zs : List Int) (n k : Nat) (z : Rn) (h : k < n) : (grps zs k ++ List.replicate (n - k) z).set k (gAt zs k) = grps zs (k + 1) ++ List.replicate (n - (k + 1)) z := by
  rw [List.set_append_right _ _ (by rw [grps_len]; exact Nat.le_refl _), grps_len, Nat.sub_self, grps_succ, List.append_assoc, show n - k = (n - (k + 1)) + 1 by omega, List.replicate_succ]
  rfl
theorem grps_get (zs : List Int) (n i : Nat) (x : Rn) (h : (grps zs n)[i]? = some x) : i < n ∧ x = gAt zs i := by
  obtain ⟨h1, h2⟩ := List.getElem?_eq_some_iff.1 h
  simp [grps] at h1 h2
  exact ⟨h1, h2.symm⟩
theorem gRight_front {zs : List Int} (h : gFront zs = false) : gRight zs = false := by unfold gRight; rw [h]; rfl
theorem gRight_is {zs : List Int} (h : gFront zs = true) : gRight zs = gOkK zs (gN zs) := by unfold gRight; rw [h]; rfl

theorem rnOK_of (most : Int) : ∀ (l : List Rn) (ah : Int), (∀ x : Rn, l[0]? = some x → ah < x.a) → (∀ (i : Nat) (x : Rn), l[i]? = some x → x.a ≤ x.b ∧ x.b ≤ most) → (∀ (i : Nat) (x y : Rn), l[i]? = some x → l[i + 1]? = some y → x.b < y.a) → rnOK most ah l
  | [], _, _, _, _ => trivial
  | x :: r, ah, h0, h1, h2 => by
    have hx := h1 0 x rfl
    refine ⟨h0 x rfl, hx.1, hx.2, rnOK_of most r x.b (fun y hy => h2 0 x y rfl (by simpa using hy)) (fun i y hy => h1 (i + 1) y (by simpa using hy)) (fun i y z hy hz => h2 (i + 1) y z (by simpa using hy) (by simpa using hz))⟩

theorem gOk_at {zs : List Int} {n i : Nat} (h : gOkK zs n = true) (hi : i < n) : gOkAt zs i = true := by
  unfold gOkK at h
  rw [List.all_eq_true] at h
  exact h i (List.mem_range.2 hi)

theorem grps_ok {zs : List Int} {n : Nat} (hB : Bytes zs) (h : gOkK zs n = true) : rnOK 1114111 (-1) (grps zs n) := by
  refine rnOK_of _ _ _ (fun x hx => ?_) (fun i x hx => ?_) (fun i x y hx hy => ?_)
  · obtain ⟨_, rfl⟩ := grps_get _ _ _ _ hx
    have := n4at_lt hB (16 + 12 * 0)
    show -1 < n4at zs _
    omega
  · obtain ⟨hi, rfl⟩ := grps_get _ _ _ _ hx
    have := gOk_at h hi
    simp [gOkAt, gOne] at this
    exact ⟨this.1.1, this.1.2.1⟩
  · obtain ⟨_, rfl⟩ := grps_get _ _ _ _ hx
    obtain ⟨hi, rfl⟩ := grps_get _ _ _ _ hy
    have := gOk_at h hi
    simp [gOkAt, gLeast] at this
    show n4at zs _ < n4at zs _
    rw [show 8 + 12 * (i + 1) = 20 + 12 * i by omega] at this
    omega

theorem grps_fit {zs : List Int} {n : Nat} (hB : Bytes zs) (h : gOkK zs n = true) : ∀ x ∈ grps zs n, 0 ≤ x.a ∧ x.b ≤ 1114111 ∧ 0 ≤ x.g ∧ x.a ≤ x.b ∧ x.g + (x.b - x.a) ≤ 65535 := by
  intro x hx
  obtain ⟨i, hi⟩ := List.mem_iff_getElem?.1 hx
  obtain ⟨hl, rfl⟩ := grps_get _ _ _ _ hi
  have := gOk_at h hl
  simp [gOkAt, gOne] at this
  have h1 := n4at_lt hB (16 + 12 * i)
  have h2 := n4at_lt hB (24 + 12 * i)
  simp only [gAt] at this ⊢
  omega

/-- What the document's Look finds: the first group that has the code. -/
def findG (code : Int) : List Rn → Int
  | [] => 0
  | x :: r => if x.a ≤ code ∧ code ≤ x.b then x.g + (code - x.a) else findG code r

theorem findG_past {most code : Int} : ∀ (l : List Rn) (ah : Int), rnOK most ah l → code ≤ ah → findG code l = 0
  | [], _, _, _ => rfl
  | x :: r, ah, h, hc => by
    obtain ⟨h1, h2, h3, h4⟩ := h
    rw [findG, if_neg (by omega)]
    exact findG_past r x.b h4 (by omega)

theorem findG_look {most code : Int} : ∀ (l : List Rn) (ah : Int), rnOK most ah l → (∀ x ∈ l, 0 ≤ x.g ∧ x.g + (x.b - x.a) ≤ 65535) → findG code l = lookR l code
  | [], _, _, _ => rfl
  | x :: r, ah, h, hg => by
    obtain ⟨h1, h2, h3, h4⟩ := h
    have hx := hg x (by simp)
    have ih := findG_look (code := code) r x.b h4 (fun y hy => hg y (by simp [hy]))
    rw [findG]
    unfold lookR
    rw [findR]
    by_cases hb : code ≤ x.b
    · rw [if_pos hb]
      simp only
      by_cases ha : x.a ≤ code
      · rw [if_pos ⟨ha, hb⟩, if_pos ha]; omega
      · rw [if_neg (by omega), if_neg ha]; exact findG_past r x.b h4 (by omega)
    · rw [if_neg (by omega), if_neg hb, ih]
      rfl

/-- By places: which run the search has found. -/
theorem findR_at {most code : Int} : ∀ (l : List Rn) (ah : Int) (r : Nat), rnOK most ah l → (0 < r → ∀ y, l[r - 1]? = some y → y.b < code) → (∀ y, l[r]? = some y → code ≤ y.b) → r ≤ l.length → findR code l = l[r]?
  | [], _, r, _, _, _, hr => by
    have : r = 0 := by simpa using hr
    subst this; rfl
  | x :: t, ah, 0, h, h1, h2, hr => by
    rw [findR, if_pos (h2 x rfl)]
    rfl
  | x :: t, ah, r + 1, h, h1, h2, hr => by
    obtain ⟨o1, o2, o3, o4⟩ := h
    have low : ∀ (t : List Rn) (b : Int) (i : Nat) (y : Rn), rnOK most b t → t[i]? = some y → b < y.b := by
      intro t
      induction t with
      | nil => intro b i y _ hy; simp at hy
      | cons z t ih =>
        intro b i y ho hy
        obtain ⟨p1, p2, p3, p4⟩ := ho
        cases i with
        | zero => simp at hy; subst hy; omega
        | succ i => have := ih z.b i y p4 (by simpa using hy); omega
    have hx : ¬ code ≤ x.b := by
      cases r with
      | zero => have := h1 (by omega) x rfl; omega
      | succ r =>
        have hl : r < t.length := by simp at hr; omega
        have hy : (x :: t)[r + 1 + 1 - 1]? = some (t[r]) := by simp [hl]
        have := h1 (by omega) _ hy
        have := low t x.b r _ o4 (List.getElem?_eq_getElem hl)
        omega
    rw [findR, if_neg hx]
    have ih := findR_at t x.b r o4 (fun h0 y hy => h1 (by omega) y (by rw [Nat.add_sub_cancel]; cases r with | zero => omega | succ r => simpa using hy)) (fun y hy => h2 y (by simpa using hy)) (by simpa using hr)
    rw [ih]
    simp

end Go.Proofs.YthkaeimpflggjaaDoor

/- Tables of segments: plain lists. -/
namespace Go.Proofs.YthkaeimpflggjaaDoor
set_option linter.unusedVariables false

def expoS (n : Nat) : Nat := n.log2
theorem expoS_spec (n : Nat) (h0 : 1 ≤ n) : 2 ^ expoS n ≤ n ∧ n < 2 ^ (expoS n + 1) := ⟨Nat.log2_self_le (by omega), Nat.lt_log2_self⟩
theorem expoS_uniq (n e : Nat) (h0 : 1 ≤ n) (h2 : 2 ^ e ≤ n) (h3 : n < 2 ^ (e + 1)) : e = expoS n := by
  obtain ⟨h4, h5⟩ := expoS_spec n h0
  rcases Nat.lt_trichotomy e (expoS n) with h | h | h
  · have : 2 ^ (e + 1) ≤ 2 ^ expoS n := Nat.pow_le_pow_right (by omega) (by omega)
    omega
  · exact h
  · have : 2 ^ (expoS n + 1) ≤ 2 ^ e := Nat.pow_le_pow_right (by omega) (by omega)
    omega
theorem expoS_lt (n : Nat) (h0 : 1 ≤ n) (h1 : n < 32768) : expoS n < 15 := by
  obtain ⟨h4, _⟩ := expoS_spec n h0
  rcases Nat.lt_or_ge (expoS n) 15 with h | h
  · exact h
  · have : 2 ^ 15 ≤ 2 ^ expoS n := Nat.pow_le_pow_right (by omega) h
    omega

/-- The three numbers for those who look up by halves. -/
def srL (n : Nat) : List Int := [2 * (2 ^ expoS n : Nat), (expoS n : Int), 2 * (n : Int) - 2 * (2 ^ expoS n : Nat)]

def sN (zs : List Int) : Nat := (n2at zs 6 / 2).toNat
def sFront (zs : List Int) : Bool := decide (n2at zs 0 = 4) && decide (24 ≤ n2at zs 2) && decide (n2at zs 2 ≤ zs.length) && decide (n2at zs 2 % 2 = 0)
def sCnt0 (zs : List Int) : Bool := decide (n2at zs 6 % 2 = 0) && decide (n2at zs 6 / 2 ≠ 0) && decide (16 + 8 * (n2at zs 6 / 2) ≤ n2at zs 2)
def sTold (zs : List Int) : Bool := decide ([n2at zs 8, n2at zs 10, n2at zs 12] = srL (sN zs))
def sCnt (zs : List Int) : Bool := sCnt0 zs && sTold zs

structure Sq where
  a : Int
  b : Int
  d : Int
  o : Int
def sqAt (zs : List Int) (n i : Nat) : Sq := ⟨n2at zs (16 + 2 * n + 2 * i), n2at zs (14 + 2 * i), n2at zs (16 + 4 * n + 2 * i), n2at zs (16 + 6 * n + 2 * i)⟩
def sLeast (zs : List Int) (i : Nat) : Int := if i = 0 then 0 else n2at zs (12 + 2 * i) + 1
def sOff (zs : List Int) (n i : Nat) (x : Sq) : Bool := decide (x.o = 0) || (decide (x.o % 2 = 0) && decide (16 + 6 * (n : Int) + 2 * i + x.o + 2 * (x.b - x.a) + 2 ≤ n2at zs 2))
def sOkAt (zs : List Int) (n i : Nat) : Bool := decide (sLeast zs i ≤ (sqAt zs n i).a) && decide ((sqAt zs n i).a ≤ (sqAt zs n i).b) && sOff zs n i (sqAt zs n i)
def sOkK (zs : List Int) (n k : Nat) : Bool := (List.range k).all (sOkAt zs n)
def sEnd (zs : List Int) (n : Nat) : Bool := decide (n2at zs (12 + 2 * n) = 65535) && decide (n2at zs (14 + 2 * n) = 0)
def sRight (zs : List Int) : Bool := sFront zs && sCnt zs && (sOkK zs (sN zs) (sN zs) && sEnd zs (sN zs))

theorem sOkK_succ (zs : List Int) (n k : Nat) : sOkK zs n (k + 1) = (sOkK zs n k && sOkAt zs n k) := by simp [sOkK, List.range_succ]
theorem sOkK_not {zs : List Int} {n k m : Nat} (h : k < m) (hk : sOkAt zs n k = false) : sOkK zs n m = false := by
  unfold sOkK
  rw [List.all_eq_false]
  exact ⟨k, List.mem_range.2 h, by simp [hk]⟩
theorem sOk_at {zs : List Int} {n m i : Nat} (h : sOkK zs n m = true) (hi : i < m) : sOkAt zs n i = true := by
  unfold sOkK at h
  rw [List.all_eq_true] at h
  exact h i (List.mem_range.2 hi)

/-- What segment i tells of a code. -/
def valS (zs : List Int) (n i : Nat) (code : Int) : Int :=
  if (sqAt zs n i).a ≤ code then
    if (sqAt zs n i).o = 0 then (code + (sqAt zs n i).d) % 65536
    else if n2at zs (16 + 6 * n + 2 * i + (sqAt zs n i).o.toNat + 2 * (code - (sqAt zs n i).a).toNat) = 0 then 0
    else (n2at zs (16 + 6 * n + 2 * i + (sqAt zs n i).o.toNat + 2 * (code - (sqAt zs n i).a).toNat) + (sqAt zs n i).d) % 65536
  else 0
/-- What the table tells, from segment i on. -/
def lookS (zs : List Int) (n : Nat) (code : Int) : Nat → Nat → Int
  | _, 0 => 0
  | i, f + 1 => if code ≤ n2at zs (14 + 2 * i) then valS zs n i code else lookS zs n code (i + 1) f
theorem lookS_skip (zs : List Int) (n : Nat) (code : Int) : ∀ (r i f : Nat), (∀ j, i ≤ j → j < i + r → n2at zs (14 + 2 * j) < code) → r ≤ f → lookS zs n code i f = lookS zs n code (i + r) (f - r)
  | 0, i, f, _, _ => rfl
  | r + 1, i, f, h, hr => by
    obtain ⟨f', rfl⟩ : ∃ f', f = f' + 1 := ⟨f - 1, by omega⟩
    have h0 := h i (Nat.le_refl _) (by omega)
    rw [lookS, if_neg (by omega), lookS_skip zs n code r (i + 1) f' (fun j h1 h2 => h j (by omega) (by omega)) (by omega)]
    rw [show i + 1 + r = i + (r + 1) by omega, show f' + 1 - (r + 1) = f' - r by omega]
theorem lookS_at {zs : List Int} {n : Nat} {code : Int} {r : Nat} (hr : r < n) (h : ∀ j, j < r → n2at zs (14 + 2 * j) < code) (h2 : code ≤ n2at zs (14 + 2 * r)) : lookS zs n code 0 n = valS zs n r code := by
  rw [lookS_skip zs n code r 0 n (fun j _ h1 => h j (by omega)) (by omega), Nat.zero_add]
  obtain ⟨f, hf⟩ : ∃ f, n - r = f + 1 := ⟨n - r - 1, by omega⟩
  rw [hf, lookS, if_pos h2]
theorem lookS_none {zs : List Int} {n : Nat} {code : Int} (h : ∀ j, j < n → n2at zs (14 + 2 * j) < code) : lookS zs n code 0 n = 0 := by
  rw [lookS_skip zs n code n 0 n (fun j _ h1 => h j (by omega)) (Nat.le_refl _), Nat.sub_self]
  rfl
theorem sEnds {zs : List Int} {n m : Nat} (h : sOkK zs n m = true) : ∀ {i : Nat}, i + 1 < m → n2at zs (14 + 2 * i) < n2at zs (14 + 2 * (i + 1)) := by
  intro i hi
  have := sOk_at h hi
  unfold sOkAt sLeast at this
  rw [Bool.and_eq_true, Bool.and_eq_true, decide_eq_true_eq, decide_eq_true_eq, if_neg (by omega), show 12 + 2 * (i + 1) = 14 + 2 * i by omega] at this
  have e : (sqAt zs n (i + 1)).b = n2at zs (14 + 2 * (i + 1)) := rfl
  omega
theorem sEnds_le {zs : List Int} {n m : Nat} (h : sOkK zs n m = true) {r : Nat} (hr : r < m) {code : Int} (hc : n2at zs (14 + 2 * r) < code) : ∀ j, j ≤ r → n2at zs (14 + 2 * j) < code := by
  induction r with
  | zero =>
    intro j hj
    obtain rfl : j = 0 := by omega
    exact hc
  | succ r ih =>
    intro j hj
    have := sEnds h hr
    rcases Nat.lt_or_ge j (r + 1) with h1 | h1
    · exact ih (by omega) (by omega) j (by omega)
    · obtain rfl : j = r + 1 := by omega
      exact hc

theorem valS_lt (zs : List Int) (n i : Nat) (code : Int) : 0 ≤ valS zs n i code ∧ valS zs n i code ≤ 65535 := by
  unfold valS
  split
  · split
    · omega
    · split <;> omega
  · omega
theorem lookS_lt (zs : List Int) (n : Nat) (code : Int) : ∀ (f i : Nat), 0 ≤ lookS zs n code i f ∧ lookS zs n code i f ≤ 65535
  | 0, _ => by simp [lookS]
  | f + 1, i => by
    rw [lookS]
    split
    · exact valS_lt _ _ _ _
    · exact lookS_lt zs n code f (i + 1)

/-- The numbers of a table. -/
def nums (zs : List Int) (m : Nat) : List Int := (List.range m).map fun i => n2at zs (2 * i)
theorem nums_len (zs : List Int) (m : Nat) : (nums zs m).length = m := by simp [nums]
theorem nums_get (zs : List Int) {m i : Nat} (h : i < m) : (nums zs m)[i]? = some (n2at zs (2 * i)) := by simp [nums, h]
theorem nums_succ (zs : List Int) (m : Nat) : nums zs (m + 1) = nums zs m ++ [n2at zs (2 * m)] := by simp [nums, List.range_succ]
theorem nums_set (zs : List Int) (m k : Nat) (h : k < m) : (nums zs k ++ List.replicate (m - k) 0).set k (n2at zs (2 * k)) = nums zs (k + 1) ++ List.replicate (m - (k + 1)) 0 := by
  rw [List.set_append_right _ _ (by rw [nums_len]; exact Nat.le_refl _), nums_len, Nat.sub_self, nums_succ, List.append_assoc, show m - k = (m - (k + 1)) + 1 by omega, List.replicate_succ]
  rfl

end Go.Proofs.YthkaeimpflggjaaDoor

/- The table cmap: plain lists. -/
namespace Go.Proofs.YthkaeimpflggjaaDoor
set_option linter.unusedVariables false

def cN (zs : List Int) : Nat := (n2at zs 2).toNat
def cFront (zs : List Int) : Bool := decide (4 ≤ zs.length) && decide (n2at zs 0 = 0) && decide (4 + 8 * cN zs ≤ zs.length)
/-- Is record i one of this platform and encoding? -/
def cIs (zs : List Int) (a b : Int) (i : Nat) : Bool := decide (n2at zs (4 + 8 * i) = a ∧ n2at zs (6 + 8 * i) = b)
def cVal (zs : List Int) (i : Nat) : Int := n4at zs (8 + 8 * i)
/-- Where the first one's table begins, of the first k records. -/
def cFst (zs : List Int) (a b : Int) : Nat → Option Int
  | 0 => none
  | k + 1 => match cFst zs a b k with
    | some v => some v
    | none => if cIs zs a b k then some (cVal zs k) else none
theorem cFst_step {zs : List Int} {a b : Int} {k : Nat} {v : Int} (h : cFst zs a b k = some v) : cFst zs a b (k + 1) = some v := by rw [cFst, h]
theorem cFst_new {zs : List Int} {a b : Int} {k : Nat} (h : cFst zs a b k = none) (hi : cIs zs a b k = true) : cFst zs a b (k + 1) = some (cVal zs k) := by rw [cFst, h, hi]; rfl
theorem cFst_other {zs : List Int} {a b : Int} {k : Nat} (hi : cIs zs a b k = false) : cFst zs a b (k + 1) = cFst zs a b k := by
  rw [cFst, hi]
  cases cFst zs a b k <;> rfl
theorem cFst_keep {zs : List Int} {a b : Int} {k : Nat} {v : Int} (h : cFst zs a b k = some v) : ∀ m : Nat, cFst zs a b (k + m) = some v
  | 0 => h
  | m + 1 => cFst_step (cFst_keep h m)
theorem cFst_none {zs : List Int} {a b : Int} : ∀ {k : Nat}, cFst zs a b k = none → ∀ i, i < k → cIs zs a b i = false
  | k + 1, h, i, hi => by
    rw [cFst] at h
    cases hk : cFst zs a b k with
    | some v => rw [hk] at h; cases h
    | none =>
      rw [hk] at h
      simp only at h
      rcases Nat.lt_or_ge i k with h1 | h1
      · exact cFst_none hk i h1
      · obtain rfl : i = k := by omega
        cases hc : cIs zs a b i with
        | false => rfl
        | true => rw [hc] at h; cases h
theorem cFst_of_none {zs : List Int} {a b : Int} : ∀ {k : Nat}, (∀ i, i < k → cIs zs a b i = false) → cFst zs a b k = none
  | 0, _ => rfl
  | k + 1, h => by rw [cFst_other (h k (by omega)), cFst_of_none (fun i hi => h i (by omega))]
theorem cFst_at {zs : List Int} {a b : Int} {i n : Nat} (hn : i < n) (h : ∀ j, j < i → cIs zs a b j = false) (hi : cIs zs a b i = true) : cFst zs a b n = some (cVal zs i) := by
  have := cFst_keep (cFst_new (cFst_of_none h) hi) (n - (i + 1))
  rwa [show i + 1 + (n - (i + 1)) = n by omega] at this

/-- Which record counts: is it wide, where does its table begin. -/
def cPick (zs : List Int) : Option (Bool × Int) :=
  match cFst zs 3 10 (cN zs) with
  | some v => some (true, v)
  | none => match cFst zs 0 4 (cN zs) with
    | some v => some (true, v)
    | none => match cFst zs 3 1 (cN zs) with
      | some v => some (false, v)
      | none => match cFst zs 0 3 (cN zs) with
        | some v => some (false, v)
        | none => none
/-- The table that counts, if it is one. -/
def cOk (zs : List Int) (wd : Bool) (v : Int) : Bool := decide (v ≤ zs.length) && (if wd then gRight (zs.drop v.toNat) else sRight (zs.drop v.toNat))
def cFind (zs : List Int) : Option (Bool × Nat) :=
  if cFront zs then match cPick zs with
    | some (wd, v) => if cOk zs wd v then some (wd, v.toNat) else none
    | none => none
  else none

/-- The numbers of records that were cut out. -/
theorem n2at_part {zs : List Int} {a m i : Nat} (h : i + 2 ≤ m) : n2at ((zs.take (a + m)).drop a) i = n2at zs (a + i) := by
  rw [show a + i = i + a by omega]
  rw [← n2at_takeG zs (a + m) (i + a) (by omega)]
  unfold n2at
  rw [List.drop_drop, Nat.add_comm a i]
theorem n4at_part {zs : List Int} {a m i : Nat} (h : i + 4 ≤ m) : n4at ((zs.take (a + m)).drop a) i = n4at zs (a + i) := by
  rw [show a + i = i + a by omega]
  rw [← n4at_takeG zs (a + m) (i + a) (by omega)]
  unfold n4at
  rw [List.drop_drop, Nat.add_comm a i]

end Go.Proofs.YthkaeimpflggjaaDoor

/- Words for slices of structs: rows of elements of k cells, fresh ones, what appends and stores leave, and what comes in. -/
namespace Go.Proofs.YthkaeimpflggjaaDoor
open Go.RowKit Go.ChangeShapes Go.WideShapes
set_option linter.unusedVariables false

/-- The cells of all elements, one behind the other. -/
def flat {α : Type} (enc : α → List Value) (l : List α) : List Value := l.flatMap enc

section
variable {α : Type} {enc : α → List Value} {k : Nat} (hk : ∀ x, (enc x).length = k)
include hk
theorem flat_length (l : List α) : (flat enc l).length = l.length * k := by
  unfold flat
  induction l with
  | nil => simp
  | cons x l ih => rw [List.flatMap_cons, List.length_append, ih, hk, List.length_cons, Nat.succ_mul]; omega
theorem flat_get {l : List α} {j : Nat} {x : α} (h : l[j]? = some x) {i : Nat} (hi : i < k) : (flat enc l)[j * k + i]? = (enc x)[i]? := by
  induction l generalizing j with
  | nil => simp at h
  | cons y l ih =>
    unfold flat at *
    rw [List.flatMap_cons]
    cases j with
    | zero =>
      simp at h
      subst h
      rw [Nat.zero_mul, Nat.zero_add, List.getElem?_append_left (by rw [hk]; exact hi)]
    | succ j =>
      rw [List.getElem?_append_right (by rw [hk, Nat.succ_mul]; omega), hk, Nat.succ_mul, show j * k + k + i - k = j * k + i by omega]
      exact ih (by simpa using h)
theorem flat_take (l : List α) (n : Nat) : (flat enc l).take (n * k) = flat enc (l.take n) := by
  induction l generalizing n with
  | nil => simp [flat]
  | cons y l ih =>
    cases n with
    | zero => simp [flat]
    | succ n =>
      unfold flat at *
      rw [List.flatMap_cons, List.take_succ_cons, List.flatMap_cons, List.take_append, hk, List.take_of_length_le (by rw [hk, Nat.succ_mul]; omega), Nat.succ_mul, show n * k + k - k = n * k by omega, ih]
theorem flat_drop (l : List α) (n : Nat) : (flat enc l).drop (n * k) = flat enc (l.drop n) := by
  induction l generalizing n with
  | nil => simp [flat]
  | cons y l ih =>
    cases n with
    | zero => simp [flat]
    | succ n =>
      unfold flat at *
      rw [List.flatMap_cons, List.drop_succ_cons, List.drop_append, hk, List.drop_of_length_le (by rw [hk, Nat.succ_mul]; omega), List.nil_append, Nat.succ_mul, show n * k + k - k = n * k by omega, ih]
end
theorem flat_append {α : Type} (enc : α → List Value) (a b : List α) : flat enc a ++ flat enc b = flat enc (a ++ b) := by simp [flat]
theorem flat_nil {α : Type} (enc : α → List Value) : flat enc ([] : List α) = [] := rfl
theorem flat_one {α : Type} (enc : α → List Value) (x : α) : flat enc [x] = enc x := by simp [flat]

/-- A slice of n elements of k cells each, that begins at A, shows the elements l. -/
def RowS {α : Type} (enc : α → List Value) (k : Nat) (w : World) (A : Option Addr) (n : Nat) (l : List α) : Prop := l.length = n ∧ Row w A (n * k) (flat enc l)

section
variable {α : Type} {enc : α → List Value} {k : Nat} {w w' : World} {A : Option Addr} {n : Nat} {l : List α}
theorem RowS.len (h : RowS enc k w A n l) : l.length = n := h.1
theorem RowS.empty (w : World) (A : Option Addr) : RowS enc k w A 0 [] := ⟨rfl, by rw [Nat.zero_mul]; exact Row.empty w A⟩
theorem RowS.below (h : RowS enc k w A n l) (hb : Below w.heap.size w w') : RowS enc k w' A n l := ⟨h.1, h.2.below hb⟩
theorem RowS.drewN (h : RowS enc k w A n l) (q : Nat) : RowS enc k (w.drewN q) A n l := h
theorem RowS.drew (h : RowS enc k w A n l) : RowS enc k w.drew A n l := h
theorem RowS.grown {row : Option Nat} (h : RowS enc k w A n l) (hb : w.grownBy w' row) (hne : ∀ g, blockOf A = some g → some g ≠ row) : RowS enc k w' A n l := ⟨h.1, h.2.grown hb hne⟩
theorem RowS.keep (h : RowS enc k w A n l) (hs : w.heap.size ≤ w'.heap.size) (hk : ∀ g, blockOf A = some g → g < w.heap.size → w'.heap[g]? = w.heap[g]?) : RowS enc k w' A n l := ⟨h.1, h.2.keep hs hk⟩
theorem RowS.take (hk : ∀ x, (enc x).length = k) (h : RowS enc k w A n l) {m : Nat} (hm : m ≤ n) : RowS enc k w A m (l.take m) :=
  ⟨by rw [List.length_take, h.1]; omega, by rw [← flat_take hk]; exact h.2.take (Nat.mul_le_mul_right k hm)⟩
/-- The cells of element j. -/
theorem RowS.at (hk : ∀ x, (enc x).length = k) (hk0 : 0 < k) (h : RowS enc k w A n l) {j : Nat} {x : α} (hj : l[j]? = some x) :
    ∃ g off, A = some ⟨g, off, none⟩ ∧ g < w.heap.size ∧ ∀ i u, (enc x)[i]? = some u → w.cell? ⟨g, off + j * k + i, none⟩ = some u := by
  have hl := (List.getElem?_eq_some_iff.1 hj).1
  have hn : 0 < n * k := Nat.mul_pos (by have := h.1; omega) hk0
  obtain ⟨g, off, e, hg, hc⟩ := h.2.2 hn
  refine ⟨g, off, e, hg, fun i u hu => ?_⟩
  rw [Nat.add_assoc]
  refine hc _ u ?_
  have hi : i < k := by have := (List.getElem?_eq_some_iff.1 hu).1; rw [hk] at this; exact this
  rw [flat_get hk hj hi]
  exact hu
end

/-- A slice of elements in memory that was made from block B on: nil, or at the head of a block of its own. -/
def OwnS {α : Type} (t : TypeId) (enc : α → List Value) (k : Nat) (w : World) (B : Nat) (A : Option Addr) (n c : Nat) (l : List α) : Prop := l.length = n ∧ w.ownsRow B t k (.slice A n c) n (flat enc l)

section
variable {α : Type} {t : TypeId} {enc : α → List Value} {k : Nat} {w w' : World} {B : Nat} {A : Option Addr} {n c : Nat} {l : List α}

theorem OwnS.len (h : OwnS t enc k w B A n c l) : l.length = n := h.1

theorem OwnS.shape (h : OwnS t enc k w B A n c l) :
    (A = none ∧ l = [] ∧ n = 0 ∧ c = 0) ∨ ∃ g cur, A = some ⟨g, 0, none⟩ ∧ B ≤ g ∧ g < w.heap.size ∧ w.heap[g]? = some (.cells cur t (0, 0)) ∧ n ≤ c ∧ c ≤ maxLen ∧ cur.size = c * k ∧ cur.toList.take (n * k) = flat enc l := by
  obtain ⟨hl, h⟩ := h
  rcases h.2 with ⟨e, h0⟩ | ⟨g, cap, cur, e, hB, hh, h1, h2, h3, h4⟩
  · injection e with e1 _ e3
    exact .inl ⟨e1, List.eq_nil_of_length_eq_zero (by omega), h0, e3⟩
  · injection e with e1 _ e3
    subst e1 e3
    exact .inr ⟨g, cur, rfl, hB, lt_of_block hh, hh, h1, h2, h3, h4⟩

theorem OwnS.nil (t : TypeId) (enc : α → List Value) (k : Nat) (w : World) (B : Nat) : OwnS t enc k w B none 0 0 [] := ⟨rfl, World.ownsRow_nil _ _ _ _⟩

theorem OwnS.cap (h : OwnS t enc k w B A n c l) : n ≤ c := by
  rcases h.shape with ⟨_, _, rfl, _⟩ | ⟨_, _, _, _, _, _, h1, _⟩
  · simp
  · exact h1

theorem OwnS.row (hk : ∀ x, (enc x).length = k) (h : OwnS t enc k w B A n c l) : RowS enc k w A n l := by
  refine ⟨h.1, by rw [flat_length hk, h.1], fun hn => ?_⟩
  rcases h.shape with ⟨_, _, rfl, _⟩ | ⟨g, cur, rfl, _, hg, hh, _, _, _, h4⟩
  · rw [Nat.zero_mul] at hn; omega
  · refine ⟨g, 0, rfl, hg, fun j u hu => ?_⟩
    rw [Nat.zero_add, cell_of_row w g j cur t (0, 0) hh]
    rw [← h4, List.getElem?_take] at hu
    split at hu
    · simpa using hu
    · cases hu

theorem OwnS.from_ (h : OwnS t enc k w B A n c l) : ∀ g, blockOf A = some g → B ≤ g ∧ g < w.heap.size := by
  intro g hg
  rcases h.shape with ⟨rfl, _⟩ | ⟨g', cur, rfl, h1, h2, _⟩
  · simp [blockOf] at hg
  · simp [blockOf] at hg
    subst hg
    exact ⟨h1, h2⟩

theorem OwnS.keep (h : OwnS t enc k w B A n c l) (hk : ∀ g, blockOf A = some g → w'.heap[g]? = w.heap[g]?) : OwnS t enc k w' B A n c l := by
  refine ⟨h.1, h.2.1, ?_⟩
  rcases h.2.2 with h2 | ⟨g, cap, cur, e, hB, hh, r⟩
  · exact .inl h2
  · refine .inr ⟨g, cap, cur, e, hB, ?_, r⟩
    injection e with e1
    rw [hk g (by rw [e1]; rfl)]
    exact hh

theorem OwnS.grown {row : Option Nat} (h : OwnS t enc k w B A n c l) (hb : w.grownBy w' row) (hne : ∀ g, blockOf A = some g → some g ≠ row) : OwnS t enc k w' B A n c l :=
  h.keep fun g e => hb.block g (h.from_ g e).2 (hne g e)
theorem OwnS.below (h : OwnS t enc k w B A n c l) (hb : Below w.heap.size w w') : OwnS t enc k w' B A n c l := h.keep fun g e => hb.block g (h.from_ g e).2
theorem OwnS.drewN (h : OwnS t enc k w B A n c l) (q : Nat) : OwnS t enc k (w.drewN q) B A n c l := h
theorem OwnS.drew (h : OwnS t enc k w B A n c l) : OwnS t enc k w.drew B A n c l := h
theorem OwnS.alloc (h : OwnS t enc k w B A n c l) (o : Obj) : OwnS t enc k (w.alloc o) B A n c l := h.below ((Below.refl _ _).alloc (Nat.le_refl _) o)
theorem OwnS.mono {B' : Nat} (h : OwnS t enc k w B A n c l) (hB : B' ≤ B) : OwnS t enc k w B' A n c l := by
  refine ⟨h.1, h.2.1, ?_⟩
  rcases h.2.2 with h2 | ⟨g, cap, cur, e, hg, r⟩
  · exact .inl h2
  · exact .inr ⟨g, cap, cur, e, by omega, r⟩

theorem ownS_shape {v : Value} (hl : l.length = n) (h : w.ownsRow B t k v n (flat enc l)) : ∃ A c, v = .slice A n c ∧ OwnS t enc k w B A n c l := by
  rcases h.2 with ⟨e, h0⟩ | ⟨g, cap, cur, e, r⟩
  · subst h0 e
    exact ⟨none, 0, rfl, hl, h⟩
  · subst e
    exact ⟨_, cap, rfl, hl, h⟩

/-- Fresh elements, written out. -/
theorem ownS_lit (w : World) (B : Nat) (t : TypeId) (enc : α → List Value) (k : Nat) (hk : ∀ x, (enc x).length = k) (l : List α) (cs : Array Value) (hcs : cs = (flat enc l).toArray) (n : Nat) (hn : l.length = n) (hB : B ≤ w.heap.size) (hm : n ≤ maxLen) : OwnS t enc k (w.alloc (.cells cs t)) B (some ⟨w.heap.size, 0, none⟩) n n l := by
  subst hcs
  have := World.ownsRow_lit (base := B) (e := t) (size := k) w (flat enc l).toArray n hB hm (by simp [flat_length hk]; rw [hn])
  exact ⟨hn, by simpa using this⟩

/-- A store of one cell into a fresh row. -/
theorem ownS_setCell {g : Nat} (h : OwnS t enc k w B (some ⟨g, 0, none⟩) n c l) {j : Nat} {u : Value} {l' : List α} (hl : l'.length = l.length) (hf : flat enc l' = (flat enc l).set j u) : OwnS t enc k (w.setCell ⟨g, j, none⟩ u) B (some ⟨g, 0, none⟩) n c l' := by
  rcases h.shape with ⟨e, _⟩ | ⟨g', cur, e, hB, hg, hh, h1, h2, h3, h4⟩
  · cases e
  · simp only [Option.some.injEq, Addr.mk.injEq, and_true] at e
    subst e
    refine ⟨by rw [hl]; exact h.1, by rw [hf, List.length_set]; exact h.2.1, .inr ⟨g, c, cur.setIfInBounds j u, rfl, hB, ?_, h1, h2, by simpa using h3, ?_⟩⟩
    · simp [World.setCell, Array.getElem?_modify, hh]
    · rw [hf, ← h4]
      simp [List.take_set]
end

/-- What a call that answers fresh elements and turns nothing old leaves. -/
def RetS {α : Type} (t : TypeId) (enc : α → List Value) (k : Nat) (w : World) (l : List α) (e : Ending) (w' : World) : Prop := ∃ A n c, e = .returned (.slice A n c) ∧ OwnS t enc k w' w.heap.size A n c l ∧ Below w.heap.size w w'

/-- The run of an append of elements that are read onto a fresh slice: the source nil or not. -/
theorem run_append_rowS {P : Program} {α : Type} (w : World) (t : TypeId) (enc : α → List Value) (k : Nat) (hk : ∀ x, (enc x).length = k) (hk0 : 0 < k) (h1 : ∀ x, ∀ u ∈ enc x, u.oneCell' = true) (base T ty : Nat) (i : TypeInfo) (z : Value) (b : Nat) (ht : P.underlying T = some (.slice t)) (hi : P.info? t = some i) (hz : i.zero = some z) (hs : i.size = k) (hzs : z.cells.size = k) (hby : i.bytes = b)
    (A : Option Addr) (n c : Nat) (l : List α) (hown : OwnS t enc k w base A n c l) (A' : Option Addr) (n' c' : Nat) (l' : List α) (hr : RowS enc k w A' n' l')
    (hb : (n + n') * b ≤ 140737488355328) (hm : n + n' ≤ 140737488355328) (hbase : base ≤ w.heap.size) :
    ∃ A2 c2 w', (Builtin.append_ #[T, T] ty #[.slice A n c, .slice A' n' c']).run P w = .ok (.slice A2 (n + n') c2) w' ∧ OwnS t enc k w' base A2 (n + n') c2 (l ++ l') ∧ w.grownBy w' (blockOf A) := by
  have hbo : (Value.slice A n c).ownBlock = blockOf A := by
    rcases hown.shape with ⟨rfl, _⟩ | ⟨g, cur, rfl, _⟩ <;> rfl
  have hyl := hr.len
  by_cases hy : n' = 0
  · obtain rfl : l' = [] := List.eq_nil_of_length_eq_zero (by omega)
    subst hy
    refine ⟨A, c, w, ?_, by simpa using hown, World.grownBy.refl w _⟩
    rcases hown.shape with ⟨rfl, rfl, rfl, rfl⟩ | ⟨g, cur, rfl, _, _, _, hle, _⟩
    · cases A' <;> simp [Builtin.append_, run_underlying ht, sizeOf, typeInfo, hi, Builtin.lenOf, Builtin.firstCells, loadCells, loadCellsFrom]
    · cases A' <;> simp [Builtin.append_, run_underlying ht, sizeOf, typeInfo, hi, Builtin.lenOf, Builtin.firstCells, loadCells, loadCellsFrom, hle, storeCells]
  · obtain ⟨g, off, rfl, hg, hc⟩ := hr.2.2 (Nat.mul_pos (by omega) hk0)
    obtain ⟨v', w', hrun, h2, h3, _⟩ := run_append_own (P := P) w base T ty t i z k b ht hi hz hs hby hzs hk0 (.slice A n c) n (flat enc l) hown.2 ⟨g, off, none⟩ n' c' (flat enc l') (by rw [flat_length hk, hyl])
      (fun j u hu => by rw [Addr.add_lit]; exact hc j u hu) (fun u hu => by unfold flat at hu; obtain ⟨x, _, hx⟩ := List.mem_flatMap.1 hu; exact h1 x u hx) (by simp only [maxLen]; omega) hb hbase
    rw [flat_append] at h2
    obtain ⟨A2, c2, rfl, h2'⟩ := ownS_shape (by rw [List.length_append, hown.len, hyl]) h2
    exact ⟨A2, c2, w', hrun, h2', by rw [← hbo]; exact h3⟩

/-- The same at an operation of the walk. -/
theorem wpList_append_rowS {P : Program} {α : Type} {w : World} {ops : Array Oper} {rest : List Oper} {o : Oper} {a : Act} {Q : Exit → Act → World → Prop} (hgd : o.guard = none) (s x : Operand) (T : TypeId)
    (ho : o.op = .call { callee := .builtin .append, args := #[s, x], argTypes := #[T, T] }) (t : TypeId) (enc : α → List Value) (k : Nat) (hk : ∀ x, (enc x).length = k) (hk0 : 0 < k) (h1 : ∀ x, ∀ u ∈ enc x, u.oneCell' = true)
    (base : Nat) (i : TypeInfo) (z : Value) (b : Nat) (ht : P.underlying T = some (.slice t)) (hi : P.info? t = some i) (hz : i.zero = some z) (hs : i.size = k) (hzs : z.cells.size = k) (hby : i.bytes = b)
    (A : Option Addr) (n c : Nat) (l : List α) (hes : a.eval s = .slice A n c) (hown : OwnS t enc k w base A n c l) (A' : Option Addr) (n' c' : Nat) (l' : List α) (hex : a.eval x = .slice A' n' c') (hr : RowS enc k w A' n' l')
    (hb : (n + n') * b ≤ 140737488355328) (hm : n + n' ≤ 140737488355328) (hbase : base ≤ w.heap.size)
    (h : ∀ A2 c2 w', OwnS t enc k w' base A2 (n + n') c2 (l ++ l') → w.grownBy w' (blockOf A) → wpList P ops Q rest (a.put o.dst (.slice A2 (n + n') c2)) w') : wpList P ops Q (o :: rest) a w := by
  refine wpList_plain hgd fun _ hK => ?_
  obtain ⟨A2, c2, w', hrun, h2, h3⟩ := run_append_rowS (P := P) w t enc k hk hk0 h1 base T o.type i z b ht hi hz hs hzs hby A n c l hown A' n' c' l' hr hb hm hbase
  unfold Oper.wp execOp
  simp only [ho, resolve, invoke, builtin, Sem.run_bind, Sem.run_pure, Result.andThen_ok, List.map_toArray, List.map_cons, List.map_nil, hes, hex, hrun]
  exact hK _ _ (h A2 c2 w' h2 h3)

/-- Elements written out in a block of their own. -/
theorem rowS_vals {α : Type} {enc : α → List Value} {k : Nat} (hk : ∀ x, (enc x).length = k) (w : World) (t : TypeId) (l : List α) (cs : Array Value) (hcs : cs = (flat enc l).toArray) (n : Nat) (hn : l.length = n) : RowS enc k (w.alloc (.cells cs t)) (some ⟨w.heap.size, 0, none⟩) n l := by
  subst hcs
  refine ⟨hn, by rw [flat_length hk, hn], fun _ => ⟨w.heap.size, 0, rfl, by simp, fun j u hu => ?_⟩⟩
  rw [Nat.zero_add, cell_of_row _ _ j _ t (0, 0) (heap_alloc_new w _)]
  simpa using hu

/-- A list out of its elements. -/
theorem list_of {α : Type} {p : Nat → α → Prop} (n : Nat) (h : ∀ i, i < n → ∃ x, p i x) : ∃ l : List α, l.length = n ∧ ∀ i x, l[i]? = some x → p i x := by
  induction n with
  | zero => exact ⟨[], rfl, fun i x hx => by simp at hx⟩
  | succ n ih =>
    obtain ⟨l, hl, hp⟩ := ih fun i hi => h i (by omega)
    obtain ⟨x, hx⟩ := h n (by omega)
    refine ⟨l ++ [x], by simp [hl], fun i y hy => ?_⟩
    rw [List.getElem?_append] at hy
    split at hy
    · exact hp i y hy
    · rename_i hi
      have : i - l.length = 0 := by
        rcases Nat.eq_zero_or_pos (i - l.length) with h0 | h0
        · exact h0
        · rw [List.getElem?_eq_none (by simp; omega)] at hy; cases hy
      rw [this] at hy
      simp at hy
      subst hy
      rw [show i = n by omega]
      exact hx

/-- A slice that comes in: each element's cells, and how they read. -/
theorem open_sliceK {H : Type} {enc : TypeId × Value → H} {P : Program} {w : World} {t e : TypeId} {k : Nat} (ht : P.underlying t = some (.slice e)) (hk : P.cellsOf e = k) {a : Option Addr} {len cap : Nat} {d : DataW H} {p : List MemPlace}
    (h : DataW.Trod enc P w 0 (fun _ => true) true t (.slice a len cap) d p) :
    (a = none ∧ len = 0 ∧ cap = 0) ∨ ∃ x, a = some x ∧ len ≤ cap ∧ cap ≤ maxLen ∧ ∀ i, i < len → ∃ (cs : List Value) (m : Nat) (y : DataW H × List MemPlace), cs.length = k ∧ (∀ j, j < k → w.cell? (x.add (i * k + j)) = cs[j]?) ∧ DataW.trod enc P w 0 (fun _ => true) true m e cs = some y := by
  obtain ⟨fuel, hf⟩ := h
  rcases DataW.trod_slice ht hf with ⟨hcs, _⟩ | ⟨x, l, c, elems, rest, n, _, hcs, _, _, hl, hm, hel, hi, _, _⟩
  · simp [Value.cells] at hcs
    exact .inl ⟨hcs.1, hcs.2.1, hcs.2.2⟩
  · simp [Value.cells] at hcs
    obtain ⟨rfl, rfl, rfl⟩ := hcs
    refine .inr ⟨x, rfl, hl, hm, fun i hlt => ?_⟩
    have h1 := hi i hlt
    rw [hk] at h1
    rw [List.getElem?_eq_getElem (by omega)] at h1
    cases hc : w.cells? 0 (x.add (i * k)) k with
    | none => rw [hc] at h1; simp at h1
    | some cs =>
      rw [hc] at h1
      obtain ⟨_, hcl, hat⟩ := World.cells?_some hc
      exact ⟨cs, n, _, hcl, fun j hj => by rw [← Go.Deep.add_add]; exact hat j hj, h1⟩

/-- Such a slice, once each element is known, is a row. -/
theorem rowS_in {α : Type} {enc : α → List Value} {k : Nat} (hk : ∀ x, (enc x).length = k) {w : World} {x : Addr} {len : Nat} (l : List α) (hl : l.length = len) (hc : ∀ i y, l[i]? = some y → ∀ j u, (enc y)[j]? = some u → w.cell? (x.add (i * k + j)) = some u) : RowS enc k w (some x) len l := by
  refine ⟨hl, by rw [flat_length hk, hl], fun hn => ?_⟩
  have hk0 : 0 < k := Nat.pos_of_mul_pos_left hn
  have hl0 : 0 < len := Nat.pos_of_mul_pos_right hn
  have key : ∀ q u, (flat enc l)[q]? = some u → w.cell? (x.add q) = some u := by
    intro q u hu
    have hq := (List.getElem?_eq_some_iff.1 hu).1
    rw [flat_length hk] at hq
    have hqk : q / k < l.length := Nat.div_lt_of_lt_mul (by rw [Nat.mul_comm]; exact hq)
    have hy : l[q / k]? = some l[q / k] := List.getElem?_eq_getElem hqk
    have he : q / k * k + q % k = q := by rw [Nat.mul_comm]; exact Nat.div_add_mod q k
    have h2 := flat_get hk hy (Nat.mod_lt q hk0)
    rw [he] at h2
    have := hc _ _ hy (q % k) u (by rw [← h2]; exact hu)
    rwa [he] at this
  have h0 : ∃ u, (flat enc l)[0]? = some u := ⟨_, List.getElem?_eq_getElem (by rw [flat_length hk, hl]; exact Nat.mul_pos hl0 hk0)⟩
  obtain ⟨u0, h0⟩ := h0
  have hx := key 0 u0 h0
  have hsp : x.spot = none := by
    cases hs : x.spot with
    | none => rfl
    | some s =>
      rw [show x.add 0 = x by unfold Addr.add; simp] at hx
      unfold World.cell? at hx
      split at hx <;> simp [hs] at hx
  obtain ⟨g, off, sp⟩ := x
  simp only at hsp
  subst hsp
  refine ⟨g, off, rfl, ?_, fun j u hu => by have := key j u hu; rwa [Addr.add_lit] at this⟩
  rw [Addr.add_lit] at hx
  exact World.block_lt_of_cell? w _ hx

theorem madeCells_flat {α : Type} {enc : α → List Value} {k : Nat} (hk : ∀ x, (enc x).length = k) (hk0 : 0 < k) (z : Array Value) (x0 : α) (hz : z.toList = enc x0) (n : Nat) : (madeCells z (n * k)).toList = flat enc (List.replicate n x0) := by
  have hzs : z.size = k := by rw [← hk x0, ← hz, Array.length_toList]
  apply List.ext_getElem?
  intro q
  by_cases hq : q < n * k
  · have hqk : q / k < n := Nat.div_lt_of_lt_mul (by rw [Nat.mul_comm]; exact hq)
    have he : q / k * k + q % k = q := by rw [Nat.mul_comm]; exact Nat.div_add_mod q k
    have h1 := flat_get hk (l := List.replicate n x0) (j := q / k) (x := x0) (by simp [hqk]) (Nat.mod_lt q hk0)
    rw [he] at h1
    rw [h1, ← hz]
    have hm : q % z.size < z.size := Nat.mod_lt _ (by omega)
    simp only [madeCells, Array.toList_map, Array.toList_range, List.getElem?_map, List.getElem?_range hq, Option.map_some, Array.getElem?_toList]
    rw [getElem!_pos z _ hm, ← hzs, Array.getElem?_eq_getElem hm]
  · rw [List.getElem?_eq_none (by simp [madeCells]; omega), List.getElem?_eq_none (by rw [flat_length hk, List.length_replicate]; omega)]

/-- 'make([]T, n)' for structs. -/
theorem wpList_make_S {P : Program} {α : Type} {w : World} {ops : Array Oper} {rest : List Oper} {o : Oper} {a : Act} {Q : Exit → Act → World → Prop} (hg : o.guard = none) (l c : Operand) (T : TypeId) (hop : o.op = Op.makeSlice T l c)
    (t : TypeId) (enc : α → List Value) (k : Nat) (hk : ∀ x, (enc x).length = k) (hk0 : 0 < k) (B : Nat) (i : TypeInfo) (z : Value) (x0 : α) (b : Nat) (h1 : P.underlying T = some (.slice t)) (h2 : P.info? t = some i) (h3 : i.zero = some z) (h4 : i.size = k) (hz : z.cells.toList = enc x0) (h5 : i.bytes = b)
    (L C : Int) (n : Nat) (hl : a.eval l = .int .i64 L) (hc : a.eval c = .int .i64 C) (hL : L = (n : Int)) (hC : C = (n : Int)) (b2 : b * n ≤ 281474976710656) (b3 : n ≤ 9223372036854775807) (b4 : B ≤ w.heap.size)
    (hK : ∀ w', OwnS t enc k w' B (some ⟨w.heap.size, 0, none⟩) n n (List.replicate n x0) → w.grownBy w' none → wpList P ops Q rest (a.put o.dst (.slice (some ⟨w.heap.size, 0, none⟩) n n)) w') : wpList P ops Q (o :: rest) a w := by
  refine wpList_make_full w hg l c T hop B t i z k h1 h2 h3 h4 .i64 .i64 L C n hl hc hL hC (by rw [h5]; exact b2) (by simp only [maxLen]; exact b3) b4 fun w' ho hgr => hK w' ⟨by simp, ?_⟩ hgr
  rw [madeCells_flat hk hk0 _ x0 hz] at ho
  exact ho

/-- One element of a fresh row turned, cell by cell. -/
theorem flat_set {α : Type} {enc : α → List Value} {k : Nat} (hk : ∀ x, (enc x).length = k) (l : List α) (i : Nat) (x : α) (hi : i < l.length) : flat enc (l.set i x) = (flat enc l).take (i * k) ++ (enc x ++ (flat enc l).drop ((i + 1) * k)) := by
  rw [flat_take hk, flat_drop hk, List.set_eq_take_append_cons_drop, if_pos hi]
  simp [flat]

/-- Cells written one behind the other. -/
def setFrom (xs : List Value) (j : Nat) : List Value → List Value
  | [] => xs
  | v :: vs => setFrom (xs.set j v) (j + 1) vs
def setCells (w : World) (g j : Nat) : List Value → World
  | [] => w
  | v :: vs => setCells (w.setCell ⟨g, j, none⟩ v) g (j + 1) vs

theorem setFrom_eq (vs : List Value) : ∀ (xs : List Value) (j : Nat), j + vs.length ≤ xs.length → setFrom xs j vs = xs.take j ++ (vs ++ xs.drop (j + vs.length)) := by
  induction vs with
  | nil => intro xs j _; simp [setFrom]
  | cons v vs ih =>
    intro xs j hj
    simp only [List.length_cons] at hj
    rw [setFrom, ih _ _ (by rw [List.length_set]; omega), List.take_set, List.drop_set_of_lt (by omega), List.set_eq_take_append_cons_drop, if_pos (by rw [List.length_take]; omega), List.take_take, Nat.min_eq_left (by omega), List.drop_take, show j + 1 - (j + 1) = 0 by omega]
    simp only [List.take_zero, List.length_cons, List.append_assoc, List.cons_append, List.nil_append]
    rw [show j + 1 + vs.length = j + (vs.length + 1) by omega]

theorem ownsRow_setCells {t : TypeId} {k g n c B : Nat} (vs : List Value) : ∀ (w : World) (xs : List Value) (j : Nat), w.ownsRow B t k (.slice (some ⟨g, 0, none⟩) n c) n xs → (setCells w g j vs).ownsRow B t k (.slice (some ⟨g, 0, none⟩) n c) n (setFrom xs j vs) := by
  induction vs with
  | nil => intro w xs j h; exact h
  | cons v vs ih =>
    intro w xs j h
    refine ih _ _ _ ?_
    rcases h.2 with ⟨e, _⟩ | ⟨g', cap, cur, e, hB, hh, h1, h2, h3, h4⟩
    · cases e
    · injection e with e1 _ e3
      simp only [Option.some.injEq, Addr.mk.injEq, and_true] at e1
      subst e1 e3
      refine ⟨by rw [List.length_set]; exact h.1, .inr ⟨g, c, cur.setIfInBounds j v, rfl, hB, ?_, h1, h2, by simpa using h3, ?_⟩⟩
      · simp [World.setCell, Array.getElem?_modify, hh]
      · rw [← h4]
        simp [List.take_set]

section
variable {α : Type} {t : TypeId} {enc : α → List Value} {k : Nat} {w : World} {B g n c : Nat} {l : List α}
/-- A store of one element into a fresh row. -/
theorem ownS_store (hk : ∀ x, (enc x).length = k) (h : OwnS t enc k w B (some ⟨g, 0, none⟩) n c l) {i : Nat} (hi : i < n) (x : α) : OwnS t enc k (setCells w g (i * k) (enc x)) B (some ⟨g, 0, none⟩) n c (l.set i x) := by
  refine ⟨by rw [List.length_set]; exact h.1, ?_⟩
  have h1 := ownsRow_setCells (enc x) w (flat enc l) (i * k) h.2
  have hl := h.1
  have hik : (i + 1) * k ≤ n * k := Nat.mul_le_mul_right k (by omega)
  rw [Nat.succ_mul] at hik
  rw [setFrom_eq _ _ _ (by rw [hk, flat_length hk, hl]; exact hik), hk, ← Nat.succ_mul, ← flat_set hk l i x (by omega)] at h1
  exact h1
theorem OwnS.thaw (h : OwnS t enc k w B (some ⟨g, 0, none⟩) n c l) (o : Nat) : w.frozen? ⟨g, o, none⟩ = false := by
  rcases h.shape with ⟨e, _⟩ | ⟨g', cur, e, _, _, hh, _⟩
  · cases e
  · simp only [Option.some.injEq, Addr.mk.injEq, and_true] at e
    subst e
    simp [World.frozen?, hh]
end
theorem setCells_below {w0 : World} {B g : Nat} (hg : B ≤ g) (vs : List Value) : ∀ (w : World) (j : Nat), Below B w0 w → Below B w0 (setCells w g j vs) := by
  induction vs with
  | nil => intro w j h; exact h
  | cons v vs ih => intro w j h; exact ih _ _ (h.setCell (p := ⟨g, j, none⟩) hg v)
theorem setCells_block {g q : Nat} (hq : q ≠ g) (vs : List Value) : ∀ (w : World) (j : Nat), (setCells w g j vs).heap[q]? = w.heap[q]? := by
  induction vs with
  | nil => intro w j; rfl
  | cons v vs ih => intro w j; exact (ih _ _).trans (Below.heap_setCell w _ v q hq)
theorem setCells_size (g : Nat) (vs : List Value) : ∀ (w : World) (j : Nat), (setCells w g j vs).heap.size = w.heap.size := by
  induction vs with
  | nil => intro w j; rfl
  | cons v vs ih => intro w j; exact (ih _ _).trans (by simp [World.setCell])

/-- The append of elements, as one step of a region that draws its order. -/
theorem step_append_rowS {P : Program} {α : Type} {w : World} {ops : Array Oper} {o : Oper} {a : Act} {K : Act → World → Prop} {Q : Exit → Act → World → Prop} {E : Prop} (hgd : o.guard = none) (s x : Operand) (T : TypeId)
    (ho : o.op = .call { callee := .builtin .append, args := #[s, x], argTypes := #[T, T] }) (t : TypeId) (enc : α → List Value) (k : Nat) (hk : ∀ x, (enc x).length = k) (hk0 : 0 < k) (h1 : ∀ x, ∀ u ∈ enc x, u.oneCell' = true)
    (base : Nat) (i : TypeInfo) (z : Value) (b : Nat) (ht : P.underlying T = some (.slice t)) (hi : P.info? t = some i) (hz : i.zero = some z) (hs : i.size = k) (hzs : z.cells.size = k) (hby : i.bytes = b)
    (A : Option Addr) (n c : Nat) (l : List α) (hes : a.eval s = .slice A n c) (hown : OwnS t enc k w base A n c l) (A' : Option Addr) (n' c' : Nat) (l' : List α) (hex : a.eval x = .slice A' n' c') (hr : RowS enc k w A' n' l')
    (hb : (n + n') * b ≤ 140737488355328) (hm : n + n' ≤ 140737488355328) (hbase : base ≤ w.heap.size)
    (h : ∀ A2 c2 w', OwnS t enc k w' base A2 (n + n') c2 (l ++ l') → w.grownBy w' (blockOf A) → K (a.put o.dst (.slice A2 (n + n') c2)) w') : if Region.wanted o (yielded ops a.tmps) = true then Oper.wp P o a w K Q else E := by
  have hw : Region.wanted o (yielded ops a.tmps) = true := by simp [Region.wanted, hgd]
  rw [if_pos hw]
  obtain ⟨A2, c2, w', hrun, h2, h3⟩ := run_append_rowS (P := P) w t enc k hk hk0 h1 base T o.type i z b ht hi hz hs hzs hby A n c l hown A' n' c' l' hr hb hm hbase
  unfold Oper.wp execOp
  simp only [ho, resolve, invoke, builtin, Sem.run_bind, Sem.run_pure, Result.andThen_ok, List.map_toArray, List.map_cons, List.map_nil, hes, hex, hrun]
  exact h A2 c2 w' h2 h3

end Go.Proofs.YthkaeimpflggjaaDoor

/- A region that draws its order, whose operations read and whose calls make memory of their own and answer values: walked once. -/
namespace Go.Proofs.YthkaeimpflggjaaDoor
open Go.RowKit
set_option linter.unusedVariables false

/-- w with blocks behind it, at another place of the tape. -/
def gw (w : World) (n : Nat) (os : Array Obj) : World := { w with heap := w.heap ++ os, drawn := n }

theorem gw_size (w : World) (n : Nat) (os : Array Obj) : w.heap.size ≤ (gw w n os).heap.size := by simp [gw]

theorem gw_below (w : World) (n : Nat) (os : Array Obj) : Below w.heap.size w (gw w n os) :=
  ⟨rfl, rfl, rfl, gw_size w n os, fun k hk => by simp [gw, Array.getElem?_append, hk]⟩

theorem below_gw {w w' : World} (h : Below w.heap.size w w') : ∃ p : GrownBy, w' = gw w p.n p.os := by
  refine ⟨⟨w'.drawn, w'.heap.extract w.heap.size w'.heap.size⟩, ?_⟩
  obtain ⟨h1, h2, h3, h4, h5⟩ := h
  cases w'
  cases w
  simp only [gw, World.mk.injEq] at *
  subst h1 h2 h3
  simp only [and_true]
  rename_i heap' _ heap _ _ _ _
  apply Array.ext_getElem?
  intro i
  rw [Array.getElem?_append]
  split
  · rename_i hi; exact h5 i hi
  · rename_i hi
    rw [Array.getElem?_extract]
    split
    · congr 1; omega
    · rw [Array.getElem?_eq_none (by omega)]

theorem gw_cell {w : World} {a : Addr} {v : Value} (h : w.cell? a = some v) (n : Nat) (os : Array Obj) : (gw w n os).cell? a = some v := by
  have hb : a.block < w.heap.size := World.block_lt_of_cell? w _ h
  exact (World.cell?_of_block (w := w) ((gw_below w n os).block _ hb)).trans h

theorem gw_frozen {w : World} {a : Addr} (hb : a.block < w.heap.size) (n : Nat) (os : Array Obj) : (gw w n os).frozen? a = w.frozen? a := (gw_below w n os).frozen hb

theorem region_below {P : Program} {id : Nat} {Q : Exit → Act → World → Prop} {a : Act} {w : World} {l : List Oper} (hm : P.follows .mixedOrders = true) (hB : Region.lexB .any l.toArray = true)
    (h : wpQuiet P l.toArray (fun w' => ∃ p : GrownBy, w' = gw w p.n p.os) (fun a' => ∀ w', (∃ p : GrownBy, w' = gw w p.n p.os) → Q .normal a' w') l a) : (Code.region id l.toArray true).wp P Q a w :=
  wp_region_quiet (C := fun w' => ∃ p : GrownBy, w' = gw w p.n p.os) hm hB ⟨⟨w.drawn + 1, #[]⟩, by simp [gw]⟩ (by simpa using h)

theorem calls_gw {P : Program} {f : FuncId} {args : Array Value} {w : World} {n : Nat} {os : Array Obj} {v : Value}
    (h : Calls P f args (gw w n os) fun e w' => e = .returned v ∧ Below (gw w n os).heap.size (gw w n os) w') : Calls P f args (gw w n os) fun e w'' => e = .returned v ∧ ∃ p : GrownBy, w'' = gw w p.n p.os :=
  h.mono fun _ _ ⟨he, hb⟩ => ⟨he, below_gw ((gw_below w n os).trans (hb.mono (gw_size w n os)))⟩

theorem calls_gw_same {P : Program} {f : FuncId} {args : Array Value} {w : World} {n : Nat} {os : Array Obj} {v : Value}
    (h : Calls P f args (gw w n os) fun e w' => e = .returned v ∧ w' = gw w n os) : Calls P f args (gw w n os) fun e w'' => e = .returned v ∧ ∃ p : GrownBy, w'' = gw w p.n p.os :=
  h.mono fun _ _ ⟨he, hb⟩ => ⟨he, ⟨n, os⟩, hb⟩

end Go.Proofs.YthkaeimpflggjaaDoor

/- All cells of a block of fourteen at once. -/
namespace Go.Proofs.YthkaeimpflggjaaDoor
open Go.RowKit
set_option linter.unusedVariables false

theorem cells14 {w : World} {b t : Nat} {v0 v1 v2 v3 v4 v5 v6 v7 v8 v9 v10 v11 v12 v13 : Value} (h : w.heap[b]? = some (.cells #[v0, v1, v2, v3, v4, v5, v6, v7, v8, v9, v10, v11, v12, v13] t (0, 0))) :
    w.cell? ⟨b, 0, none⟩ = some v0 ∧ w.cell? ⟨b, 1, none⟩ = some v1 ∧ w.cell? ⟨b, 2, none⟩ = some v2 ∧ w.cell? ⟨b, 3, none⟩ = some v3 ∧ w.cell? ⟨b, 4, none⟩ = some v4 ∧ w.cell? ⟨b, 5, none⟩ = some v5 ∧ w.cell? ⟨b, 6, none⟩ = some v6 ∧ w.cell? ⟨b, 7, none⟩ = some v7 ∧ w.cell? ⟨b, 8, none⟩ = some v8 ∧ w.cell? ⟨b, 9, none⟩ = some v9 ∧ w.cell? ⟨b, 10, none⟩ = some v10 ∧ w.cell? ⟨b, 11, none⟩ = some v11 ∧ w.cell? ⟨b, 12, none⟩ = some v12 ∧ w.cell? ⟨b, 13, none⟩ = some v13 :=
  ⟨cell_of_row w b 0 _ t (0, 0) h, cell_of_row w b 1 _ t (0, 0) h, cell_of_row w b 2 _ t (0, 0) h, cell_of_row w b 3 _ t (0, 0) h, cell_of_row w b 4 _ t (0, 0) h, cell_of_row w b 5 _ t (0, 0) h, cell_of_row w b 6 _ t (0, 0) h, cell_of_row w b 7 _ t (0, 0) h, cell_of_row w b 8 _ t (0, 0) h, cell_of_row w b 9 _ t (0, 0) h, cell_of_row w b 10 _ t (0, 0) h, cell_of_row w b 11 _ t (0, 0) h, cell_of_row w b 12 _ t (0, 0) h, cell_of_row w b 13 _ t (0, 0) h⟩

/-- What stands behind a call that turns nothing old. -/
theorem kept_block {w w' : World} {b : Nat} {o : Obj} (h : w.heap[b]? = some o) (hb : Below w.heap.size w w') : w'.heap[b]? = some o := (hb.block _ (lt_of_block h)).trans h

theorem kept_alloc {w : World} {b : Nat} {o : Obj} (h : w.heap[b]? = some o) (o' : Obj) : (w.alloc o').heap[b]? = some o := kept_block h ((Below.refl _ _).alloc (Nat.le_refl _) o')

theorem thawed {w : World} {b t : Nat} {cs : Array Value} (h : w.heap[b]? = some (.cells cs t (0, 0))) (o : Nat) : w.frozen? ⟨b, o, none⟩ = false := by simp [World.frozen?, h]

end Go.Proofs.YthkaeimpflggjaaDoor

/- Pairs in memory; Rises; what goes on from what: contracts over this seat's translation. -/
namespace Go.Proofs.YthkaeimpflggjaaDoor
open Go.RowKit
set_option linter.unusedVariables false

def encP (p : Pr) : List Value := [.int .i32 p.code, .int .u16 p.glyph]
def encQ (p : Pr) : List Value := [.int .i64 p.code, .int .i64 p.glyph]
theorem encP_len (p : Pr) : (encP p).length = 2 := rfl
theorem encQ_len (p : Pr) : (encQ p).length = 2 := rfl
theorem encP_one (p : Pr) : ∀ u ∈ encP p, u.oneCell' = true := by intro u hu; simp [encP] at hu; rcases hu with rfl | rfl <;> rfl
theorem encQ_one (p : Pr) : ∀ u ∈ encQ p, u.oneCell' = true := by intro u hu; simp [encQ] at hu; rcases hu with rfl | rfl <;> rfl

theorem getP {α : Type} {l : List α} {j : Nat} (h : j < l.length) : ∃ m, l[j]? = some m := ⟨l[j], List.getElem?_eq_getElem h⟩
theorem drop_consP {α : Type} {l : List α} {k : Nat} {p : α} (h : l[k]? = some p) : l.drop k = p :: l.drop (k + 1) := by
  obtain ⟨hk, rfl⟩ := List.getElem?_eq_some_iff.1 h
  exact List.drop_eq_getElem_cons hk

set_option maxRecDepth 100000 in
set_option maxHeartbeats 1000000 in
theorem rises_any (A : Option Addr) (n c : Nat) (l : List Pr) (most : Int) (w : World) (hr : RowS encP 2 w A n l) (hn : n ≤ 1000000) :
    Calls Tryd.prog 41 #[.slice A n c, .int .i32 most] w (Ret w (.bool (risesF most (-1) l))) := by
  have Hn := Lib.hid hr.len
  go_enter Tryd.func41, Tryd.ntmps41
  go_wp2
  go_loopw [5, 10] (fun a i wr => ∃ (k : Nat) (ah : Int), k ≤ n ∧ i = .int .i64 k ∧ a = .int .i32 ah ∧ Hid (risesF most (-1) l = risesF most ah (l.drop k)) ∧ Below w.heap.size w wr) (fun _ i _ => n - (intOf i).toNat)
  case atStart => exact ⟨0, -1, Nat.zero_le _, rfl, rfl, Lib.hid rfl, Below.refl _ _⟩
  case round =>
    obtain ⟨k, ah, hk, rfl, rfl, he, hb⟩ := hrel
    by_cases hlt : k < n
    · obtain ⟨p, hp⟩ := getP (l := l) (j := k) (by have := Hn.out; omega)
      obtain ⟨g, off, rfl, hg, hcl⟩ := (hr.below hb).at encP_len (by omega) hp
      have q0 : wr.cell? ⟨g, off + k * 2, none⟩ = some (.int .i32 p.code) := hcl 0 _ rfl
      have q1 : wr.cell? ⟨g, off + k * 2 + 1, none⟩ = some (.int .u16 p.glyph) := hcl 1 _ rfl
      have HB := Lib.hid (hb.alloc hb.size (.cells #[.int .i32 p.code, .int .u16 p.glyph] 45))
      have he' := he.out
      rw [drop_consP hp, risesF] at he'
      clear hcl hp hb
      obtain ⟨pc, pg⟩ := p
      simp only at q0 q1 HB he'
      by_cases h1 : ah < pc
      · by_cases h2 : pc ≤ most
        · have H : Hid (risesF most (-1) l = risesF most pc (l.drop (k + 1))) := by show _ = _; rw [he']; simp [h1, h2]
          clear he he'
          go_wp2
          go_roundw
          case rel => exact ⟨k + 1, pc, by omega, by go_num, rfl, H, HB.out⟩
          case measure => simp [intOf]; omega
        · have H : Hid (risesF most (-1) l = false) := by show _ = _; rw [he']; simp [h2]
          clear he he'
          go_wp2
          go_ret
          rw [H.out]
          exact ⟨rfl, HB.out⟩
      · have H : Hid (risesF most (-1) l = false) := by show _ = _; rw [he']; simp [h1]
        clear he he'
        go_wp2
        go_ret
        rw [H.out]
        exact ⟨rfl, HB.out⟩
    · have H : Hid (risesF most (-1) l = true) := by show _ = _; rw [he.out, List.drop_of_length_le (by have := Hn.out; omega)]; rfl
      go_wp2
      go_ret
      rw [H.out]
      exact ⟨rfl, hb⟩

def pV (p : Pr) : Value := .agg #[.int .i32 p.code, .int .u16 p.glyph]

set_option maxRecDepth 100000 in
set_option maxHeartbeats 1000000 in
theorem gfol_any (p q : Pr) (w : World) (c0 : -1 ≤ p.code) (c1 : p.code ≤ 2000000000) (g0 : 0 ≤ p.glyph) (g1 : p.glyph ≤ 65535) (k0 : 0 ≤ q.glyph) (k1 : q.glyph ≤ 65535) :
    Calls Tryd.prog 67 #[pV p, pV q] w (Ret w (.bool (folG p q))) := by
  have HB := Lib.hid (((Below.refl w.heap.size w).alloc (Nat.le_refl _) (.cells #[.int .i32 p.code, .int .u16 p.glyph] 45)).alloc (by simp) (.cells #[.int .i32 q.code, .int .u16 q.glyph] 45))
  obtain ⟨pc, pg⟩ := p
  obtain ⟨qc, qg⟩ := q
  simp only [pV] at *
  by_cases h1 : qc = pc + 1
  · have b1 : (qc == pc + 1) = true := by simp [h1]
    by_cases h2 : pg < 65535
    · by_cases h3 : qg = pg + 1
      · have b3 : (qg == pg + 1) = true := by simp [h3]
        have H : Hid (folG ⟨pc, pg⟩ ⟨qc, qg⟩ = true) := by show _ = _; simp [folG, h1, h3]
        clear h1 h3
        go_enter Tryd.func67, Tryd.ntmps67
        go_wp2
        go_ret
        rw [H.out]
        exact ⟨rfl, HB.out⟩
      · have b3 : (qg == pg + 1) = false := by simp [h3]
        have H : Hid (folG ⟨pc, pg⟩ ⟨qc, qg⟩ = false) := by show _ = _; simp [folG, h3]
        clear h1 h3
        go_enter Tryd.func67, Tryd.ntmps67
        go_wp2
        go_ret
        rw [H.out]
        exact ⟨rfl, HB.out⟩
    · have H : Hid (folG ⟨pc, pg⟩ ⟨qc, qg⟩ = false) := by show _ = _; simp [folG]; intro _; omega
      clear h1
      go_enter Tryd.func67, Tryd.ntmps67
      go_wp2
      go_ret
      rw [H.out]
      exact ⟨rfl, HB.out⟩
  · have b1 : (qc == pc + 1) = false := by simp [h1]
    have H : Hid (folG ⟨pc, pg⟩ ⟨qc, qg⟩ = false) := by show _ = _; simp [folG, h1]
    clear h1
    go_enter Tryd.func67, Tryd.ntmps67
    go_wp2
    go_ret
    rw [H.out]
    exact ⟨rfl, HB.out⟩

set_option maxRecDepth 100000 in
set_option maxHeartbeats 1000000 in
theorem sfol_any (p q : Pr) (w : World) (c0 : -1 ≤ p.code) (c1 : p.code ≤ 2000000000) (g0 : 0 ≤ p.glyph) (g1 : p.glyph ≤ 65535) (k0 : 0 ≤ q.glyph) (k1 : q.glyph ≤ 65535) :
    Calls Tryd.prog 60 #[pV p, pV q] w (Ret w (.bool (folS p q))) := by
  have HB := Lib.hid (((Below.refl w.heap.size w).alloc (Nat.le_refl _) (.cells #[.int .i32 p.code, .int .u16 p.glyph] 45)).alloc (by simp) (.cells #[.int .i32 q.code, .int .u16 q.glyph] 45))
  obtain ⟨pc, pg⟩ := p
  obtain ⟨qc, qg⟩ := q
  simp only [pV] at *
  by_cases h1 : qc = pc + 1
  · have b1 : (qc == pc + 1) = true := by simp [h1]
    by_cases h2 : pg < 65535
    · by_cases h3 : qg = pg + 1
      · have b3 : (qg == pg + 1) = true := by simp [h3]
        have H : Hid (folS ⟨pc, pg⟩ ⟨qc, qg⟩ = true) := by show _ = _; simp [folS, h1]; omega
        clear h1 h3
        go_enter Tryd.func60, Tryd.ntmps60
        go_wp2
        go_ret
        rw [H.out]
        exact ⟨rfl, HB.out⟩
      · have b3 : (qg == pg + 1) = false := by simp [h3]
        have H : Hid (folS ⟨pc, pg⟩ ⟨qc, qg⟩ = false) := by show _ = _; simp [folS, h1]; omega
        clear h1 h3
        go_enter Tryd.func60, Tryd.ntmps60
        go_wp2
        go_ret
        rw [H.out]
        exact ⟨rfl, HB.out⟩
    · have h4 : pg = 65535 := by omega
      by_cases h3 : qg = 0
      · have b3 : (qg == IntKind.u16.wrap 65536) = true := by rw [show IntKind.u16.wrap 65536 = 0 from by decide]; simp [h3]
        have H : Hid (folS ⟨pc, pg⟩ ⟨qc, qg⟩ = true) := by show _ = _; simp [folS, h1]; omega
        clear h1 h3
        subst h4
        go_enter Tryd.func60, Tryd.ntmps60
        go_wp2
        go_ret
        rw [H.out]
        exact ⟨rfl, HB.out⟩
      · have b3 : (qg == IntKind.u16.wrap 65536) = false := by rw [show IntKind.u16.wrap 65536 = 0 from by decide]; simp [h3]
        have H : Hid (folS ⟨pc, pg⟩ ⟨qc, qg⟩ = false) := by show _ = _; simp [folS, h1]; omega
        clear h1 h3
        subst h4
        go_enter Tryd.func60, Tryd.ntmps60
        go_wp2
        go_ret
        rw [H.out]
        exact ⟨rfl, HB.out⟩
  · have b1 : (qc == pc + 1) = false := by simp [h1]
    have H : Hid (folS ⟨pc, pg⟩ ⟨qc, qg⟩ = false) := by show _ = _; simp [folS, h1]
    clear h1
    go_enter Tryd.func60, Tryd.ntmps60
    go_wp2
    go_ret
    rw [H.out]
    exact ⟨rfl, HB.out⟩

/-- What a search leaves: the first place, as far as it has looked. -/
def RetSe (w : World) (n : Nat) (p : Nat → Bool) (e : Ending) (w' : World) : Prop :=
  ∃ r : Nat, r ≤ n ∧ e = .returned (.int .i64 r) ∧ (0 < r → p (r - 1) = false) ∧ (r < n → p r = true) ∧ Below w.heap.size w w'

set_option maxRecDepth 100000 in
set_option maxHeartbeats 1000000 in
theorem search_any (g : Nat) (cb : Array Value) (n : Nat) (p : Nat → Bool) (w : World) (eg : ∀ args w, (callFunc g args).run Tryd.prog w = .ok (.enter g args) w) (hn : n ≤ 1000000)
    (hf : ∀ (W : World) (i : Nat), i < n → Below w.heap.size w W → Calls Tryd.prog g (#[.int .i64 i] ++ cb) W (Ret W (.bool (p i)))) :
    Calls Tryd.prog 54 #[.int .i64 n, .func (.func g) #[] cb] w (RetSe w n p) := by
  have HF := Lib.hid hf
  clear hf
  go_enter Tryd.func54, Tryd.ntmps54
  go_wp2
  go_loopw [5, 6] (fun s5 s6 wr => ∃ lo hi : Nat, s5 = .int .i64 lo ∧ s6 = .int .i64 hi ∧ lo ≤ hi ∧ hi ≤ n ∧ Hid ((0 < lo → p (lo - 1) = false) ∧ (hi < n → p hi = true)) ∧ Below w.heap.size w wr) (fun s5 s6 _ => (intOf s6).toNat - (intOf s5).toNat)
  case atStart => exact ⟨0, n, rfl, rfl, Nat.zero_le _, Nat.le_refl _, Lib.hid ⟨fun h => absurd h (by omega), fun h => absurd h (by omega)⟩, Below.refl _ _⟩
  case round =>
    obtain ⟨lo, hi, rfl, rfl, hlh, hin, I, hb⟩ := hrel
    by_cases hlt : lo < hi
    · have hc := HF.out wr ((lo + hi) / 2) (by omega) hb
      rw [show (((lo + hi) / 2 : Nat) : Int) = ((lo : Int) + (hi : Int)) / 2 by omega] at hc
      have HC := Lib.hid hc
      clear hc
      go_wp2_with fail
      refine HC.out.mono ?_
      rintro e w1 ⟨rfl, hb1⟩
      have hbf := hb.trans (hb1.mono hb.size)
      clear hb1 HC hb
      generalize hq : p ((lo + hi) / 2) = q at *
      have HQ := Lib.hid hq
      clear hq
      cases q with
      | false =>
        go_wp2
        go_roundw
        case rel => exact ⟨(lo + hi) / 2 + 1, hi, by go_num, rfl, by omega, hin, Lib.hid ⟨fun _ => by rw [Nat.add_sub_cancel]; exact HQ.out, I.out.2⟩, hbf⟩
        case measure => simp [intOf]; omega
      | true =>
        go_wp2
        go_roundw
        case rel => exact ⟨lo, (lo + hi) / 2, rfl, by go_num, by omega, by omega, Lib.hid ⟨I.out.1, fun _ => HQ.out⟩, hbf⟩
        case measure => simp [intOf]; omega
    · go_wp2
      go_ret
      exact ⟨lo, by omega, rfl, I.out.1, fun h => by have := I.out.2; rw [show hi = lo by omega] at this; exact this h, hb⟩

end Go.Proofs.YthkaeimpflggjaaDoor

/- A Reader that was asked for i bytes of zs altogether, whether they were there or not. -/
namespace Go.Proofs.YthkaeimpflggjaaDoor
open Go.RowKit
set_option linter.unusedVariables false

def RdQ (w : World) (B b : Nat) (zs : List Int) (i : Nat) : Prop :=
  (i ≤ zs.length ∧ Rd w B b (zs.drop i) i false) ∨ (zs.length < i ∧ ∃ a : Int, 0 ≤ a ∧ a ≤ zs.length ∧ Rd w B b [] a true)

section
variable {w w' : World} {B b : Nat} {zs : List Int} {i : Nat}

theorem RdQ.new (h : Rd w B b zs 0 false) : RdQ w B b zs 0 := .inl ⟨Nat.zero_le _, h⟩
theorem RdQ.below (h : RdQ w B b zs i) (hb : Below w.heap.size w w') : RdQ w' B b zs i := by
  rcases h with ⟨hi, h⟩ | ⟨hi, a, a0, a1, h⟩
  · exact .inl ⟨hi, h.below hb⟩
  · exact .inr ⟨hi, a, a0, a1, h.below hb⟩
theorem RdQ.keep (h : RdQ w B b zs i) (hs : w.heap.size ≤ w'.heap.size) (hk : ∀ g, g < w.heap.size → B ≤ g → (g = b ∨ ∃ cur, w.heap[g]? = some (.cells cur 5 (0, 0))) → w'.heap[g]? = w.heap[g]?) : RdQ w' B b zs i := by
  rcases h with ⟨hi, h⟩ | ⟨hi, a, a0, a1, h⟩
  · exact .inl ⟨hi, h.keep hs hk⟩
  · exact .inr ⟨hi, a, a0, a1, h.keep hs hk⟩
theorem RdQ.drewN (h : RdQ w B b zs i) (q : Nat) : RdQ (w.drewN q) B b zs i := h
theorem RdQ.drew (h : RdQ w B b zs i) : RdQ w.drew B b zs i := h
theorem RdQ.lt (h : RdQ w B b zs i) : b < w.heap.size := by
  rcases h with ⟨_, h⟩ | ⟨_, a, _, _, h⟩ <;> exact h.lt
theorem RdQ.from_ (h : RdQ w B b zs i) : B ≤ b := by
  rcases h with ⟨_, h⟩ | ⟨_, a, _, _, h⟩ <;> exact h.from_
theorem RdQ.block (h : RdQ w B b zs i) : RdBlock w b := by
  rcases h with ⟨_, h⟩ | ⟨_, a, _, _, h⟩ <;> exact h.block

theorem rdq_good {m : Nat} (hi : i ≤ zs.length) (hr : Rd w' B b (rest (zs.drop i) m) (gone (zs.drop i) i m) (badn (zs.drop i) false m)) : RdQ w' B b zs (i + m) := by
  by_cases h : i + m ≤ zs.length
  · rw [rest_at zs i m h, gone_at zs i i m h, badn_at zs false i m h] at hr
    exact .inl ⟨h, by simpa using hr⟩
  · have hn : ¬ m ≤ (zs.drop i).length := by rw [List.length_drop]; omega
    unfold rest gone badn at hr
    rw [if_neg hn, if_neg hn, if_neg hn] at hr
    exact .inr ⟨by omega, i, by omega, by omega, hr⟩

theorem rdq_bad {m : Nat} {a : Int} (hm : 0 < m) (hi : zs.length < i) (a0 : 0 ≤ a) (a1 : a ≤ zs.length) (hr : Rd w' B b (rest [] m) (gone [] a m) (badn [] true m)) : RdQ w' B b zs (i + m) := by
  have hn : ¬ m ≤ ([] : List Int).length := by simp; omega
  unfold rest gone badn at hr
  rw [if_neg hn, if_neg hn, if_neg hn] at hr
  exact .inr ⟨by omega, a, a0, a1, hr⟩
theorem drop_past (h : zs.length < i) : zs.drop i = [] := List.drop_of_length_le (by omega)

/-- What asking leaves. -/
def RetQ (w : World) (B b : Nat) (v : Value) (zs : List Int) (i : Nat) (e : Ending) (w' : World) : Prop := e = .returned v ∧ RdQ w' B b zs i ∧ w.grownBy w' (some b)

theorem rdq_u16 (h : RdQ w B b zs i) (hB : Bytes zs) (hl : zs.length ≤ 140737488351232) : Calls Tryd.prog 48 #[.pointer (some ⟨b, 0, none⟩)] w (RetQ w B b (.int .u16 (n2at zs i)) zs (i + 2)) := by
  rcases h with ⟨hi, h⟩ | ⟨hi, a, a0, a1, h⟩
  · exact (u16_any B b _ _ _ w h (drop_bytes hB _) (by rw [List.length_drop]; omega) (by omega) (by omega)).mono fun e w' ⟨he, hr, hg⟩ => ⟨he, rdq_good hi hr, hg⟩
  · refine (u16_any B b _ _ _ w h (fun x hx => by cases hx) (by simp) a0 (by omega)).mono fun e w' ⟨he, hr, hg⟩ => ⟨?_, rdq_bad (by omega) hi a0 a1 hr, hg⟩
    unfold n2at
    rw [drop_past hi]
    exact he

theorem rdq_u32 (h : RdQ w B b zs i) (hB : Bytes zs) (hl : zs.length ≤ 140737488351232) : Calls Tryd.prog 50 #[.pointer (some ⟨b, 0, none⟩)] w (RetQ w B b (.int .u32 (n4at zs i)) zs (i + 4)) := by
  rcases h with ⟨hi, h⟩ | ⟨hi, a, a0, a1, h⟩
  · exact (u32_any B b _ _ _ w h (drop_bytes hB _) (by rw [List.length_drop]; omega) (by omega) (by omega)).mono fun e w' ⟨he, hr, hg⟩ => ⟨he, rdq_good hi hr, hg⟩
  · refine (u32_any B b _ _ _ w h (fun x hx => by cases hx) (by simp) a0 (by omega)).mono fun e w' ⟨he, hr, hg⟩ => ⟨?_, rdq_bad (by omega) hi a0 a1 hr, hg⟩
    unfold n4at
    rw [drop_past hi]
    exact he

/-- What taking bytes leaves: they lie in the Reader's own memory. -/
def RetQT (w : World) (B b : Nat) (ys zs : List Int) (i : Nat) (e : Ending) (w' : World) : Prop :=
  ∃ A m c, e = .returned (.slice A m c) ∧ Row w' A m (cellsOf .u8 ys) ∧ (∀ g, blockOf A = some g → B ≤ g ∧ ∃ cur, w'.heap[g]? = some (.cells cur 5 (0, 0))) ∧ RdQ w' B b zs i ∧ w.grownBy w' (some b)

end

end Go.Proofs.YthkaeimpflggjaaDoor

/- Two results, one of them a struct in memory; a Reader beside another block. -/
namespace Go.Proofs.YthkaeimpflggjaaDoor
open Go.RowKit
set_option linter.unusedVariables false

/-- Two results: a struct in memory, and a plain value. -/
theorem results_two2 {P : Program} {fn : Func} {p q : Tmp} {ty : TypeId} (h : fn.results = #[.cell p ty, .tmp q]) (tmps : Array Value) (w : World) (g : Nat) (t : TypeId) (cs : Array Value) (fr : Nat × Nat) (d : TypeDesc) {v : Value}
    (hp : tmps.getD p undef = .pointer (some ⟨g, 0, none⟩)) (hq : tmps.getD q undef = v) (hg : w.heap[g]? = some (.cells cs t fr))
    (hu : P.underlying ty = some d) (hd : (match d with | .struct _ | .array _ _ => true | _ => false) = true) (hi : (P.info? ty).map (·.size) = some cs.size) :
    (results fn tmps).run P w = .ok (.tuple #[.agg cs, v]) w := by
  have hp' : tmps[p]?.getD undef = .pointer (some ⟨g, 0, none⟩) := by simpa using hp
  have hq' : tmps[q]?.getD undef = v := by simpa using hq
  simp [results, h, hp', hq', asAddr, run_loadVar_row w g t ty cs fr d hg hu hd hi]

theorem rdq_other {w : World} {B b i k t : Nat} {zs : List Int} {cs : Array Value} (h : RdQ w B b zs i) (hk : w.heap[k]? = some (.cells cs t (0, 0))) (h8 : t ≠ 5) (hb : k ≠ b) (j : Nat) (v : Value) : RdQ (w.setCell ⟨k, j, none⟩ v) B b zs i :=
  h.keep (by simp [World.setCell]) (fun g hg _ ho => Below.heap_setCell w _ v g (by
    intro e
    have e' : g = k := e
    subst e'
    rcases ho with e | ⟨cur, hc⟩
    · exact hb e
    · rw [hk] at hc
      simp at hc
      exact h8 hc.2))

end Go.Proofs.YthkaeimpflggjaaDoor

/- Words for slices of numbers of any kind: what comes in, make, a store, slices.Equal of ints. -/
namespace Go.Proofs.YthkaeimpflggjaaDoor
open Go.RowKit Go.ChangeShapes Go.WideShapes Go.ChangeAt
set_option linter.unusedVariables false

/-- All are numbers of the kind. -/
def Wf (k : IntKind) (zs : List Int) : Prop := ∀ x ∈ zs, (Lit.int k x).wf = true

set_option maxRecDepth 100000 in
theorem open_nums {T e : TypeId} {k : IntKind} (hT : Tryd.prog.underlying T = some (.slice e)) (he : Tryd.prog.underlying e = some (.int k)) (h1 : Tryd.prog.cellsOf e = 1) {H : Type} {enc : TypeId × Value → H} {W : World} {base : Nat} {v : Value} {d : DataW H} {p : List MemPlace} (hv : Value.okWide Tryd.prog W .any base T v) (h : DataW.Trod enc Tryd.prog W 0 (fun _ => true) true T v d p) :
    ∃ A n c zs, v = .slice A n c ∧ Row W A n (cellsOf k zs) ∧ Wf k zs ∧ n ≤ 9223372036854775807 ∧ n ≤ c := by
  obtain ⟨a, len, cap, rfl⟩ := okWide_slice hT hv
  obtain ⟨fuel, hf⟩ := h
  have key : ∃ zs, (a = none ∧ len = 0 ∧ cap = 0 ∧ zs = []) ∨ ∃ x, a = some x ∧ len ≤ cap ∧ cap ≤ maxLen ∧ zs.length = cap ∧ (∀ i, i < zs.length → W.cell? (x.add i) = some (.int k (zs.getD i 0))) ∧ ∀ n ∈ zs, (Lit.int k n).wf = true := by
    rcases open_ints hT he h1 hf with ⟨hcs, _⟩ | ⟨x, l, c, zs, hcs, _, hl, hm, hz, _, hcell, hwz⟩
    · simp [Value.cells] at hcs
      obtain ⟨rfl, rfl, rfl⟩ := hcs
      exact ⟨[], .inl ⟨rfl, rfl, rfl, rfl⟩⟩
    · simp [Value.cells] at hcs
      obtain ⟨rfl, rfl, rfl⟩ := hcs
      exact ⟨zs, .inr ⟨_, rfl, hl, hm, by simpa using hz, hcell, hwz⟩⟩
  obtain ⟨zs, w0⟩ := key
  refine ⟨a, len, cap, zs.take len, rfl, (row_of w0).1, (row_of w0).2.2, (row_of w0).2.1, ?_⟩
  rcases w0 with ⟨_, h1, h2, _⟩ | ⟨_, _, h, _⟩
  · omega
  · exact h

theorem cellsOf_set (k : IntKind) (zs : List Int) (j : Nat) (x : Int) : cellsOf k (zs.set j x) = (cellsOf k zs).set j (.int k x) := by simp [cellsOf, List.map_set]

section
variable {t : TypeId} {k : IntKind} {w : World} {B g n c : Nat} {zs : List Int}

theorem Own.thaw (h : Own t k w B (some ⟨g, 0, none⟩) n c zs) (o : Nat) : w.frozen? ⟨g, o, none⟩ = false := by
  rcases h.shape with ⟨e, _⟩ | ⟨g', cur, e, _, _, hh, _⟩
  · cases e
  · simp only [Option.some.injEq, Addr.mk.injEq, and_true] at e
    subst e
    simp [World.frozen?, hh]

theorem Own.block (h : Own t k w B (some ⟨g, 0, none⟩) n c zs) : ∃ cur, w.heap[g]? = some (.cells cur t (0, 0)) := by
  rcases h.shape with ⟨e, _⟩ | ⟨g', cur, e, _, _, hh, _⟩
  · cases e
  · simp only [Option.some.injEq, Addr.mk.injEq, and_true] at e
    subst e
    exact ⟨cur, hh⟩

/-- A store into a fresh row of numbers. -/
theorem Own.set (h : Own t k w B (some ⟨g, 0, none⟩) n c zs) (j : Nat) (x : Int) : Own t k (w.setCell ⟨g, j, none⟩ (.int k x)) B (some ⟨g, 0, none⟩) n c (zs.set j x) := by
  rcases h.shape with ⟨e, _⟩ | ⟨g', cur, e, hB, hg, hh, h1, h2, h3, h4⟩
  · cases e
  · simp only [Option.some.injEq, Addr.mk.injEq, and_true] at e
    subst e
    have hl := h.len
    refine ⟨by rw [cellsOf_length, List.length_set, hl]; omega, .inr ⟨g, c, cur.setIfInBounds j (.int k x), rfl, hB, ?_, h1, h2, by simpa using h3, ?_⟩⟩
    · simp [World.setCell, Array.getElem?_modify, hh]
    · rw [cellsOf_set, ← h4, Nat.mul_one]
      simp [List.take_set]
end

/-- 'make([]T, n, m)' for numbers. -/
theorem wpList_make_ints {P : Program} {w : World} {ops : Array Oper} {rest : List Oper} {o : Oper} {a : Act} {Q : Exit → Act → World → Prop} (hg : o.guard = none) (l c : Operand) (T : TypeId) (hop : o.op = Op.makeSlice T l c)
    (t : TypeId) (k : IntKind) (B : Nat) (i : TypeInfo) (b : Nat) (h1 : P.underlying T = some (.slice t)) (h2 : P.info? t = some i) (h3 : i.zero = some (.int k 0)) (h4 : i.size = 1) (h5 : i.bytes = b)
    (L C : Int) (n m : Nat) (hl : a.eval l = .int .i64 L) (hc : a.eval c = .int .i64 C) (hL : L = (n : Int)) (hC : C = (m : Int)) (hnm : n ≤ m) (b2 : b * m ≤ 281474976710656) (b3 : m ≤ 9223372036854775807) (b4 : B ≤ w.heap.size)
    (hK : ∀ w', Own t k w' B (some ⟨w.heap.size, 0, none⟩) n m (List.replicate n 0) → w.grownBy w' none → wpList P ops Q rest (a.put o.dst (.slice (some ⟨w.heap.size, 0, none⟩) n m)) w') : wpList P ops Q (o :: rest) a w := by
  refine wpList_plain hg fun K hK' => ?_
  subst hL hC h5
  have hb' : (i.bytes : Int) * (m : Int) ≤ 281474976710656 := by
    have h : ((i.bytes * m : Nat) : Int) ≤ 281474976710656 := by omega
    rwa [Int.natCast_mul] at h
  have hr := run_make (P := P) w T t i (.int k 0) h1 h2 h3 .i64 .i64 n m (by omega) (by omega) hb' (by omega)
  simp only [Int.toNat_natCast, h4, Nat.mul_one] at hr
  unfold Oper.wp
  simp [execOp, hop, hl, hc, hr, Result.andThen]
  refine hK' _ _ (hK _ ?_ (World.grownBy_alloc w _ none))
  refine ⟨by rw [cellsOf_length, List.length_replicate]; omega, .inr ⟨w.heap.size, m, _, rfl, b4, heap_alloc_new w _, hnm, by simp only [maxLen]; omega, by rw [size_madeCells, Nat.mul_one], ?_⟩⟩
  rw [Nat.mul_one]
  apply List.ext_getElem?
  intro j
  by_cases hj : j < n
  · simp [madeCells, cellsOf, hj, Nat.mod_one, Value.cells, show j < m by omega]
  · simp [List.getElem?_take, hj, cellsOf]

theorem Tryd.i64info : (Tryd.prog.info? 3).map (fun i => (i.zero, i.size, i.bytes)) = some (some (.int .i64 0), 1, 8) := by kernel_rfl

/-- What a call that tells fresh numbers, or that there are none, leaves. -/
def RetPl (w : World) (ok : Bool) (zs : List Int) (bad good : Value) (e : Ending) (w' : World) : Prop :=
  Below w.heap.size w w' ∧ ((ok = false ∧ e = .returned (.tuple #[.slice none 0 0, bad])) ∨ (ok = true ∧ ∃ A n c, e = .returned (.tuple #[.slice A n c, good]) ∧ Own 3 .i64 w' w.heap.size A n c zs))

end Go.Proofs.YthkaeimpflggjaaDoor

/- group.Parse, as a contract over this seat's translation. -/
namespace Go.Proofs.YthkaeimpflggjaaDoor
open Go.RowKit
set_option linter.unusedVariables false

theorem row_take16 {w : World} {A : Option Addr} {n : Nat} {zs : List Int} (M : Nat) (hr : Row w A n (cellsOf .u8 zs)) : Row w A (min n M) (cellsOf .u8 (zs.take M)) := by
  have h := hr.take (k := min n M) (Nat.min_le_left _ _)
  rw [cellsOf_take] at h
  have hl := hr.len
  rw [show zs.take M = zs.take (min n M) by
    rcases Nat.le_total n M with h1 | h1
    · rw [List.take_of_length_le (by omega), List.take_of_length_le (by omega)]
    · rw [show min n M = M by omega]]
  exact h

/-- How many groups it says that it has. -/
def gCnt (zs : List Int) : Int := if gFront zs then n4at zs 12 else 0

set_option maxRecDepth 100000 in
set_option maxHeartbeats 2000000 in
theorem gcount_any (A : Option Addr) (n c : Nat) (zs : List Int) (w : World) (hr : Row w A n (cellsOf .u8 zs)) (hB : Bytes zs) (hn : n ≤ 1000000) (hc : n ≤ c) :
    Calls Tryd.prog 69 #[.slice A n c] w (Ret w (.tuple #[.int .i64 (gCnt zs), .bool (gFront zs)])) := by
  obtain ⟨m, hm, hmn, hm16⟩ : ∃ m : Nat, min (n : Int) 16 = m ∧ m ≤ n ∧ m ≤ 16 := ⟨min n 16, by omega, by omega, by omega⟩
  have hr' : Row w A m (cellsOf .u8 (zs.take 16)) := by rw [show m = min n 16 by omega]; exact row_take16 16 hr
  have hB' : Bytes (zs.take 16) := cut_bytes hB _
  have hf : gFront zs = (decide (n2at (zs.take 16) 0 = 12) && decide (n2at (zs.take 16) 2 = 0) && decide (n4at (zs.take 16) 4 = 16 + 12 * n4at (zs.take 16) 12) && decide (n4at (zs.take 16) 4 ≤ n)) := by
    unfold gFront
    rw [n2at_takeG zs 16 0 (by omega), n2at_takeG zs 16 2 (by omega), n4at_takeG zs 16 4 (by omega), n4at_takeG zs 16 12 (by omega), hr.len]
  have hv : gCnt zs = if gFront zs then n4at (zs.take 16) 12 else 0 := by unfold gCnt; rw [n4at_takeG zs 16 12 (by omega)]
  have hl' := hr'.len
  clear hr hB
  generalize zs.take 16 = ps at *
  generalize gFront zs = F at *
  generalize gCnt zs = C at *
  have HV := Lib.hid hv
  clear hv
  have HB := Lib.hid hB'
  have HL := Lib.hid hl'
  have HF := Lib.hid hf
  clear hf hl' hB'
  have k0 := n2at_lt HB.out 0
  have k2 := n2at_lt HB.out 2
  have k4 := n4at_lt HB.out 4
  have k12 := n4at_lt HB.out 12
  have hmc : (m : Int) ≤ (c : Int) := by omega
  have hm0 : (0 : Int) ≤ (m : Int) := by omega
  go_enter Tryd.func69, Tryd.ntmps69
  go_wp2_with fail
  refine (new_any A m _ ps w hr' (by omega)).mono ?_
  rintro e w1 ⟨b, rfl, hrd, hb1⟩
  have hq := RdQ.new hrd
  clear hrd hr' hm
  go_wp2_with fail
  with_reducible refine (rdq_u16 hq HB.out (by have := HL.out; omega)).mono ?_
  rintro e w2 ⟨rfl, hq2, hg2⟩
  have hb2 := hb1.grown hg2 hb1.size (fun k e => by cases e; exact hq.from_)
  clear hq hg2 hb1
  go_wp2_with fail
  with_reducible refine (rdq_u16 hq2 HB.out (by have := HL.out; omega)).mono ?_
  rintro e w3 ⟨rfl, hq3, hg3⟩
  have hb3 := hb2.grown hg3 hb2.size (fun k e => by cases e; exact hq2.from_)
  clear hq2 hg3 hb2
  simp only [Nat.zero_add, Nat.reduceAdd] at hq3 ⊢
  generalize n2at ps 0 = v0 at *
  generalize n2at ps 2 = v2 at *
  cases hx0 : (v0 == 12) with
  | false =>
    have HF' : Hid (F = false) := by show _ = _; rw [HF.out]; simp at hx0; simp [hx0]
    cases hx2 : (v2 == 0) with
    | false =>
      go_wp2_with fail
      with_reducible refine (rdq_u32 hq3 HB.out (by have := HL.out; omega)).mono ?_
      rintro e w4 ⟨rfl, hq4, hg4⟩
      have hb4 := hb3.grown hg4 hb3.size (fun k e => by cases e; exact hq3.from_)
      clear hq3 hg4 hb3
      go_wp2_with fail
      with_reducible refine (rdq_u32 hq4 HB.out (by have := HL.out; omega)).mono ?_
      rintro e w5 ⟨rfl, hq5, hg5⟩
      have hb5 := hb4.grown hg5 hb4.size (fun k e => by cases e; exact hq4.from_)
      clear hq4 hg5 hb4
      go_wp2_with fail
      with_reducible refine (rdq_u32 hq5 HB.out (by have := HL.out; omega)).mono ?_
      rintro e w6 ⟨rfl, hq6, hg6⟩
      have hb6 := hb5.grown hg6 hb5.size (fun k e => by cases e; exact hq5.from_)
      clear hq5 hg6 hb5
      go_wp2
      go_ret2
      rw [HV.out, HF'.out]
      exact ⟨rfl, hb6⟩
    | true =>
      go_wp2_with fail
      with_reducible refine (rdq_u32 hq3 HB.out (by have := HL.out; omega)).mono ?_
      rintro e w4 ⟨rfl, hq4, hg4⟩
      have hb4 := hb3.grown hg4 hb3.size (fun k e => by cases e; exact hq3.from_)
      clear hq3 hg4 hb3
      go_wp2_with fail
      with_reducible refine (rdq_u32 hq4 HB.out (by have := HL.out; omega)).mono ?_
      rintro e w5 ⟨rfl, hq5, hg5⟩
      have hb5 := hb4.grown hg5 hb4.size (fun k e => by cases e; exact hq4.from_)
      clear hq4 hg5 hb4
      go_wp2_with fail
      with_reducible refine (rdq_u32 hq5 HB.out (by have := HL.out; omega)).mono ?_
      rintro e w6 ⟨rfl, hq6, hg6⟩
      have hb6 := hb5.grown hg6 hb5.size (fun k e => by cases e; exact hq5.from_)
      clear hq5 hg6 hb5
      go_wp2
      go_ret2
      rw [HV.out, HF'.out]
      exact ⟨rfl, hb6⟩
  | true =>
    cases hx2 : (v2 == 0) with
    | false =>
      have HF' : Hid (F = false) := by show _ = _; rw [HF.out]; simp at hx2; simp [hx2]
      go_wp2_with fail
      with_reducible refine (rdq_u32 hq3 HB.out (by have := HL.out; omega)).mono ?_
      rintro e w4 ⟨rfl, hq4, hg4⟩
      have hb4 := hb3.grown hg4 hb3.size (fun k e => by cases e; exact hq3.from_)
      clear hq3 hg4 hb3
      go_wp2_with fail
      with_reducible refine (rdq_u32 hq4 HB.out (by have := HL.out; omega)).mono ?_
      rintro e w5 ⟨rfl, hq5, hg5⟩
      have hb5 := hb4.grown hg5 hb4.size (fun k e => by cases e; exact hq4.from_)
      clear hq4 hg5 hb4
      go_wp2_with fail
      with_reducible refine (rdq_u32 hq5 HB.out (by have := HL.out; omega)).mono ?_
      rintro e w6 ⟨rfl, hq6, hg6⟩
      have hb6 := hb5.grown hg6 hb5.size (fun k e => by cases e; exact hq5.from_)
      clear hq5 hg6 hb5
      go_wp2
      go_ret2
      rw [HV.out, HF'.out]
      exact ⟨rfl, hb6⟩
    | true =>
      have HF' : Hid (F = (decide (n4at ps 4 = 16 + 12 * n4at ps 12) && decide (n4at ps 4 ≤ n))) := by show _ = _; rw [HF.out]; simp at hx2 hx0; simp [hx2, hx0]
      clear HF
      go_wp2_with fail
      with_reducible refine (rdq_u32 hq3 HB.out (by have := HL.out; omega)).mono ?_
      rintro e w4 ⟨rfl, hq4, hg4⟩
      have hb4 := hb3.grown hg4 hb3.size (fun k e => by cases e; exact hq3.from_)
      clear hq3 hg4 hb3
      go_wp2_with fail
      with_reducible refine (rdq_u32 hq4 HB.out (by have := HL.out; omega)).mono ?_
      rintro e w5 ⟨rfl, hq5, hg5⟩
      have hb5 := hb4.grown hg5 hb4.size (fun k e => by cases e; exact hq4.from_)
      clear hq4 hg5 hb4
      go_wp2_with fail
      with_reducible refine (rdq_u32 hq5 HB.out (by have := HL.out; omega)).mono ?_
      rintro e w6 ⟨rfl, hq6, hg6⟩
      have hb6 := hb5.grown hg6 hb5.size (fun k e => by cases e; exact hq5.from_)
      clear hq5 hg6 hb5 hq6
      simp only [Nat.reduceAdd] at *
      generalize n4at ps 4 = s at *
      generalize n4at ps 12 = q at *
      by_cases h1 : q ≤ 1114112
      · by_cases h2 : s = 16 + q * 12
        · have b2 : (s != 16 + q * 12) = false := by simp [h2]
          by_cases h3 : s ≤ n
          · have HG : Hid (F = true) := by show _ = _; rw [HF'.out]; simp [h3]; omega
            clear h2
            go_wp2
            go_ret2
            rw [HV.out, HG.out]
            exact ⟨rfl, hb6⟩
          · have HG : Hid (F = false) := by show _ = _; rw [HF'.out]; simp [h3]
            clear h2
            go_wp2
            go_ret2
            rw [HV.out, HG.out]
            exact ⟨rfl, hb6⟩
        · have b2 : (s != 16 + q * 12) = true := by simp [h2]
          have HG : Hid (F = false) := by show _ = _; rw [HF'.out]; simp; intro h; omega
          clear h2
          go_wp2
          go_ret2
          rw [HV.out, HG.out]
          exact ⟨rfl, hb6⟩
      · have HG : Hid (F = false) := by show _ = _; rw [HF'.out]; simp; intro h; omega
        go_wp2
        go_ret2
        rw [HV.out, HG.out]
        exact ⟨rfl, hb6⟩

def rnV (x : Rn) : Value := .agg #[.int .i32 x.a, .int .i32 x.b, .int .u16 x.g]

def rgV (x : Rn) : Value := if gOne x then rnV x else rnV ⟨0, 0, 0⟩

/-- What reading a group leaves. -/
def RetRG (w : World) (B b : Nat) (zs : List Int) (i : Nat) (x : Rn) (e : Ending) (w' : World) : Prop :=
  e = .returned (.tuple #[rgV x, .bool (gOne x)]) ∧ RdQ w' B b zs (i + 12) ∧ w.grownBy w' (some b)

set_option maxRecDepth 100000 in
set_option maxHeartbeats 2000000 in
theorem gread_any (B b : Nat) (zs : List Int) (i : Nat) (w : World) (h : RdQ w B b zs i) (hB : Bytes zs) (hl : zs.length ≤ 140737488351232) :
    Calls Tryd.prog 70 #[.pointer (some ⟨b, 0, none⟩)] w (RetRG w B b zs i ⟨n4at zs i, n4at zs (i + 4), n4at zs (i + 8)⟩) := by
  have HB := Lib.hid hB
  have k0 := n4at_lt hB i
  have k4 := n4at_lt hB (i + 4)
  have k8 := n4at_lt hB (i + 8)
  clear hB
  have hbb := h.lt
  have hA : Below w.heap.size w (w.alloc (.cells #[.int .i32 0, .int .i32 0, .int .u16 0] 94)) := (Below.refl _ _).alloc (Nat.le_refl _) _
  have hq := h.below hA
  have hgA := grown_of_below hA (some b)
  have hk : (w.alloc (.cells #[.int .i32 0, .int .i32 0, .int .u16 0] 94)).heap[w.heap.size]? = some (.cells #[.int .i32 0, .int .i32 0, .int .u16 0] 94 (0, 0)) := heap_alloc_new _ _
  go_enter Tryd.func70, Tryd.ntmps70
  go_wp2_with fail
  with_reducible refine (rdq_u32 hq HB.out hl).mono ?_
  rintro e w1 ⟨rfl, hq1, hg1⟩
  have hgB := grown_trans hgA hg1
  replace hk := (hg1.block w.heap.size (by simp) (by intro e; cases e; omega)).trans hk
  clear hq hg1 hgA hA h
  go_wp2_with fail
  with_reducible refine (rdq_u32 hq1 HB.out hl).mono ?_
  rintro e w2 ⟨rfl, hq2, hg2⟩
  have hgC := grown_trans hgB hg2
  replace hk := (hg2.block w.heap.size (lt_of_block hk) (by intro e; cases e; omega)).trans hk
  clear hq1 hg2 hgB
  go_wp2_with fail
  with_reducible refine (rdq_u32 hq2 HB.out hl).mono ?_
  rintro e w3 ⟨rfl, hq3, hg3⟩
  have hgD := grown_trans hgC hg3
  replace hk := (hg3.block w.heap.size (lt_of_block hk) (by intro e; cases e; omega)).trans hk
  clear hq2 hg3 hgC
  simp only [Nat.add_assoc, Nat.reduceAdd] at hq3 ⊢
  have c0 : w3.cell? ⟨w.heap.size, 0, none⟩ = some (.int .i32 0) := cell_of_row w3 _ 0 _ _ _ hk
  have c1 : w3.cell? ⟨w.heap.size, 1, none⟩ = some (.int .i32 0) := cell_of_row w3 _ 1 _ _ _ hk
  have c2 : w3.cell? ⟨w.heap.size, 2, none⟩ = some (.int .u16 0) := cell_of_row w3 _ 2 _ _ _ hk
  have f0 := thawed hk
  have hwb : w.heap.size ≠ b := by omega
  have hk3 := lt_of_block hk
  have HE : Hid (∀ v0 v1 v2 : Value, (((w3.setCell ⟨w.heap.size, 0, none⟩ v0).setCell ⟨w.heap.size, 1, none⟩ v1).setCell ⟨w.heap.size, 2, none⟩ v2).heap[w.heap.size]? = some (.cells #[v0, v1, v2] 94 (0, 0)) ∧ RdQ (((w3.setCell ⟨w.heap.size, 0, none⟩ v0).setCell ⟨w.heap.size, 1, none⟩ v1).setCell ⟨w.heap.size, 2, none⟩ v2) B b zs (i + 12) ∧ w.grownBy (((w3.setCell ⟨w.heap.size, 0, none⟩ v0).setCell ⟨w.heap.size, 1, none⟩ v1).setCell ⟨w.heap.size, 2, none⟩ v2) (some b)) := by
    show ∀ _, _
    intro v0 v1 v2
    have s1 := set_block hk 0 v0
    have s2 := set_block s1 1 v1
    have s3 := set_block s2 2 v2
    exact ⟨s3, rdq_other (rdq_other (rdq_other hq3 hk (by decide) hwb 0 v0) s1 (by decide) hwb 1 v1) s2 (by decide) hwb 2 v2, grown_new (Nat.le_refl _) _ _ (grown_new (Nat.le_refl _) _ _ (grown_new (Nat.le_refl _) _ _ hgD))⟩
  have SI : Hid ((Tryd.prog.info? 94).map (·.size) = some 3) := by show _ = _; kernel_rfl
  clear hk hq3 hgD
  generalize hx : (⟨n4at zs i, n4at zs (i + 4), n4at zs (i + 8)⟩ : Rn) = x at *
  have HX : Hid (x.a = n4at zs i ∧ x.b = n4at zs (i + 4) ∧ x.g = n4at zs (i + 8)) := by subst hx; exact ⟨rfl, rfl, rfl⟩
  clear hx
  generalize n4at zs i = a at *
  generalize n4at zs (i + 4) = z at *
  generalize n4at zs (i + 8) = g at *
  have HG : Hid (gOne x = decide (a ≤ z ∧ z ≤ 1114111 ∧ g + (z - a) ≤ 65535)) := by show _ = _; unfold gOne; rw [HX.out.1, HX.out.2.1, HX.out.2.2]
  by_cases h1 : a ≤ z
  · by_cases h2 : z ≤ 1114111
    · by_cases h3 : g ≤ 65535
      · by_cases h4 : g + (z - a) ≤ 65535
        · have HG' : Hid (rgV x = .agg #[.int .i32 a, .int .i32 z, .int .u16 g] ∧ gOne x = true) := by
            have e : gOne x = true := by rw [HG.out, decide_eq_true_eq]; exact ⟨h1, h2, h4⟩
            refine ⟨?_, e⟩
            unfold rgV rnV
            rw [e, HX.out.1, HX.out.2.1, HX.out.2.2]
            rfl
          clear HG
          go_wp2
          obtain ⟨s3, s4, s5⟩ := HE.out (.int .i32 a) (.int .i32 z) (.int .u16 g)
          exact bodyPost_ret (v := .tuple #[.agg #[.int .i32 a, .int .i32 z, .int .u16 g], .bool true]) (results_two2 Tryd.results70 _ _ w.heap.size 94 _ (0, 0) _ rfl rfl s3 Tryd.underlying94 rfl SI.out) rfl ⟨by rw [HG'.out.1, HG'.out.2], s4, s5⟩
        · have HG' : Hid (rgV x = .agg #[.int .i32 0, .int .i32 0, .int .u16 0] ∧ gOne x = false) := by
            have e : gOne x = false := by rw [HG.out, decide_eq_false_iff_not]; omega
            refine ⟨?_, e⟩
            unfold rgV rnV
            rw [e]
            rfl
          clear HG
          go_wp2
          obtain ⟨s3, s4, s5⟩ := HE.out (.int .i32 0) (.int .i32 0) (.int .u16 0)
          exact bodyPost_ret (v := .tuple #[.agg #[.int .i32 0, .int .i32 0, .int .u16 0], .bool false]) (results_two2 Tryd.results70 _ _ w.heap.size 94 _ (0, 0) _ rfl rfl s3 Tryd.underlying94 rfl SI.out) rfl ⟨by rw [HG'.out.1, HG'.out.2], s4, s5⟩
      · have HG' : Hid (rgV x = .agg #[.int .i32 0, .int .i32 0, .int .u16 0] ∧ gOne x = false) := by
          have e : gOne x = false := by rw [HG.out, decide_eq_false_iff_not]; omega
          refine ⟨?_, e⟩
          unfold rgV rnV
          rw [e]
          rfl
        clear HG
        go_wp2
        obtain ⟨s3, s4, s5⟩ := HE.out (.int .i32 0) (.int .i32 0) (.int .u16 0)
        exact bodyPost_ret (v := .tuple #[.agg #[.int .i32 0, .int .i32 0, .int .u16 0], .bool false]) (results_two2 Tryd.results70 _ _ w.heap.size 94 _ (0, 0) _ rfl rfl s3 Tryd.underlying94 rfl SI.out) rfl ⟨by rw [HG'.out.1, HG'.out.2], s4, s5⟩
    · have HG' : Hid (rgV x = .agg #[.int .i32 0, .int .i32 0, .int .u16 0] ∧ gOne x = false) := by
        have e : gOne x = false := by rw [HG.out, decide_eq_false_iff_not]; omega
        refine ⟨?_, e⟩
        unfold rgV rnV
        rw [e]
        rfl
      clear HG
      go_wp2
      obtain ⟨s3, s4, s5⟩ := HE.out (.int .i32 0) (.int .i32 0) (.int .u16 0)
      exact bodyPost_ret (v := .tuple #[.agg #[.int .i32 0, .int .i32 0, .int .u16 0], .bool false]) (results_two2 Tryd.results70 _ _ w.heap.size 94 _ (0, 0) _ rfl rfl s3 Tryd.underlying94 rfl SI.out) rfl ⟨by rw [HG'.out.1, HG'.out.2], s4, s5⟩
  · have HG' : Hid (rgV x = .agg #[.int .i32 0, .int .i32 0, .int .u16 0] ∧ gOne x = false) := by
      have e : gOne x = false := by rw [HG.out, decide_eq_false_iff_not]; omega
      refine ⟨?_, e⟩
      unfold rgV rnV
      rw [e]
      rfl
    clear HG
    go_wp2
    obtain ⟨s3, s4, s5⟩ := HE.out (.int .i32 0) (.int .i32 0) (.int .u16 0)
    exact bodyPost_ret (v := .tuple #[.agg #[.int .i32 0, .int .i32 0, .int .u16 0], .bool false]) (results_two2 Tryd.results70 _ _ w.heap.size 94 _ (0, 0) _ rfl rfl s3 Tryd.underlying94 rfl SI.out) rfl ⟨by rw [HG'.out.1, HG'.out.2], s4, s5⟩

end Go.Proofs.YthkaeimpflggjaaDoor
