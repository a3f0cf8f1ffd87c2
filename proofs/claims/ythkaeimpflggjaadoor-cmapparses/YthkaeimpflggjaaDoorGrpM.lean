/- Tables of groups: plain lists. -/
import Derived.Test.YthkaeimpflggjaaDoorRunM
namespace Go.Proofs.YthkaeimpflggjaaDoor
set_option linter.unusedVariables false

theorem told_takeG (zs : List Int) (M i m : Nat) (h : i + m ≤ M) : told ((zs.take M).drop i) m = told (zs.drop i) m := by
  unfold told
  rw [List.drop_take]
  simp only [List.length_take, List.length_drop, List.take_take]
  by_cases hl : m ≤ zs.length - i
  · rw [if_pos (by omega), if_pos hl, Nat.min_eq_left (by omega)]
  · rw [if_neg (by omega), if_neg hl]
theorem n2at_takeG (zs : List Int) (M i : Nat) (h : i + 2 ≤ M) : n2at (zs.take M) i = n2at zs i := by unfold n2at num; rw [told_takeG zs M i 2 h]
theorem n4at_takeG (zs : List Int) (M i : Nat) (h : i + 4 ≤ M) : n4at (zs.take M) i = n4at zs i := by unfold n4at num; rw [told_takeG zs M i 4 h]
theorem n2at_dropG (zs : List Int) (m i : Nat) : n2at (zs.drop m) i = n2at zs (m + i) := by unfold n2at; rw [List.drop_drop]
theorem n4at_dropG (zs : List Int) (m i : Nat) : n4at (zs.drop m) i = n4at zs (m + i) := by unfold n4at; rw [List.drop_drop]

def gN (zs : List Int) : Nat := (n4at zs 12).toNat
def gFront (zs : List Int) : Bool := decide (n2at zs 0 = 12) && decide (n2at zs 2 = 0) && decide (n4at zs 4 = 16 + 12 * n4at zs 12) && decide (n4at zs 4 ≤ zs.length)
def gAt (zs : List Int) (i : Nat) : Rn := ⟨n4at zs (16 + 12 * i), n4at zs (20 + 12 * i), n4at zs (24 + 12 * i)⟩
def gOne (x : Rn) : Bool := decide (x.a ≤ x.b ∧ x.b ≤ 1114111 ∧ x.g + (x.b - x.a) ≤ 65535)
/-- The least that a Start may be. -/
def gLeast (zs : List Int) (i : Nat) : Int := if i = 0 then 0 else n4at zs (8 + 12 * i) + 1
def gOkAt (zs : List Int) (i : Nat) : Bool := gOne (gAt zs i) && decide (gLeast zs i ≤ n4at zs (16 + 12 * i))
def gOkK (zs : List Int) (k : Nat) : Bool := (List.range k).all (gOkAt zs)
def grps (zs : List Int) (k : Nat) : List Rn := (List.range k).map (gAt zs)
def gRight (zs : List Int) : Bool := gFront zs && gOkK zs (gN zs)

theorem gOkK_succ (zs : List Int) (k : Nat) : gOkK zs (k + 1) = (gOkK zs k && gOkAt zs k) := by simp [gOkK, List.range_succ]
theorem gOkK_not {zs : List Int} {k n : Nat} (h : k < n) (hk : gOkAt zs k = false) : gOkK zs n = false := by
  unfold gOkK
  rw [List.all_eq_false]
  exact ⟨k, List.mem_range.2 h, by simp [hk]⟩
theorem grps_len (zs : List Int) (k : Nat) : (grps zs k).length = k := by simp [grps]
theorem grps_succ (zs : List Int) (k : Nat) : grps zs (k + 1) = grps zs k ++ [gAt zs k] := by simp [grps, List.range_succ]
theorem grps_set (zs : List Int) (n k : Nat) (z : Rn) (h : k < n) : (grps zs k ++ List.replicate (n - k) z).set k (gAt zs k) = grps zs (k + 1) ++ List.replicate (n - (k + 1)) z := by
  rw [List.set_append_right _ _ (by rw [grps_len]; exact Nat.le_refl _), grps_len, Nat.sub_self, grps_succ, List.append_assoc, show n - k = (n - (k + 1)) + 1 by omega, List.replicate_succ]
  rfl
theorem grps_get (zs : List Int) (n i : Nat) (x : Rn) (h : (grps zs n)[i]? = some x) : i < n ∧ x = gAt zs i := by
  obtain ⟨h1, h2⟩ := List.getElem?_eq_some_iff.1 h
  simp [grps] at h1 h2
  exact ⟨h1, h2.symm⟩
theorem gRight_front {zs : List Int} (h : gFront zs = false) : gRight zs = false := by unfold gRight; rw [h]; rfl
theorem gRight_is {zs : List Int} (h : gFront zs = true) : gRight zs = gOkK zs (gN zs) := by unfold gRight; rw [h]; rfl

theorem rnOK_of (most : Int) : ∀ (l : List Rn) (ah : Int), (∀ x : Rn, l[0]? = some x → ah < x.a) → (∀ (i : Nat) (x : Rn), l[i]? = some x → x.a ≤ x.b ∧ x.b ≤ most) → (∀ (i : Nat) (x y : Rn), l[i]? = some x → l[i + 1]? = some y → x.b < y.a) → rnOK most ah l
  | [], _, _, _, _ => trivial
  | x :: r, ah, h0, h1, h2 => by
    have hx := h1 0 x rfl
    refine ⟨h0 x rfl, hx.1, hx.2, rnOK_of most r x.b (fun y hy => h2 0 x y rfl (by simpa using hy)) (fun i y hy => h1 (i + 1) y (by simpa using hy)) (fun i y z hy hz => h2 (i + 1) y z (by simpa using hy) (by simpa using hz))⟩

theorem gOk_at {zs : List Int} {n i : Nat} (h : gOkK zs n = true) (hi : i < n) : gOkAt zs i = true := by
  unfold gOkK at h
  rw [List.all_eq_true] at h
  exact h i (List.mem_range.2 hi)

theorem grps_ok {zs : List Int} {n : Nat} (hB : Bytes zs) (h : gOkK zs n = true) : rnOK 1114111 (-1) (grps zs n) := by
  refine rnOK_of _ _ _ (fun x hx => ?_) (fun i x hx => ?_) (fun i x y hx hy => ?_)
  · obtain ⟨_, rfl⟩ := grps_get _ _ _ _ hx
    have := n4at_lt hB (16 + 12 * 0)
    show -1 < n4at zs _
    omega
  · obtain ⟨hi, rfl⟩ := grps_get _ _ _ _ hx
    have := gOk_at h hi
    simp [gOkAt, gOne] at this
    exact ⟨this.1.1, this.1.2.1⟩
  · obtain ⟨_, rfl⟩ := grps_get _ _ _ _ hx
    obtain ⟨hi, rfl⟩ := grps_get _ _ _ _ hy
    have := gOk_at h hi
    simp [gOkAt, gLeast] at this
    show n4at zs _ < n4at zs _
    rw [show 8 + 12 * (i + 1) = 20 + 12 * i by omega] at this
    omega

theorem grps_fit {zs : List Int} {n : Nat} (hB : Bytes zs) (h : gOkK zs n = true) : ∀ x ∈ grps zs n, 0 ≤ x.a ∧ x.b ≤ 1114111 ∧ 0 ≤ x.g ∧ x.a ≤ x.b ∧ x.g + (x.b - x.a) ≤ 65535 := by
  intro x hx
  obtain ⟨i, hi⟩ := List.mem_iff_getElem?.1 hx
  obtain ⟨hl, rfl⟩ := grps_get _ _ _ _ hi
  have := gOk_at h hl
  simp [gOkAt, gOne] at this
  have h1 := n4at_lt hB (16 + 12 * i)
  have h2 := n4at_lt hB (24 + 12 * i)
  simp only [gAt] at this ⊢
  omega

/-- What the document's Look finds: the first group that has the code. -/
def findG (code : Int) : List Rn → Int
  | [] => 0
  | x :: r => if x.a ≤ code ∧ code ≤ x.b then x.g + (code - x.a) else findG code r

theorem findG_past {most code : Int} : ∀ (l : List Rn) (ah : Int), rnOK most ah l → code ≤ ah → findG code l = 0
  | [], _, _, _ => rfl
  | x :: r, ah, h, hc => by
    obtain ⟨h1, h2, h3, h4⟩ := h
    rw [findG, if_neg (by omega)]
    exact findG_past r x.b h4 (by omega)

theorem findG_look {most code : Int} : ∀ (l : List Rn) (ah : Int), rnOK most ah l → (∀ x ∈ l, 0 ≤ x.g ∧ x.g + (x.b - x.a) ≤ 65535) → findG code l = lookR l code
  | [], _, _, _ => rfl
  | x :: r, ah, h, hg => by
    obtain ⟨h1, h2, h3, h4⟩ := h
    have hx := hg x (by simp)
    have ih := findG_look (code := code) r x.b h4 (fun y hy => hg y (by simp [hy]))
    rw [findG]
    unfold lookR
    rw [findR]
    by_cases hb : code ≤ x.b
    · rw [if_pos hb]
      simp only
      by_cases ha : x.a ≤ code
      · rw [if_pos ⟨ha, hb⟩, if_pos ha]; omega
      · rw [if_neg (by omega), if_neg ha]; exact findG_past r x.b h4 (by omega)
    · rw [if_neg (by omega), if_neg hb, ih]
      rfl

/-- By places: which run the search has found. -/
theorem findR_at {most code : Int} : ∀ (l : List Rn) (ah : Int) (r : Nat), rnOK most ah l → (0 < r → ∀ y, l[r - 1]? = some y → y.b < code) → (∀ y, l[r]? = some y → code ≤ y.b) → r ≤ l.length → findR code l = l[r]?
  | [], _, r, _, _, _, hr => by
    have : r = 0 := by simpa using hr
    subst this; rfl
  | x :: t, ah, 0, h, h1, h2, hr => by
    rw [findR, if_pos (h2 x rfl)]
    rfl
  | x :: t, ah, r + 1, h, h1, h2, hr => by
    obtain ⟨o1, o2, o3, o4⟩ := h
    have low : ∀ (t : List Rn) (b : Int) (i : Nat) (y : Rn), rnOK most b t → t[i]? = some y → b < y.b := by
      intro t
      induction t with
      | nil => intro b i y _ hy; simp at hy
      | cons z t ih =>
        intro b i y ho hy
        obtain ⟨p1, p2, p3, p4⟩ := ho
        cases i with
        | zero => simp at hy; subst hy; omega
        | succ i => have := ih z.b i y p4 (by simpa using hy); omega
    have hx : ¬ code ≤ x.b := by
      cases r with
      | zero => have := h1 (by omega) x rfl; omega
      | succ r =>
        have hl : r < t.length := by simp at hr; omega
        have hy : (x :: t)[r + 1 + 1 - 1]? = some (t[r]) := by simp [hl]
        have := h1 (by omega) _ hy
        have := low t x.b r _ o4 (List.getElem?_eq_getElem hl)
        omega
    rw [findR, if_neg hx]
    have ih := findR_at t x.b r o4 (fun h0 y hy => h1 (by omega) y (by rw [Nat.add_sub_cancel]; cases r with | zero => omega | succ r => simpa using hy)) (fun y hy => h2 y (by simpa using hy)) (by simpa using hr)
    rw [ih]
    simp

end Go.Proofs.YthkaeimpflggjaaDoor
