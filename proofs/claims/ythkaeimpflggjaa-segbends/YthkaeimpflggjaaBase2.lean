/- What the laws of this seat lean on: RunM GrpM Structs Grow Cells Prs RdQ Two Ints GrpP GrpQ GrpB WrBox GrpC GrpT JoinN Got. -/
import Derived.ChangeSame
import Derived.Deep.Slices
import Derived.OwnWalk
import Derived.BigQuiet
import Derived.Shelf.SlSortCmp.QuietGrown
import Derived.ProofKit
import Derived.Laws.MakeOwn
import Derived.Lib.MinMax
import Derived.Deep.WholeRow
import Derived.RegionTactic
import Derived.ChangeAlike
import Derived.BigRegion
import Derived.Deep.QuietTactic
import Derived.Deep.RegionHeld3
import Derived.Deep.DeepCutAuto
import Derived.Laws.StructEq
import Derived.Test.YthkaeimpflggjaaBase1

/- Pairs that rise, and runs of these: plain lists, for both kinds of tables. -/
namespace Go.Proofs.Ythkaeimpflggjaa
set_option linter.unusedVariables false

structure Pr where
  code : Int
  glyph : Int
deriving Inhabited

structure Rn where
  a : Int
  b : Int
  g : Int
deriving Inhabited

/-- As few runs as there may be. -/
def runsF (fol : Pr → Pr → Bool) : List Pr → List Rn
  | [] => []
  | p :: r => match runsF fol r with
    | [] => [⟨p.code, p.code, p.glyph⟩]
    | h :: t => if fol p ⟨h.a, h.g⟩ then ⟨p.code, h.b, p.glyph⟩ :: t else ⟨p.code, p.code, p.glyph⟩ :: h :: t

theorem runsF_nil (fol : Pr → Pr → Bool) : runsF fol [] = [] := rfl

theorem runsF_one (fol : Pr → Pr → Bool) (p : Pr) : runsF fol [p] = [⟨p.code, p.code, p.glyph⟩] := rfl

theorem runsF_head (fol : Pr → Pr → Bool) (p : Pr) (r : List Pr) : ∃ h t, runsF fol (p :: r) = h :: t ∧ h.a = p.code ∧ h.g = p.glyph := by
  show ∃ h t, (match runsF fol r with
    | [] => [⟨p.code, p.code, p.glyph⟩]
    | h :: t => if fol p ⟨h.a, h.g⟩ then ⟨p.code, h.b, p.glyph⟩ :: t else ⟨p.code, p.code, p.glyph⟩ :: h :: t) = h :: t ∧ _
  split
  · exact ⟨_, _, rfl, rfl, rfl⟩
  · split
    · exact ⟨_, _, rfl, rfl, rfl⟩
    · exact ⟨_, _, rfl, rfl, rfl⟩

theorem runsF_yes (fol : Pr → Pr → Bool) (p q : Pr) (r : List Pr) (h : Rn) (t : List Rn) (e : runsF fol (q :: r) = h :: t) (hf : fol p q = true) : runsF fol (p :: q :: r) = ⟨p.code, h.b, p.glyph⟩ :: t := by
  obtain ⟨h', t', e', ha, hg⟩ := runsF_head fol q r
  rw [e] at e'
  obtain ⟨rfl, rfl⟩ := List.cons.inj e'
  rw [runsF, e]
  simp only [ha, hg]
  rw [if_pos hf]

theorem runsF_no (fol : Pr → Pr → Bool) (p q : Pr) (r : List Pr) (hf : fol p q = false) : runsF fol (p :: q :: r) = ⟨p.code, p.code, p.glyph⟩ :: runsF fol (q :: r) := by
  obtain ⟨h', t', e', ha, hg⟩ := runsF_head fol q r
  rw [runsF, e']
  simp only [ha, hg]
  rw [if_neg (by rw [hf]; simp)]

/-- One pair more. -/
theorem runsF_snoc (fol : Pr → Pr → Bool) (q p : Pr) : ∀ l : List Pr,
    (fol q p = false → runsF fol (l ++ [q, p]) = runsF fol (l ++ [q]) ++ [⟨p.code, p.code, p.glyph⟩]) ∧
    (fol q p = true → ∃ s x, runsF fol (l ++ [q]) = s ++ [x] ∧ runsF fol (l ++ [q, p]) = s ++ [⟨x.a, p.code, x.g⟩])
  | [] => by
    constructor
    · intro hf
      show runsF fol [q, p] = _
      rw [runsF_no fol q p [] hf]
      rfl
    · intro hf
      refine ⟨[], ⟨q.code, q.code, q.glyph⟩, rfl, ?_⟩
      show runsF fol [q, p] = _
      rw [runsF_yes fol q p [] _ _ (runsF_one fol p) hf]
      rfl
  | y :: l => by
    obtain ⟨h1, h2⟩ := runsF_snoc fol q p l
    obtain ⟨z, L, e1, L', e2⟩ : ∃ z L, l ++ [q] = z :: L ∧ ∃ L', l ++ [q, p] = z :: L' := by
      cases l with
      | nil => exact ⟨q, [], rfl, [p], rfl⟩
      | cons z l => exact ⟨z, l ++ [q], rfl, l ++ [q, p], rfl⟩
    rw [e1, e2] at h1 h2
    rw [List.cons_append, List.cons_append, e1, e2]
    cases hy : fol y z with
    | false =>
      rw [runsF_no fol y z L hy, runsF_no fol y z L' hy]
      constructor
      · intro hf
        rw [h1 hf]
        rfl
      · intro hf
        obtain ⟨s, x, h3, h4⟩ := h2 hf
        exact ⟨_ :: s, x, by rw [h3]; rfl, by rw [h4]; rfl⟩
    | true =>
      obtain ⟨h, t, e3, _⟩ := runsF_head fol z L
      rw [runsF_yes fol y z L h t e3 hy]
      rw [e3] at h1 h2
      constructor
      · intro hf
        have h5 : runsF fol (z :: L') = h :: (t ++ [⟨p.code, p.code, p.glyph⟩]) := h1 hf
        rw [runsF_yes fol y z L' _ _ h5 hy]
        rfl
      · intro hf
        obtain ⟨s, x, h3, h4⟩ := h2 hf
        cases s with
        | nil =>
          obtain ⟨rfl, rfl⟩ := List.cons.inj h3
          rw [runsF_yes fol y z L' _ _ h4 hy]
          exact ⟨[], _, rfl, rfl⟩
        | cons s0 s =>
          obtain ⟨rfl, rfl⟩ := List.cons.inj h3
          rw [runsF_yes fol y z L' _ _ h4 hy]
          exact ⟨_ :: s, x, rfl, rfl⟩

/-- By places. -/
theorem take_snoc {l : List Pr} {k : Nat} {p : Pr} (h : l[k]? = some p) : l.take (k + 1) = l.take k ++ [p] := by
  rw [List.take_add_one, h]; rfl

theorem runs_first (fol : Pr → Pr → Bool) {l : List Pr} {p : Pr} (h : l[0]? = some p) : runsF fol (l.take 1) = [⟨p.code, p.code, p.glyph⟩] := by
  rw [take_snoc h]; rfl

theorem runs_step (fol : Pr → Pr → Bool) {l : List Pr} {k : Nat} {q p : Pr} (hq : l[k]? = some q) (hp : l[k + 1]? = some p) :
    (fol q p = false → runsF fol (l.take (k + 1 + 1)) = runsF fol (l.take (k + 1)) ++ [⟨p.code, p.code, p.glyph⟩]) ∧
    (fol q p = true → ∃ s x, runsF fol (l.take (k + 1)) = s ++ [x] ∧ runsF fol (l.take (k + 1 + 1)) = s ++ [⟨x.a, p.code, x.g⟩]) := by
  have := runsF_snoc fol q p (l.take k)
  rw [take_snoc hp, take_snoc hq, List.append_assoc]
  exact this

theorem runsF_len (fol : Pr → Pr → Bool) : ∀ l : List Pr, (runsF fol l).length ≤ l.length
  | [] => by simp [runsF]
  | [p] => by simp [runsF]
  | p :: q :: r => by
    have ih := runsF_len fol (q :: r)
    obtain ⟨h, t, e, _⟩ := runsF_head fol q r
    cases hf : fol p q with
    | false => rw [runsF_no fol p q r hf]; simp at ih ⊢; omega
    | true => rw [runsF_yes fol p q r h t e hf]; rw [e] at ih; simp at ih ⊢; omega

/-- Codes that rise, behind ah, up to most. -/
def risesF (most : Int) : Int → List Pr → Bool
  | _, [] => true
  | ah, p :: r => decide (ah < p.code ∧ p.code ≤ most) && risesF most p.code r

theorem risesF_cons {most ah : Int} {p : Pr} {r : List Pr} (h : risesF most ah (p :: r) = true) : ah < p.code ∧ p.code ≤ most ∧ risesF most p.code r = true := by
  rw [risesF, Bool.and_eq_true, decide_eq_true_eq] at h
  exact ⟨h.1.1, h.1.2, h.2⟩

theorem risesF_mem {most : Int} : ∀ {l : List Pr} {ah : Int}, risesF most ah l = true → ∀ p ∈ l, ah < p.code ∧ p.code ≤ most
  | [], _, _, p, hp => by simp at hp
  | q :: r, ah, h, p, hp => by
    obtain ⟨h1, h2, h3⟩ := risesF_cons h
    rcases List.mem_cons.1 hp with rfl | hp
    · exact ⟨h1, h2⟩
    · have := risesF_mem h3 p hp; omega

/-- Runs apart, behind ah, up to most. -/
def rnOK (most : Int) : Int → List Rn → Prop
  | _, [] => True
  | ah, x :: r => ah < x.a ∧ x.a ≤ x.b ∧ x.b ≤ most ∧ rnOK most x.b r

theorem runs_ok {fol : Pr → Pr → Bool} (hc : ∀ p q, fol p q = true → q.code = p.code + 1) (most : Int) : ∀ (l : List Pr) (ah : Int), risesF most ah l = true → rnOK most ah (runsF fol l)
  | [], _, _ => trivial
  | [p], ah, h => by
    obtain ⟨h1, h2, _⟩ := risesF_cons h
    exact ⟨h1, Int.le_refl _, h2, trivial⟩
  | p :: q :: r, ah, h => by
    obtain ⟨h1, h2, h3⟩ := risesF_cons h
    have ih := runs_ok hc most (q :: r) p.code h3
    obtain ⟨x, t, e, ha, hg⟩ := runsF_head fol q r
    cases hf : fol p q with
    | false => rw [runsF_no fol p q r hf]; exact ⟨h1, Int.le_refl _, h2, ih⟩
    | true =>
      rw [runsF_yes fol p q r x t e hf]
      rw [e] at ih
      obtain ⟨i1, i2, i3, i4⟩ := ih
      exact ⟨h1, by show p.code ≤ x.b; omega, i3, i4⟩

def PrG (l : List Pr) : Prop := ∀ p ∈ l, 0 ≤ p.glyph ∧ p.glyph ≤ 65535

def folG (p q : Pr) : Bool := decide (q.code = p.code + 1 ∧ q.glyph = p.glyph + 1)
def folS (p q : Pr) : Bool := decide (q.code = p.code + 1 ∧ q.glyph = (p.glyph + 1) % 65536)

theorem folG_code (p q : Pr) (h : folG p q = true) : q.code = p.code + 1 := by simp [folG] at h; exact h.1
theorem folS_code (p q : Pr) (h : folS p q = true) : q.code = p.code + 1 := by simp [folS] at h; exact h.1

/-- The glyphs of a run go no further than ffff. -/
theorem runsG_fit : ∀ (l : List Pr), PrG l → ∀ x ∈ runsF folG l, 0 ≤ x.g ∧ x.g + (x.b - x.a) ≤ 65535
  | [], _ => by simp [runsF]
  | [p], h => by
    intro x hx
    rw [runsF_one] at hx
    simp at hx
    subst hx
    have := h p (by simp)
    simp
    omega
  | p :: q :: r, h => by
    have ih := runsG_fit (q :: r) (fun x hx => h x (by simp at hx ⊢; right; exact hx))
    have hp := h p (by simp)
    obtain ⟨y, t, e, ha, hg⟩ := runsF_head folG q r
    intro x hx
    cases hf : folG p q with
    | false =>
      rw [runsF_no folG p q r hf] at hx
      rcases List.mem_cons.1 hx with rfl | hx
      · simp; omega
      · exact ih x hx
    | true =>
      rw [runsF_yes folG p q r y t e hf] at hx
      rw [e] at ih
      have hy := ih y (by simp)
      simp [folG] at hf
      rcases List.mem_cons.1 hx with rfl | hx
      · simp only; omega
      · exact ih x (by simp [hx])

theorem runsS_g : ∀ (l : List Pr), PrG l → ∀ x ∈ runsF folS l, 0 ≤ x.g ∧ x.g ≤ 65535
  | [], _ => by simp [runsF]
  | [p], h => by
    intro x hx
    rw [runsF_one] at hx
    simp at hx
    subst hx
    exact h p (by simp)
  | p :: q :: r, h => by
    have ih := runsS_g (q :: r) (fun x hx => h x (by simp at hx ⊢; right; exact hx))
    have hp := h p (by simp)
    obtain ⟨y, t, e, ha, hg⟩ := runsF_head folS q r
    intro x hx
    cases hf : folS p q with
    | false =>
      rw [runsF_no folS p q r hf] at hx
      rcases List.mem_cons.1 hx with rfl | hx
      · exact hp
      · exact ih x hx
    | true =>
      rw [runsF_yes folS p q r y t e hf] at hx
      rw [e] at ih
      rcases List.mem_cons.1 hx with rfl | hx
      · exact hp
      · exact ih x (by simp [hx])

/-- The first run whose end isn't below a code. -/
def findR (code : Int) : List Rn → Option Rn
  | [] => none
  | x :: r => if code ≤ x.b then some x else findR code r

def lookR (l : List Rn) (code : Int) : Int := match findR code l with
  | none => 0
  | some x => if x.a ≤ code then (x.g + (code - x.a)) % 65536 else 0

def glyphOf (code : Int) : List Pr → Int
  | [] => 0
  | p :: r => if p.code = code then p.glyph else glyphOf code r

theorem glyphOf_none {most code : Int} : ∀ {l : List Pr} {ah : Int}, risesF most ah l = true → (code ≤ ah ∨ most < code) → glyphOf code l = 0
  | [], _, _, _ => rfl
  | p :: r, ah, h, hc => by
    obtain ⟨h1, h2, h3⟩ := risesF_cons h
    rw [glyphOf, if_neg (by omega)]
    exact glyphOf_none h3 (by omega)

theorem glyphOf_mem {most : Int} : ∀ {l : List Pr} {ah : Int}, risesF most ah l = true → ∀ {k : Nat} {p : Pr}, l[k]? = some p → glyphOf p.code l = p.glyph
  | [], _, _, k, p, hp => by simp at hp
  | q :: r, ah, h, k, p, hp => by
    obtain ⟨h1, h2, h3⟩ := risesF_cons h
    cases k with
    | zero => simp at hp; subst hp; rw [glyphOf, if_pos rfl]
    | succ k =>
      have hp' : r[k]? = some p := by simpa using hp
      have := risesF_mem h3 p (List.mem_of_getElem? hp')
      rw [glyphOf, if_neg (by omega)]
      exact glyphOf_mem h3 hp'

theorem lookR_runs {fol : Pr → Pr → Bool} (hc : ∀ p q, fol p q = true → q.code = p.code + 1 ∧ q.glyph % 65536 = (p.glyph + 1) % 65536) (most code : Int) :
    ∀ (l : List Pr) (ah : Int), PrG l → risesF most ah l = true → lookR (runsF fol l) code = glyphOf code l
  | [], _, _, _ => rfl
  | [p], ah, hg, h => by
    obtain ⟨h1, h2, _⟩ := risesF_cons h
    have hp := hg p (by simp)
    rw [runsF_one]
    simp only [lookR, findR, glyphOf]
    by_cases hcp : code ≤ p.code
    · rw [if_pos hcp]
      by_cases he : p.code = code
      · subst he; simp; omega
      · rw [if_neg he]; simp only; rw [if_neg (by omega)]
    · rw [if_neg hcp, if_neg (by omega)]
  | p :: q :: r, ah, hg, h => by
    obtain ⟨h1, h2, h3⟩ := risesF_cons h
    have hgr : PrG (q :: r) := fun x hx => hg x (by simp at hx ⊢; right; exact hx)
    have hp := hg p (by simp)
    have ih := lookR_runs hc most code (q :: r) p.code hgr h3
    have ok := runs_ok (fun a b hab => (hc a b hab).1) most (q :: r) p.code h3
    obtain ⟨x, t, e, ha, hgx⟩ := runsF_head fol q r
    rw [glyphOf]
    rw [e] at ih ok
    obtain ⟨o1, o2, o3, o4⟩ := ok
    cases hf : fol p q with
    | false =>
      rw [runsF_no fol p q r hf, e]
      by_cases hcp : code ≤ p.code
      · have hz : glyphOf code (q :: r) = 0 := glyphOf_none h3 (.inl hcp)
        rw [hz]
        simp only [lookR, findR]
        rw [if_pos hcp]
        by_cases he : p.code = code
        · subst he; simp; omega
        · rw [if_neg he]; simp only; rw [if_neg (by omega)]
      · rw [if_neg (by omega), ← ih]
        simp only [lookR]
        rw [findR, if_neg hcp]
    | true =>
      obtain ⟨f1, f2⟩ := hc p q hf
      rw [runsF_yes fol p q r x t e hf]
      by_cases hcb : code ≤ x.b
      · simp only [lookR, findR] at ih ⊢
        rw [if_pos hcb] at ih ⊢
        simp only at ih ⊢
        by_cases he : p.code = code
        · subst he
          simp
          omega
        · rw [if_neg he, ← ih]
          by_cases hlt : code < p.code
          · rw [if_neg (by omega), if_neg (by omega)]
          · rw [if_pos (by omega), if_pos (by omega)]
            rw [ha, f1, hgx, Int.add_emod, Int.add_emod q.glyph, f2, ← Int.add_emod, ← Int.add_emod]
            congr 1
            omega
      · rw [if_neg (by omega), ← ih]
        simp only [lookR]
        rw [findR, if_neg hcb, findR, if_neg hcb]

theorem lookG_runs (most code : Int) (l : List Pr) (ah : Int) (hg : PrG l) (h : risesF most ah l = true) : lookR (runsF folG l) code = glyphOf code l :=
  lookR_runs (fun p q hf => by simp [folG] at hf; exact ⟨hf.1, by rw [hf.2]⟩) most code l ah hg h
theorem lookS_runs (most code : Int) (l : List Pr) (ah : Int) (hg : PrG l) (h : risesF most ah l = true) : lookR (runsF folS l) code = glyphOf code l :=
  lookR_runs (fun p q hf => by simp [folS] at hf; exact ⟨hf.1, by rw [hf.2]; omega⟩) most code l ah hg h

end Go.Proofs.Ythkaeimpflggjaa

/- Tables of groups: plain lists. -/
namespace Go.Proofs.Ythkaeimpflggjaa
set_option linter.unusedVariables false

theorem told_takeG (zs : List Int) (M i m : Nat) (h : i + m ≤ M) : told ((zs.take M).drop i) m = told (zs.drop i) m := by
  unfold told
  rw [List.drop_take]
  simp only [List.length_take, List.length_drop, List.take_take]
  by_cases hl : m ≤ zs.length - i
  · rw [if_pos (by omega), if_pos hl, Nat.min_eq_left (by omega)]
  · rw [if_neg (by omega), if_neg hl]
theorem n2at_takeG (zs : List Int) (M i : Nat) (h : i + 2 ≤ M) : n2at (zs.take M) i = n2at zs i := by unfold n2at num; rw [told_takeG zs M i 2 h]
theorem n4at_takeG (zs : List Int) (M i : Nat) (h : i + 4 ≤ M) : n4at (zs.take M) i = n4at zs i := by unfold n4at num; rw [told_takeG zs M i 4 h]
theorem n2at_dropG (zs : List Int) (m i : Nat) : n2at (zs.drop m) i = n2at zs (m + i) := by unfold n2at; rw [List.drop_drop]
theorem n4at_dropG (zs : List Int) (m i : Nat) : n4at (zs.drop m) i = n4at zs (m + i) := by unfold n4at; rw [List.drop_drop]

def gN (zs : List Int) : Nat := (n4at zs 12).toNat
def gFront (zs : List Int) : Bool := decide (n2at zs 0 = 12) && decide (n2at zs 2 = 0) && decide (n4at zs 4 = 16 + 12 * n4at zs 12) && decide (n4at zs 4 ≤ zs.length)
def gAt (zs : List Int) (i : Nat) : Rn := ⟨n4at zs (16 + 12 * i), n4at zs (20 + 12 * i), n4at zs (24 + 12 * i)⟩
def gOne (x : Rn) : Bool := decide (x.a ≤ x.b ∧ x.b ≤ 1114111 ∧ x.g + (x.b - x.a) ≤ 65535)
/-- The least that a Start may be. -/
def gLeast (zs : List Int) (i : Nat) : Int := if i = 0 then 0 else n4at zs (8 + 12 * i) + 1
def gOkAt (zs : List Int) (i : Nat) : Bool := gOne (gAt zs i) && decide (gLeast zs i ≤ n4at zs (16 + 12 * i))
def gOkK (zs : List Int) (k : Nat) : Bool := (List.range k).all (gOkAt zs)
def grps (zs : List Int) (k : Nat) : List Rn := (List.range k).map (gAt zs)
def gRight (zs : List Int) : Bool := gFront zs && gOkK zs (gN zs)

theorem gOkK_succ (zs : List Int) (k : Nat) : gOkK zs (k + 1) = (gOkK zs k && gOkAt zs k) := by simp [gOkK, List.range_succ]
theorem gOkK_not {zs : List Int} {k n : Nat} (h : k < n) (hk : gOkAt zs k = false) : gOkK zs n = false := by
  unfold gOkK
  rw [List.all_eq_false]
  exact ⟨k, List.mem_range.2 h, by simp [hk]⟩
theorem grps_len (zs : List Int) (k : Nat) : (grps zs k).length = k := by simp [grps]
theorem grps_succ (zs : List Int) (k : Nat) : grps zs (k + 1) = grps zs k ++ [gAt zs k] := by simp [grps, List.range_succ]
theorem grps_set (zs : List Int) (n k : Nat) (z : Rn) (h : k < n) : (grps zs k ++ List.replicate (n - k) z).set k (gAt zs k) = grps zs (k + 1) ++ List.replicate (n - (k + 1)) z := by
  rw [List.set_append_right _ _ (by rw [grps_len]; exact Nat.le_refl _), grps_len, Nat.sub_self, grps_succ, List.append_assoc, show n - k = (n - (k + 1)) + 1 by omega, List.replicate_succ]
  rfl
theorem grps_get (zs : List Int) (n i : Nat) (x : Rn) (h : (grps zs n)[i]? = some x) : i < n ∧ x = gAt zs i := by
  obtain ⟨h1, h2⟩ := List.getElem?_eq_some_iff.1 h
  simp [grps] at h1 h2
  exact ⟨h1, h2.symm⟩
theorem gRight_front {zs : List Int} (h : gFront zs = false) : gRight zs = false := by unfold gRight; rw [h]; rfl
theorem gRight_is {zs : List Int} (h : gFront zs = true) : gRight zs = gOkK zs (gN zs) := by unfold gRight; rw [h]; rfl

theorem rnOK_of (most : Int) : ∀ (l : List Rn) (ah : Int), (∀ x : Rn, l[0]? = some x → ah < x.a) → (∀ (i : Nat) (x : Rn), l[i]? = some x → x.a ≤ x.b ∧ x.b ≤ most) → (∀ (i : Nat) (x y : Rn), l[i]? = some x → l[i + 1]? = some y → x.b < y.a) → rnOK most ah l
  | [], _, _, _, _ => trivial
  | x :: r, ah, h0, h1, h2 => by
    have hx := h1 0 x rfl
    refine ⟨h0 x rfl, hx.1, hx.2, rnOK_of most r x.b (fun y hy => h2 0 x y rfl (by simpa using hy)) (fun i y hy => h1 (i + 1) y (by simpa using hy)) (fun i y z hy hz => h2 (i + 1) y z (by simpa using hy) (by simpa using hz))⟩

theorem gOk_at {zs : List Int} {n i : Nat} (h : gOkK zs n = true) (hi : i < n) : gOkAt zs i = true := by
  unfold gOkK at h
  rw [List.all_eq_true] at h
  exact h i (List.mem_range.2 hi)

theorem grps_ok {zs : List Int} {n : Nat} (hB : Bytes zs) (h : gOkK zs n = true) : rnOK 1114111 (-1) (grps zs n) := by
  refine rnOK_of _ _ _ (fun x hx => ?_) (fun i x hx => ?_) (fun i x y hx hy => ?_)
  · obtain ⟨_, rfl⟩ := grps_get _ _ _ _ hx
    have := n4at_lt hB (16 + 12 * 0)
    show -1 < n4at zs _
    omega
  · obtain ⟨hi, rfl⟩ := grps_get _ _ _ _ hx
    have := gOk_at h hi
    simp [gOkAt, gOne] at this
    exact ⟨this.1.1, this.1.2.1⟩
  · obtain ⟨_, rfl⟩ := grps_get _ _ _ _ hx
    obtain ⟨hi, rfl⟩ := grps_get _ _ _ _ hy
    have := gOk_at h hi
    simp [gOkAt, gLeast] at this
    show n4at zs _ < n4at zs _
    rw [show 8 + 12 * (i + 1) = 20 + 12 * i by omega] at this
    omega

theorem grps_fit {zs : List Int} {n : Nat} (hB : Bytes zs) (h : gOkK zs n = true) : ∀ x ∈ grps zs n, 0 ≤ x.a ∧ x.b ≤ 1114111 ∧ 0 ≤ x.g ∧ x.a ≤ x.b ∧ x.g + (x.b - x.a) ≤ 65535 := by
  intro x hx
  obtain ⟨i, hi⟩ := List.mem_iff_getElem?.1 hx
  obtain ⟨hl, rfl⟩ := grps_get _ _ _ _ hi
  have := gOk_at h hl
  simp [gOkAt, gOne] at this
  have h1 := n4at_lt hB (16 + 12 * i)
  have h2 := n4at_lt hB (24 + 12 * i)
  simp only [gAt] at this ⊢
  omega

/-- What the document's Look finds: the first group that has the code. -/
def findG (code : Int) : List Rn → Int
  | [] => 0
  | x :: r => if x.a ≤ code ∧ code ≤ x.b then x.g + (code - x.a) else findG code r

theorem findG_past {most code : Int} : ∀ (l : List Rn) (ah : Int), rnOK most ah l → code ≤ ah → findG code l = 0
  | [], _, _, _ => rfl
  | x :: r, ah, h, hc => by
    obtain ⟨h1, h2, h3, h4⟩ := h
    rw [findG, if_neg (by omega)]
    exact findG_past r x.b h4 (by omega)

theorem findG_look {most code : Int} : ∀ (l : List Rn) (ah : Int), rnOK most ah l → (∀ x ∈ l, 0 ≤ x.g ∧ x.g + (x.b - x.a) ≤ 65535) → findG code l = lookR l code
  | [], _, _, _ => rfl
  | x :: r, ah, h, hg => by
    obtain ⟨h1, h2, h3, h4⟩ := h
    have hx := hg x (by simp)
    have ih := findG_look (code := code) r x.b h4 (fun y hy => hg y (by simp [hy]))
    rw [findG]
    unfold lookR
    rw [findR]
    by_cases hb : code ≤ x.b
    · rw [if_pos hb]
      simp only
      by_cases ha : x.a ≤ code
      · rw [if_pos ⟨ha, hb⟩, if_pos ha]; omega
      · rw [if_neg (by omega), if_neg ha]; exact findG_past r x.b h4 (by omega)
    · rw [if_neg (by omega), if_neg hb, ih]
      rfl

/-- By places: which run the search has found. -/
theorem findR_at {most code : Int} : ∀ (l : List Rn) (ah : Int) (r : Nat), rnOK most ah l → (0 < r → ∀ y, l[r - 1]? = some y → y.b < code) → (∀ y, l[r]? = some y → code ≤ y.b) → r ≤ l.length → findR code l = l[r]?
  | [], _, r, _, _, _, hr => by
    have : r = 0 := by simpa using hr
    subst this; rfl
  | x :: t, ah, 0, h, h1, h2, hr => by
    rw [findR, if_pos (h2 x rfl)]
    rfl
  | x :: t, ah, r + 1, h, h1, h2, hr => by
    obtain ⟨o1, o2, o3, o4⟩ := h
    have low : ∀ (t : List Rn) (b : Int) (i : Nat) (y : Rn), rnOK most b t → t[i]? = some y → b < y.b := by
      intro t
      induction t with
      | nil => intro b i y _ hy; simp at hy
      | cons z t ih =>
        intro b i y ho hy
        obtain ⟨p1, p2, p3, p4⟩ := ho
        cases i with
        | zero => simp at hy; subst hy; omega
        | succ i => have := ih z.b i y p4 (by simpa using hy); omega
    have hx : ¬ code ≤ x.b := by
      cases r with
      | zero => have := h1 (by omega) x rfl; omega
      | succ r =>
        have hl : r < t.length := by simp at hr; omega
        have hy : (x :: t)[r + 1 + 1 - 1]? = some (t[r]) := by simp [hl]
        have := h1 (by omega) _ hy
        have := low t x.b r _ o4 (List.getElem?_eq_getElem hl)
        omega
    rw [findR, if_neg hx]
    have ih := findR_at t x.b r o4 (fun h0 y hy => h1 (by omega) y (by rw [Nat.add_sub_cancel]; cases r with | zero => omega | succ r => simpa using hy)) (fun y hy => h2 y (by simpa using hy)) (by simpa using hr)
    rw [ih]
    simp

end Go.Proofs.Ythkaeimpflggjaa

/- Words for slices of structs: rows of elements of k cells, fresh ones, what appends and stores leave, and what comes in. -/
namespace Go.Proofs.Ythkaeimpflggjaa
open Go.RowKit Go.ChangeShapes Go.WideShapes
set_option linter.unusedVariables false

/-- The cells of all elements, one behind the other. -/
def flat {α : Type} (enc : α → List Value) (l : List α) : List Value := l.flatMap enc

section
variable {α : Type} {enc : α → List Value} {k : Nat} (hk : ∀ x, (enc x).length = k)
include hk
theorem flat_length (l : List α) : (flat enc l).length = l.length * k := by
  unfold flat
  induction l with
  | nil => simp
  | cons x l ih => rw [List.flatMap_cons, List.length_append, ih, hk, List.length_cons, Nat.succ_mul]; omega
theorem flat_get {l : List α} {j : Nat} {x : α} (h : l[j]? = some x) {i : Nat} (hi : i < k) : (flat enc l)[j * k + i]? = (enc x)[i]? := by
  induction l generalizing j with
  | nil => simp at h
  | cons y l ih =>
    unfold flat at *
    rw [List.flatMap_cons]
    cases j with
    | zero =>
      simp at h
      subst h
      rw [Nat.zero_mul, Nat.zero_add, List.getElem?_append_left (by rw [hk]; exact hi)]
    | succ j =>
      rw [List.getElem?_append_right (by rw [hk, Nat.succ_mul]; omega), hk, Nat.succ_mul, show j * k + k + i - k = j * k + i by omega]
      exact ih (by simpa using h)
theorem flat_take (l : List α) (n : Nat) : (flat enc l).take (n * k) = flat enc (l.take n) := by
  induction l generalizing n with
  | nil => simp [flat]
  | cons y l ih =>
    cases n with
    | zero => simp [flat]
    | succ n =>
      unfold flat at *
      rw [List.flatMap_cons, List.take_succ_cons, List.flatMap_cons, List.take_append, hk, List.take_of_length_le (by rw [hk, Nat.succ_mul]; omega), Nat.succ_mul, show n * k + k - k = n * k by omega, ih]
theorem flat_drop (l : List α) (n : Nat) : (flat enc l).drop (n * k) = flat enc (l.drop n) := by
  induction l generalizing n with
  | nil => simp [flat]
  | cons y l ih =>
    cases n with
    | zero => simp [flat]
    | succ n =>
      unfold flat at *
      rw [List.flatMap_cons, List.drop_succ_cons, List.drop_append, hk, List.drop_of_length_le (by rw [hk, Nat.succ_mul]; omega), List.nil_append, Nat.succ_mul, show n * k + k - k = n * k by omega, ih]
end
theorem flat_append {α : Type} (enc : α → List Value) (a b : List α) : flat enc a ++ flat enc b = flat enc (a ++ b) := by simp [flat]
theorem flat_nil {α : Type} (enc : α → List Value) : flat enc ([] : List α) = [] := rfl
theorem flat_one {α : Type} (enc : α → List Value) (x : α) : flat enc [x] = enc x := by simp [flat]

/-- A slice of n elements of k cells each, that begins at A, shows the elements l. -/
def RowS {α : Type} (enc : α → List Value) (k : Nat) (w : World) (A : Option Addr) (n : Nat) (l : List α) : Prop := l.length = n ∧ Row w A (n * k) (flat enc l)

section
variable {α : Type} {enc : α → List Value} {k : Nat} {w w' : World} {A : Option Addr} {n : Nat} {l : List α}
theorem RowS.len (h : RowS enc k w A n l) : l.length = n := h.1
theorem RowS.empty (w : World) (A : Option Addr) : RowS enc k w A 0 [] := ⟨rfl, by rw [Nat.zero_mul]; exact Row.empty w A⟩
theorem RowS.below (h : RowS enc k w A n l) (hb : Below w.heap.size w w') : RowS enc k w' A n l := ⟨h.1, h.2.below hb⟩
theorem RowS.drewN (h : RowS enc k w A n l) (q : Nat) : RowS enc k (w.drewN q) A n l := h
theorem RowS.drew (h : RowS enc k w A n l) : RowS enc k w.drew A n l := h
theorem RowS.grown {row : Option Nat} (h : RowS enc k w A n l) (hb : w.grownBy w' row) (hne : ∀ g, blockOf A = some g → some g ≠ row) : RowS enc k w' A n l := ⟨h.1, h.2.grown hb hne⟩
theorem RowS.keep (h : RowS enc k w A n l) (hs : w.heap.size ≤ w'.heap.size) (hk : ∀ g, blockOf A = some g → g < w.heap.size → w'.heap[g]? = w.heap[g]?) : RowS enc k w' A n l := ⟨h.1, h.2.keep hs hk⟩
theorem RowS.take (hk : ∀ x, (enc x).length = k) (h : RowS enc k w A n l) {m : Nat} (hm : m ≤ n) : RowS enc k w A m (l.take m) :=
  ⟨by rw [List.length_take, h.1]; omega, by rw [← flat_take hk]; exact h.2.take (Nat.mul_le_mul_right k hm)⟩
/-- The cells of element j. -/
theorem RowS.at (hk : ∀ x, (enc x).length = k) (hk0 : 0 < k) (h : RowS enc k w A n l) {j : Nat} {x : α} (hj : l[j]? = some x) :
    ∃ g off, A = some ⟨g, off, none⟩ ∧ g < w.heap.size ∧ ∀ i u, (enc x)[i]? = some u → w.cell? ⟨g, off + j * k + i, none⟩ = some u := by
  have hl := (List.getElem?_eq_some_iff.1 hj).1
  have hn : 0 < n * k := Nat.mul_pos (by have := h.1; omega) hk0
  obtain ⟨g, off, e, hg, hc⟩ := h.2.2 hn
  refine ⟨g, off, e, hg, fun i u hu => ?_⟩
  rw [Nat.add_assoc]
  refine hc _ u ?_
  have hi : i < k := by have := (List.getElem?_eq_some_iff.1 hu).1; rw [hk] at this; exact this
  rw [flat_get hk hj hi]
  exact hu
end

/-- A slice of elements in memory that was made from block B on: nil, or at the head of a block of its own. -/
def OwnS {α : Type} (t : TypeId) (enc : α → List Value) (k : Nat) (w : World) (B : Nat) (A : Option Addr) (n c : Nat) (l : List α) : Prop := l.length = n ∧ w.ownsRow B t k (.slice A n c) n (flat enc l)

section
variable {α : Type} {t : TypeId} {enc : α → List Value} {k : Nat} {w w' : World} {B : Nat} {A : Option Addr} {n c : Nat} {l : List α}

theorem OwnS.len (h : OwnS t enc k w B A n c l) : l.length = n := h.1

theorem OwnS.shape (h : OwnS t enc k w B A n c l) :
    (A = none ∧ l = [] ∧ n = 0 ∧ c = 0) ∨ ∃ g cur, A = some ⟨g, 0, none⟩ ∧ B ≤ g ∧ g < w.heap.size ∧ w.heap[g]? = some (.cells cur t (0, 0)) ∧ n ≤ c ∧ c ≤ maxLen ∧ cur.size = c * k ∧ cur.toList.take (n * k) = flat enc l := by
  obtain ⟨hl, h⟩ := h
  rcases h.2 with ⟨e, h0⟩ | ⟨g, cap, cur, e, hB, hh, h1, h2, h3, h4⟩
  · injection e with e1 _ e3
    exact .inl ⟨e1, List.eq_nil_of_length_eq_zero (by omega), h0, e3⟩
  · injection e with e1 _ e3
    subst e1 e3
    exact .inr ⟨g, cur, rfl, hB, lt_of_block hh, hh, h1, h2, h3, h4⟩

theorem OwnS.nil (t : TypeId) (enc : α → List Value) (k : Nat) (w : World) (B : Nat) : OwnS t enc k w B none 0 0 [] := ⟨rfl, World.ownsRow_nil _ _ _ _⟩

theorem OwnS.cap (h : OwnS t enc k w B A n c l) : n ≤ c := by
  rcases h.shape with ⟨_, _, rfl, _⟩ | ⟨_, _, _, _, _, _, h1, _⟩
  · simp
  · exact h1

theorem OwnS.row (hk : ∀ x, (enc x).length = k) (h : OwnS t enc k w B A n c l) : RowS enc k w A n l := by
  refine ⟨h.1, by rw [flat_length hk, h.1], fun hn => ?_⟩
  rcases h.shape with ⟨_, _, rfl, _⟩ | ⟨g, cur, rfl, _, hg, hh, _, _, _, h4⟩
  · rw [Nat.zero_mul] at hn; omega
  · refine ⟨g, 0, rfl, hg, fun j u hu => ?_⟩
    rw [Nat.zero_add, cell_of_row w g j cur t (0, 0) hh]
    rw [← h4, List.getElem?_take] at hu
    split at hu
    · simpa using hu
    · cases hu

theorem OwnS.from_ (h : OwnS t enc k w B A n c l) : ∀ g, blockOf A = some g → B ≤ g ∧ g < w.heap.size := by
  intro g hg
  rcases h.shape with ⟨rfl, _⟩ | ⟨g', cur, rfl, h1, h2, _⟩
  · simp [blockOf] at hg
  · simp [blockOf] at hg
    subst hg
    exact ⟨h1, h2⟩

theorem OwnS.keep (h : OwnS t enc k w B A n c l) (hk : ∀ g, blockOf A = some g → w'.heap[g]? = w.heap[g]?) : OwnS t enc k w' B A n c l := by
  refine ⟨h.1, h.2.1, ?_⟩
  rcases h.2.2 with h2 | ⟨g, cap, cur, e, hB, hh, r⟩
  · exact .inl h2
  · refine .inr ⟨g, cap, cur, e, hB, ?_, r⟩
    injection e with e1
    rw [hk g (by rw [e1]; rfl)]
    exact hh

theorem OwnS.grown {row : Option Nat} (h : OwnS t enc k w B A n c l) (hb : w.grownBy w' row) (hne : ∀ g, blockOf A = some g → some g ≠ row) : OwnS t enc k w' B A n c l :=
  h.keep fun g e => hb.block g (h.from_ g e).2 (hne g e)
theorem OwnS.below (h : OwnS t enc k w B A n c l) (hb : Below w.heap.size w w') : OwnS t enc k w' B A n c l := h.keep fun g e => hb.block g (h.from_ g e).2
theorem OwnS.drewN (h : OwnS t enc k w B A n c l) (q : Nat) : OwnS t enc k (w.drewN q) B A n c l := h
theorem OwnS.drew (h : OwnS t enc k w B A n c l) : OwnS t enc k w.drew B A n c l := h
theorem OwnS.alloc (h : OwnS t enc k w B A n c l) (o : Obj) : OwnS t enc k (w.alloc o) B A n c l := h.below ((Below.refl _ _).alloc (Nat.le_refl _) o)
theorem OwnS.mono {B' : Nat} (h : OwnS t enc k w B A n c l) (hB : B' ≤ B) : OwnS t enc k w B' A n c l := by
  refine ⟨h.1, h.2.1, ?_⟩
  rcases h.2.2 with h2 | ⟨g, cap, cur, e, hg, r⟩
  · exact .inl h2
  · exact .inr ⟨g, cap, cur, e, by omega, r⟩

theorem ownS_shape {v : Value} (hl : l.length = n) (h : w.ownsRow B t k v n (flat enc l)) : ∃ A c, v = .slice A n c ∧ OwnS t enc k w B A n c l := by
  rcases h.2 with ⟨e, h0⟩ | ⟨g, cap, cur, e, r⟩
  · subst h0 e
    exact ⟨none, 0, rfl, hl, h⟩
  · subst e
    exact ⟨_, cap, rfl, hl, h⟩

/-- Fresh elements, written out. -/
theorem ownS_lit (w : World) (B : Nat) (t : TypeId) (enc : α → List Value) (k : Nat) (hk : ∀ x, (enc x).length = k) (l : List α) (cs : Array Value) (hcs : cs = (flat enc l).toArray) (n : Nat) (hn : l.length = n) (hB : B ≤ w.heap.size) (hm : n ≤ maxLen) : OwnS t enc k (w.alloc (.cells cs t)) B (some ⟨w.heap.size, 0, none⟩) n n l := by
  subst hcs
  have := World.ownsRow_lit (base := B) (e := t) (size := k) w (flat enc l).toArray n hB hm (by simp [flat_length hk]; rw [hn])
  exact ⟨hn, by simpa using this⟩

/-- A store of one cell into a fresh row. -/
theorem ownS_setCell {g : Nat} (h : OwnS t enc k w B (some ⟨g, 0, none⟩) n c l) {j : Nat} {u : Value} {l' : List α} (hl : l'.length = l.length) (hf : flat enc l' = (flat enc l).set j u) : OwnS t enc k (w.setCell ⟨g, j, none⟩ u) B (some ⟨g, 0, none⟩) n c l' := by
  rcases h.shape with ⟨e, _⟩ | ⟨g', cur, e, hB, hg, hh, h1, h2, h3, h4⟩
  · cases e
  · simp only [Option.some.injEq, Addr.mk.injEq, and_true] at e
    subst e
    refine ⟨by rw [hl]; exact h.1, by rw [hf, List.length_set]; exact h.2.1, .inr ⟨g, c, cur.setIfInBounds j u, rfl, hB, ?_, h1, h2, by simpa using h3, ?_⟩⟩
    · simp [World.setCell, Array.getElem?_modify, hh]
    · rw [hf, ← h4]
      simp [List.take_set]
end

/-- What a call that answers fresh elements and turns nothing old leaves. -/
def RetS {α : Type} (t : TypeId) (enc : α → List Value) (k : Nat) (w : World) (l : List α) (e : Ending) (w' : World) : Prop := ∃ A n c, e = .returned (.slice A n c) ∧ OwnS t enc k w' w.heap.size A n c l ∧ Below w.heap.size w w'

/-- The run of an append of elements that are read onto a fresh slice: the source nil or not. -/
theorem run_append_rowS {P : Program} {α : Type} (w : World) (t : TypeId) (enc : α → List Value) (k : Nat) (hk : ∀ x, (enc x).length = k) (hk0 : 0 < k) (h1 : ∀ x, ∀ u ∈ enc x, u.oneCell' = true) (base T ty : Nat) (i : TypeInfo) (z : Value) (b : Nat) (ht : P.underlying T = some (.slice t)) (hi : P.info? t = some i) (hz : i.zero = some z) (hs : i.size = k) (hzs : z.cells.size = k) (hby : i.bytes = b)
    (A : Option Addr) (n c : Nat) (l : List α) (hown : OwnS t enc k w base A n c l) (A' : Option Addr) (n' c' : Nat) (l' : List α) (hr : RowS enc k w A' n' l')
    (hb : (n + n') * b ≤ 140737488355328) (hm : n + n' ≤ 140737488355328) (hbase : base ≤ w.heap.size) :
    ∃ A2 c2 w', (Builtin.append_ #[T, T] ty #[.slice A n c, .slice A' n' c']).run P w = .ok (.slice A2 (n + n') c2) w' ∧ OwnS t enc k w' base A2 (n + n') c2 (l ++ l') ∧ w.grownBy w' (blockOf A) := by
  have hbo : (Value.slice A n c).ownBlock = blockOf A := by
    rcases hown.shape with ⟨rfl, _⟩ | ⟨g, cur, rfl, _⟩ <;> rfl
  have hyl := hr.len
  by_cases hy : n' = 0
  · obtain rfl : l' = [] := List.eq_nil_of_length_eq_zero (by omega)
    subst hy
    refine ⟨A, c, w, ?_, by simpa using hown, World.grownBy.refl w _⟩
    rcases hown.shape with ⟨rfl, rfl, rfl, rfl⟩ | ⟨g, cur, rfl, _, _, _, hle, _⟩
    · cases A' <;> simp [Builtin.append_, run_underlying ht, sizeOf, typeInfo, hi, Builtin.lenOf, Builtin.firstCells, loadCells, loadCellsFrom]
    · cases A' <;> simp [Builtin.append_, run_underlying ht, sizeOf, typeInfo, hi, Builtin.lenOf, Builtin.firstCells, loadCells, loadCellsFrom, hle, storeCells]
  · obtain ⟨g, off, rfl, hg, hc⟩ := hr.2.2 (Nat.mul_pos (by omega) hk0)
    obtain ⟨v', w', hrun, h2, h3, _⟩ := run_append_own (P := P) w base T ty t i z k b ht hi hz hs hby hzs hk0 (.slice A n c) n (flat enc l) hown.2 ⟨g, off, none⟩ n' c' (flat enc l') (by rw [flat_length hk, hyl])
      (fun j u hu => by rw [Addr.add_lit]; exact hc j u hu) (fun u hu => by unfold flat at hu; obtain ⟨x, _, hx⟩ := List.mem_flatMap.1 hu; exact h1 x u hx) (by simp only [maxLen]; omega) hb hbase
    rw [flat_append] at h2
    obtain ⟨A2, c2, rfl, h2'⟩ := ownS_shape (by rw [List.length_append, hown.len, hyl]) h2
    exact ⟨A2, c2, w', hrun, h2', by rw [← hbo]; exact h3⟩

/-- The same at an operation of the walk. -/
theorem wpList_append_rowS {P : Program} {α : Type} {w : World} {ops : Array Oper} {rest : List Oper} {o : Oper} {a : Act} {Q : Exit → Act → World → Prop} (hgd : o.guard = none) (s x : Operand) (T : TypeId)
    (ho : o.op = .call { callee := .builtin .append, args := #[s, x], argTypes := #[T, T] }) (t : TypeId) (enc : α → List Value) (k : Nat) (hk : ∀ x, (enc x).length = k) (hk0 : 0 < k) (h1 : ∀ x, ∀ u ∈ enc x, u.oneCell' = true)
    (base : Nat) (i : TypeInfo) (z : Value) (b : Nat) (ht : P.underlying T = some (.slice t)) (hi : P.info? t = some i) (hz : i.zero = some z) (hs : i.size = k) (hzs : z.cells.size = k) (hby : i.bytes = b)
    (A : Option Addr) (n c : Nat) (l : List α) (hes : a.eval s = .slice A n c) (hown : OwnS t enc k w base A n c l) (A' : Option Addr) (n' c' : Nat) (l' : List α) (hex : a.eval x = .slice A' n' c') (hr : RowS enc k w A' n' l')
    (hb : (n + n') * b ≤ 140737488355328) (hm : n + n' ≤ 140737488355328) (hbase : base ≤ w.heap.size)
    (h : ∀ A2 c2 w', OwnS t enc k w' base A2 (n + n') c2 (l ++ l') → w.grownBy w' (blockOf A) → wpList P ops Q rest (a.put o.dst (.slice A2 (n + n') c2)) w') : wpList P ops Q (o :: rest) a w := by
  refine wpList_plain hgd fun _ hK => ?_
  obtain ⟨A2, c2, w', hrun, h2, h3⟩ := run_append_rowS (P := P) w t enc k hk hk0 h1 base T o.type i z b ht hi hz hs hzs hby A n c l hown A' n' c' l' hr hb hm hbase
  unfold Oper.wp execOp
  simp only [ho, resolve, invoke, builtin, Sem.run_bind, Sem.run_pure, Result.andThen_ok, List.map_toArray, List.map_cons, List.map_nil, hes, hex, hrun]
  exact hK _ _ (h A2 c2 w' h2 h3)

/-- Elements written out in a block of their own. -/
theorem rowS_vals {α : Type} {enc : α → List Value} {k : Nat} (hk : ∀ x, (enc x).length = k) (w : World) (t : TypeId) (l : List α) (cs : Array Value) (hcs : cs = (flat enc l).toArray) (n : Nat) (hn : l.length = n) : RowS enc k (w.alloc (.cells cs t)) (some ⟨w.heap.size, 0, none⟩) n l := by
  subst hcs
  refine ⟨hn, by rw [flat_length hk, hn], fun _ => ⟨w.heap.size, 0, rfl, by simp, fun j u hu => ?_⟩⟩
  rw [Nat.zero_add, cell_of_row _ _ j _ t (0, 0) (heap_alloc_new w _)]
  simpa using hu

/-- A list out of its elements. -/
theorem list_of {α : Type} {p : Nat → α → Prop} (n : Nat) (h : ∀ i, i < n → ∃ x, p i x) : ∃ l : List α, l.length = n ∧ ∀ i x, l[i]? = some x → p i x := by
  induction n with
  | zero => exact ⟨[], rfl, fun i x hx => by simp at hx⟩
  | succ n ih =>
    obtain ⟨l, hl, hp⟩ := ih fun i hi => h i (by omega)
    obtain ⟨x, hx⟩ := h n (by omega)
    refine ⟨l ++ [x], by simp [hl], fun i y hy => ?_⟩
    rw [List.getElem?_append] at hy
    split at hy
    · exact hp i y hy
    · rename_i hi
      have : i - l.length = 0 := by
        rcases Nat.eq_zero_or_pos (i - l.length) with h0 | h0
        · exact h0
        · rw [List.getElem?_eq_none (by simp; omega)] at hy; cases hy
      rw [this] at hy
      simp at hy
      subst hy
      rw [show i = n by omega]
      exact hx

/-- A slice that comes in: each element's cells, and how they read. -/
theorem open_sliceK {H : Type} {enc : TypeId × Value → H} {P : Program} {w : World} {t e : TypeId} {k : Nat} (ht : P.underlying t = some (.slice e)) (hk : P.cellsOf e = k) {a : Option Addr} {len cap : Nat} {d : DataW H} {p : List MemPlace}
    (h : DataW.Trod enc P w 0 (fun _ => true) true t (.slice a len cap) d p) :
    (a = none ∧ len = 0 ∧ cap = 0) ∨ ∃ x, a = some x ∧ len ≤ cap ∧ cap ≤ maxLen ∧ ∀ i, i < len → ∃ (cs : List Value) (m : Nat) (y : DataW H × List MemPlace), cs.length = k ∧ (∀ j, j < k → w.cell? (x.add (i * k + j)) = cs[j]?) ∧ DataW.trod enc P w 0 (fun _ => true) true m e cs = some y := by
  obtain ⟨fuel, hf⟩ := h
  rcases DataW.trod_slice ht hf with ⟨hcs, _⟩ | ⟨x, l, c, elems, rest, n, _, hcs, _, _, hl, hm, hel, hi, _, _⟩
  · simp [Value.cells] at hcs
    exact .inl ⟨hcs.1, hcs.2.1, hcs.2.2⟩
  · simp [Value.cells] at hcs
    obtain ⟨rfl, rfl, rfl⟩ := hcs
    refine .inr ⟨x, rfl, hl, hm, fun i hlt => ?_⟩
    have h1 := hi i hlt
    rw [hk] at h1
    rw [List.getElem?_eq_getElem (by omega)] at h1
    cases hc : w.cells? 0 (x.add (i * k)) k with
    | none => rw [hc] at h1; simp at h1
    | some cs =>
      rw [hc] at h1
      obtain ⟨_, hcl, hat⟩ := World.cells?_some hc
      exact ⟨cs, n, _, hcl, fun j hj => by rw [← Go.Deep.add_add]; exact hat j hj, h1⟩

/-- Such a slice, once each element is known, is a row. -/
theorem rowS_in {α : Type} {enc : α → List Value} {k : Nat} (hk : ∀ x, (enc x).length = k) {w : World} {x : Addr} {len : Nat} (l : List α) (hl : l.length = len) (hc : ∀ i y, l[i]? = some y → ∀ j u, (enc y)[j]? = some u → w.cell? (x.add (i * k + j)) = some u) : RowS enc k w (some x) len l := by
  refine ⟨hl, by rw [flat_length hk, hl], fun hn => ?_⟩
  have hk0 : 0 < k := Nat.pos_of_mul_pos_left hn
  have hl0 : 0 < len := Nat.pos_of_mul_pos_right hn
  have key : ∀ q u, (flat enc l)[q]? = some u → w.cell? (x.add q) = some u := by
    intro q u hu
    have hq := (List.getElem?_eq_some_iff.1 hu).1
    rw [flat_length hk] at hq
    have hqk : q / k < l.length := Nat.div_lt_of_lt_mul (by rw [Nat.mul_comm]; exact hq)
    have hy : l[q / k]? = some l[q / k] := List.getElem?_eq_getElem hqk
    have he : q / k * k + q % k = q := by rw [Nat.mul_comm]; exact Nat.div_add_mod q k
    have h2 := flat_get hk hy (Nat.mod_lt q hk0)
    rw [he] at h2
    have := hc _ _ hy (q % k) u (by rw [← h2]; exact hu)
    rwa [he] at this
  have h0 : ∃ u, (flat enc l)[0]? = some u := ⟨_, List.getElem?_eq_getElem (by rw [flat_length hk, hl]; exact Nat.mul_pos hl0 hk0)⟩
  obtain ⟨u0, h0⟩ := h0
  have hx := key 0 u0 h0
  have hsp : x.spot = none := by
    cases hs : x.spot with
    | none => rfl
    | some s =>
      rw [show x.add 0 = x by unfold Addr.add; simp] at hx
      unfold World.cell? at hx
      split at hx <;> simp [hs] at hx
  obtain ⟨g, off, sp⟩ := x
  simp only at hsp
  subst hsp
  refine ⟨g, off, rfl, ?_, fun j u hu => by have := key j u hu; rwa [Addr.add_lit] at this⟩
  rw [Addr.add_lit] at hx
  exact World.block_lt_of_cell? w _ hx

theorem madeCells_flat {α : Type} {enc : α → List Value} {k : Nat} (hk : ∀ x, (enc x).length = k) (hk0 : 0 < k) (z : Array Value) (x0 : α) (hz : z.toList = enc x0) (n : Nat) : (madeCells z (n * k)).toList = flat enc (List.replicate n x0) := by
  have hzs : z.size = k := by rw [← hk x0, ← hz, Array.length_toList]
  apply List.ext_getElem?
  intro q
  by_cases hq : q < n * k
  · have hqk : q / k < n := Nat.div_lt_of_lt_mul (by rw [Nat.mul_comm]; exact hq)
    have he : q / k * k + q % k = q := by rw [Nat.mul_comm]; exact Nat.div_add_mod q k
    have h1 := flat_get hk (l := List.replicate n x0) (j := q / k) (x := x0) (by simp [hqk]) (Nat.mod_lt q hk0)
    rw [he] at h1
    rw [h1, ← hz]
    have hm : q % z.size < z.size := Nat.mod_lt _ (by omega)
    simp only [madeCells, Array.toList_map, Array.toList_range, List.getElem?_map, List.getElem?_range hq, Option.map_some, Array.getElem?_toList]
    rw [getElem!_pos z _ hm, ← hzs, Array.getElem?_eq_getElem hm]
  · rw [List.getElem?_eq_none (by simp [madeCells]; omega), List.getElem?_eq_none (by rw [flat_length hk, List.length_replicate]; omega)]

/-- 'make([]T, n)' for structs. -/
theorem wpList_make_S {P : Program} {α : Type} {w : World} {ops : Array Oper} {rest : List Oper} {o : Oper} {a : Act} {Q : Exit → Act → World → Prop} (hg : o.guard = none) (l c : Operand) (T : TypeId) (hop : o.op = Op.makeSlice T l c)
    (t : TypeId) (enc : α → List Value) (k : Nat) (hk : ∀ x, (enc x).length = k) (hk0 : 0 < k) (B : Nat) (i : TypeInfo) (z : Value) (x0 : α) (b : Nat) (h1 : P.underlying T = some (.slice t)) (h2 : P.info? t = some i) (h3 : i.zero = some z) (h4 : i.size = k) (hz : z.cells.toList = enc x0) (h5 : i.bytes = b)
    (L C : Int) (n : Nat) (hl : a.eval l = .int .i64 L) (hc : a.eval c = .int .i64 C) (hL : L = (n : Int)) (hC : C = (n : Int)) (b2 : b * n ≤ 281474976710656) (b3 : n ≤ 9223372036854775807) (b4 : B ≤ w.heap.size)
    (hK : ∀ w', OwnS t enc k w' B (some ⟨w.heap.size, 0, none⟩) n n (List.replicate n x0) → w.grownBy w' none → wpList P ops Q rest (a.put o.dst (.slice (some ⟨w.heap.size, 0, none⟩) n n)) w') : wpList P ops Q (o :: rest) a w := by
  refine wpList_make_full w hg l c T hop B t i z k h1 h2 h3 h4 .i64 .i64 L C n hl hc hL hC (by rw [h5]; exact b2) (by simp only [maxLen]; exact b3) b4 fun w' ho hgr => hK w' ⟨by simp, ?_⟩ hgr
  rw [madeCells_flat hk hk0 _ x0 hz] at ho
  exact ho

/-- One element of a fresh row turned, cell by cell. -/
theorem flat_set {α : Type} {enc : α → List Value} {k : Nat} (hk : ∀ x, (enc x).length = k) (l : List α) (i : Nat) (x : α) (hi : i < l.length) : flat enc (l.set i x) = (flat enc l).take (i * k) ++ (enc x ++ (flat enc l).drop ((i + 1) * k)) := by
  rw [flat_take hk, flat_drop hk, List.set_eq_take_append_cons_drop, if_pos hi]
  simp [flat]

/-- Cells written one behind the other. -/
def setFrom (xs : List Value) (j : Nat) : List Value → List Value
  | [] => xs
  | v :: vs => setFrom (xs.set j v) (j + 1) vs
def setCells (w : World) (g j : Nat) : List Value → World
  | [] => w
  | v :: vs => setCells (w.setCell ⟨g, j, none⟩ v) g (j + 1) vs

theorem setFrom_eq (vs : List Value) : ∀ (xs : List Value) (j : Nat), j + vs.length ≤ xs.length → setFrom xs j vs = xs.take j ++ (vs ++ xs.drop (j + vs.length)) := by
  induction vs with
  | nil => intro xs j _; simp [setFrom]
  | cons v vs ih =>
    intro xs j hj
    simp only [List.length_cons] at hj
    rw [setFrom, ih _ _ (by rw [List.length_set]; omega), List.take_set, List.drop_set_of_lt (by omega), List.set_eq_take_append_cons_drop, if_pos (by rw [List.length_take]; omega), List.take_take, Nat.min_eq_left (by omega), List.drop_take, show j + 1 - (j + 1) = 0 by omega]
    simp only [List.take_zero, List.length_cons, List.append_assoc, List.cons_append, List.nil_append]
    rw [show j + 1 + vs.length = j + (vs.length + 1) by omega]

theorem ownsRow_setCells {t : TypeId} {k g n c B : Nat} (vs : List Value) : ∀ (w : World) (xs : List Value) (j : Nat), w.ownsRow B t k (.slice (some ⟨g, 0, none⟩) n c) n xs → (setCells w g j vs).ownsRow B t k (.slice (some ⟨g, 0, none⟩) n c) n (setFrom xs j vs) := by
  induction vs with
  | nil => intro w xs j h; exact h
  | cons v vs ih =>
    intro w xs j h
    refine ih _ _ _ ?_
    rcases h.2 with ⟨e, _⟩ | ⟨g', cap, cur, e, hB, hh, h1, h2, h3, h4⟩
    · cases e
    · injection e with e1 _ e3
      simp only [Option.some.injEq, Addr.mk.injEq, and_true] at e1
      subst e1 e3
      refine ⟨by rw [List.length_set]; exact h.1, .inr ⟨g, c, cur.setIfInBounds j v, rfl, hB, ?_, h1, h2, by simpa using h3, ?_⟩⟩
      · simp [World.setCell, Array.getElem?_modify, hh]
      · rw [← h4]
        simp [List.take_set]

section
variable {α : Type} {t : TypeId} {enc : α → List Value} {k : Nat} {w : World} {B g n c : Nat} {l : List α}
/-- A store of one element into a fresh row. -/
theorem ownS_store (hk : ∀ x, (enc x).length = k) (h : OwnS t enc k w B (some ⟨g, 0, none⟩) n c l) {i : Nat} (hi : i < n) (x : α) : OwnS t enc k (setCells w g (i * k) (enc x)) B (some ⟨g, 0, none⟩) n c (l.set i x) := by
  refine ⟨by rw [List.length_set]; exact h.1, ?_⟩
  have h1 := ownsRow_setCells (enc x) w (flat enc l) (i * k) h.2
  have hl := h.1
  have hik : (i + 1) * k ≤ n * k := Nat.mul_le_mul_right k (by omega)
  rw [Nat.succ_mul] at hik
  rw [setFrom_eq _ _ _ (by rw [hk, flat_length hk, hl]; exact hik), hk, ← Nat.succ_mul, ← flat_set hk l i x (by omega)] at h1
  exact h1
theorem OwnS.thaw (h : OwnS t enc k w B (some ⟨g, 0, none⟩) n c l) (o : Nat) : w.frozen? ⟨g, o, none⟩ = false := by
  rcases h.shape with ⟨e, _⟩ | ⟨g', cur, e, _, _, hh, _⟩
  · cases e
  · simp only [Option.some.injEq, Addr.mk.injEq, and_true] at e
    subst e
    simp [World.frozen?, hh]
end
theorem setCells_below {w0 : World} {B g : Nat} (hg : B ≤ g) (vs : List Value) : ∀ (w : World) (j : Nat), Below B w0 w → Below B w0 (setCells w g j vs) := by
  induction vs with
  | nil => intro w j h; exact h
  | cons v vs ih => intro w j h; exact ih _ _ (h.setCell (p := ⟨g, j, none⟩) hg v)
theorem setCells_block {g q : Nat} (hq : q ≠ g) (vs : List Value) : ∀ (w : World) (j : Nat), (setCells w g j vs).heap[q]? = w.heap[q]? := by
  induction vs with
  | nil => intro w j; rfl
  | cons v vs ih => intro w j; exact (ih _ _).trans (Below.heap_setCell w _ v q hq)
theorem setCells_size (g : Nat) (vs : List Value) : ∀ (w : World) (j : Nat), (setCells w g j vs).heap.size = w.heap.size := by
  induction vs with
  | nil => intro w j; rfl
  | cons v vs ih => intro w j; exact (ih _ _).trans (by simp [World.setCell])

/-- The append of elements, as one step of a region that draws its order. -/
theorem step_append_rowS {P : Program} {α : Type} {w : World} {ops : Array Oper} {o : Oper} {a : Act} {K : Act → World → Prop} {Q : Exit → Act → World → Prop} {E : Prop} (hgd : o.guard = none) (s x : Operand) (T : TypeId)
    (ho : o.op = .call { callee := .builtin .append, args := #[s, x], argTypes := #[T, T] }) (t : TypeId) (enc : α → List Value) (k : Nat) (hk : ∀ x, (enc x).length = k) (hk0 : 0 < k) (h1 : ∀ x, ∀ u ∈ enc x, u.oneCell' = true)
    (base : Nat) (i : TypeInfo) (z : Value) (b : Nat) (ht : P.underlying T = some (.slice t)) (hi : P.info? t = some i) (hz : i.zero = some z) (hs : i.size = k) (hzs : z.cells.size = k) (hby : i.bytes = b)
    (A : Option Addr) (n c : Nat) (l : List α) (hes : a.eval s = .slice A n c) (hown : OwnS t enc k w base A n c l) (A' : Option Addr) (n' c' : Nat) (l' : List α) (hex : a.eval x = .slice A' n' c') (hr : RowS enc k w A' n' l')
    (hb : (n + n') * b ≤ 140737488355328) (hm : n + n' ≤ 140737488355328) (hbase : base ≤ w.heap.size)
    (h : ∀ A2 c2 w', OwnS t enc k w' base A2 (n + n') c2 (l ++ l') → w.grownBy w' (blockOf A) → K (a.put o.dst (.slice A2 (n + n') c2)) w') : if Region.wanted o (yielded ops a.tmps) = true then Oper.wp P o a w K Q else E := by
  have hw : Region.wanted o (yielded ops a.tmps) = true := by simp [Region.wanted, hgd]
  rw [if_pos hw]
  obtain ⟨A2, c2, w', hrun, h2, h3⟩ := run_append_rowS (P := P) w t enc k hk hk0 h1 base T o.type i z b ht hi hz hs hzs hby A n c l hown A' n' c' l' hr hb hm hbase
  unfold Oper.wp execOp
  simp only [ho, resolve, invoke, builtin, Sem.run_bind, Sem.run_pure, Result.andThen_ok, List.map_toArray, List.map_cons, List.map_nil, hes, hex, hrun]
  exact h A2 c2 w' h2 h3

end Go.Proofs.Ythkaeimpflggjaa

/- A region that draws its order, whose operations read and whose calls make memory of their own and answer values: walked once. -/
namespace Go.Proofs.Ythkaeimpflggjaa
open Go.RowKit
set_option linter.unusedVariables false

/-- w with blocks behind it, at another place of the tape. -/
def gw (w : World) (n : Nat) (os : Array Obj) : World := { w with heap := w.heap ++ os, drawn := n }

theorem gw_size (w : World) (n : Nat) (os : Array Obj) : w.heap.size ≤ (gw w n os).heap.size := by simp [gw]

theorem gw_below (w : World) (n : Nat) (os : Array Obj) : Below w.heap.size w (gw w n os) :=
  ⟨rfl, rfl, rfl, gw_size w n os, fun k hk => by simp [gw, Array.getElem?_append, hk]⟩

theorem below_gw {w w' : World} (h : Below w.heap.size w w') : ∃ p : GrownBy, w' = gw w p.n p.os := by
  refine ⟨⟨w'.drawn, w'.heap.extract w.heap.size w'.heap.size⟩, ?_⟩
  obtain ⟨h1, h2, h3, h4, h5⟩ := h
  cases w'
  cases w
  simp only [gw, World.mk.injEq] at *
  subst h1 h2 h3
  simp only [and_true]
  rename_i heap' _ heap _ _ _ _
  apply Array.ext_getElem?
  intro i
  rw [Array.getElem?_append]
  split
  · rename_i hi; exact h5 i hi
  · rename_i hi
    rw [Array.getElem?_extract]
    split
    · congr 1; omega
    · rw [Array.getElem?_eq_none (by omega)]

theorem gw_cell {w : World} {a : Addr} {v : Value} (h : w.cell? a = some v) (n : Nat) (os : Array Obj) : (gw w n os).cell? a = some v := by
  have hb : a.block < w.heap.size := World.block_lt_of_cell? w _ h
  exact (World.cell?_of_block (w := w) ((gw_below w n os).block _ hb)).trans h

theorem gw_frozen {w : World} {a : Addr} (hb : a.block < w.heap.size) (n : Nat) (os : Array Obj) : (gw w n os).frozen? a = w.frozen? a := (gw_below w n os).frozen hb

theorem region_below {P : Program} {id : Nat} {Q : Exit → Act → World → Prop} {a : Act} {w : World} {l : List Oper} (hm : P.follows .mixedOrders = true) (hB : Region.lexB .any l.toArray = true)
    (h : wpQuiet P l.toArray (fun w' => ∃ p : GrownBy, w' = gw w p.n p.os) (fun a' => ∀ w', (∃ p : GrownBy, w' = gw w p.n p.os) → Q .normal a' w') l a) : (Code.region id l.toArray true).wp P Q a w :=
  wp_region_quiet (C := fun w' => ∃ p : GrownBy, w' = gw w p.n p.os) hm hB ⟨⟨w.drawn + 1, #[]⟩, by simp [gw]⟩ (by simpa using h)

theorem calls_gw {P : Program} {f : FuncId} {args : Array Value} {w : World} {n : Nat} {os : Array Obj} {v : Value}
    (h : Calls P f args (gw w n os) fun e w' => e = .returned v ∧ Below (gw w n os).heap.size (gw w n os) w') : Calls P f args (gw w n os) fun e w'' => e = .returned v ∧ ∃ p : GrownBy, w'' = gw w p.n p.os :=
  h.mono fun _ _ ⟨he, hb⟩ => ⟨he, below_gw ((gw_below w n os).trans (hb.mono (gw_size w n os)))⟩

theorem calls_gw_same {P : Program} {f : FuncId} {args : Array Value} {w : World} {n : Nat} {os : Array Obj} {v : Value}
    (h : Calls P f args (gw w n os) fun e w' => e = .returned v ∧ w' = gw w n os) : Calls P f args (gw w n os) fun e w'' => e = .returned v ∧ ∃ p : GrownBy, w'' = gw w p.n p.os :=
  h.mono fun _ _ ⟨he, hb⟩ => ⟨he, ⟨n, os⟩, hb⟩

end Go.Proofs.Ythkaeimpflggjaa

/- All cells of a block of fourteen at once. -/
namespace Go.Proofs.Ythkaeimpflggjaa
open Go.RowKit
set_option linter.unusedVariables false

theorem cells14 {w : World} {b t : Nat} {v0 v1 v2 v3 v4 v5 v6 v7 v8 v9 v10 v11 v12 v13 : Value} (h : w.heap[b]? = some (.cells #[v0, v1, v2, v3, v4, v5, v6, v7, v8, v9, v10, v11, v12, v13] t (0, 0))) :
    w.cell? ⟨b, 0, none⟩ = some v0 ∧ w.cell? ⟨b, 1, none⟩ = some v1 ∧ w.cell? ⟨b, 2, none⟩ = some v2 ∧ w.cell? ⟨b, 3, none⟩ = some v3 ∧ w.cell? ⟨b, 4, none⟩ = some v4 ∧ w.cell? ⟨b, 5, none⟩ = some v5 ∧ w.cell? ⟨b, 6, none⟩ = some v6 ∧ w.cell? ⟨b, 7, none⟩ = some v7 ∧ w.cell? ⟨b, 8, none⟩ = some v8 ∧ w.cell? ⟨b, 9, none⟩ = some v9 ∧ w.cell? ⟨b, 10, none⟩ = some v10 ∧ w.cell? ⟨b, 11, none⟩ = some v11 ∧ w.cell? ⟨b, 12, none⟩ = some v12 ∧ w.cell? ⟨b, 13, none⟩ = some v13 :=
  ⟨cell_of_row w b 0 _ t (0, 0) h, cell_of_row w b 1 _ t (0, 0) h, cell_of_row w b 2 _ t (0, 0) h, cell_of_row w b 3 _ t (0, 0) h, cell_of_row w b 4 _ t (0, 0) h, cell_of_row w b 5 _ t (0, 0) h, cell_of_row w b 6 _ t (0, 0) h, cell_of_row w b 7 _ t (0, 0) h, cell_of_row w b 8 _ t (0, 0) h, cell_of_row w b 9 _ t (0, 0) h, cell_of_row w b 10 _ t (0, 0) h, cell_of_row w b 11 _ t (0, 0) h, cell_of_row w b 12 _ t (0, 0) h, cell_of_row w b 13 _ t (0, 0) h⟩

/-- What stands behind a call that turns nothing old. -/
theorem kept_block {w w' : World} {b : Nat} {o : Obj} (h : w.heap[b]? = some o) (hb : Below w.heap.size w w') : w'.heap[b]? = some o := (hb.block _ (lt_of_block h)).trans h

theorem kept_alloc {w : World} {b : Nat} {o : Obj} (h : w.heap[b]? = some o) (o' : Obj) : (w.alloc o').heap[b]? = some o := kept_block h ((Below.refl _ _).alloc (Nat.le_refl _) o')

theorem thawed {w : World} {b t : Nat} {cs : Array Value} (h : w.heap[b]? = some (.cells cs t (0, 0))) (o : Nat) : w.frozen? ⟨b, o, none⟩ = false := by simp [World.frozen?, h]

end Go.Proofs.Ythkaeimpflggjaa

/- Pairs in memory; Rises; what goes on from what: contracts over this seat's translation. -/
namespace Go.Proofs.Ythkaeimpflggjaa
open Go.RowKit
set_option linter.unusedVariables false

def encP (p : Pr) : List Value := [.int .i32 p.code, .int .u16 p.glyph]
def encQ (p : Pr) : List Value := [.int .i64 p.code, .int .i64 p.glyph]
theorem encP_len (p : Pr) : (encP p).length = 2 := rfl
theorem encQ_len (p : Pr) : (encQ p).length = 2 := rfl
theorem encP_one (p : Pr) : ∀ u ∈ encP p, u.oneCell' = true := by intro u hu; simp [encP] at hu; rcases hu with rfl | rfl <;> rfl
theorem encQ_one (p : Pr) : ∀ u ∈ encQ p, u.oneCell' = true := by intro u hu; simp [encQ] at hu; rcases hu with rfl | rfl <;> rfl

theorem getP {α : Type} {l : List α} {j : Nat} (h : j < l.length) : ∃ m, l[j]? = some m := ⟨l[j], List.getElem?_eq_getElem h⟩
theorem drop_consP {α : Type} {l : List α} {k : Nat} {p : α} (h : l[k]? = some p) : l.drop k = p :: l.drop (k + 1) := by
  obtain ⟨hk, rfl⟩ := List.getElem?_eq_some_iff.1 h
  exact List.drop_eq_getElem_cons hk

set_option maxRecDepth 100000 in
set_option maxHeartbeats 1000000 in
theorem rises_any (A : Option Addr) (n c : Nat) (l : List Pr) (most : Int) (w : World) (hr : RowS encP 2 w A n l) (hn : n ≤ 1000000) :
    Calls Try.prog 65 #[.slice A n c, .int .i32 most] w (Ret w (.bool (risesF most (-1) l))) := by
  have Hn := Lib.hid hr.len
  go_enter Try.func65, Try.ntmps65
  go_wp2
  go_loopw [5, 10] (fun a i wr => ∃ (k : Nat) (ah : Int), k ≤ n ∧ i = .int .i64 k ∧ a = .int .i32 ah ∧ Hid (risesF most (-1) l = risesF most ah (l.drop k)) ∧ Below w.heap.size w wr) (fun _ i _ => n - (intOf i).toNat)
  case atStart => exact ⟨0, -1, Nat.zero_le _, rfl, rfl, Lib.hid rfl, Below.refl _ _⟩
  case round =>
    obtain ⟨k, ah, hk, rfl, rfl, he, hb⟩ := hrel
    by_cases hlt : k < n
    · obtain ⟨p, hp⟩ := getP (l := l) (j := k) (by have := Hn.out; omega)
      obtain ⟨g, off, rfl, hg, hcl⟩ := (hr.below hb).at encP_len (by omega) hp
      have q0 : wr.cell? ⟨g, off + k * 2, none⟩ = some (.int .i32 p.code) := hcl 0 _ rfl
      have q1 : wr.cell? ⟨g, off + k * 2 + 1, none⟩ = some (.int .u16 p.glyph) := hcl 1 _ rfl
      have HB := Lib.hid (hb.alloc hb.size (.cells #[.int .i32 p.code, .int .u16 p.glyph] 67))
      have he' := he.out
      rw [drop_consP hp, risesF] at he'
      clear hcl hp hb
      obtain ⟨pc, pg⟩ := p
      simp only at q0 q1 HB he'
      by_cases h1 : ah < pc
      · by_cases h2 : pc ≤ most
        · have H : Hid (risesF most (-1) l = risesF most pc (l.drop (k + 1))) := by show _ = _; rw [he']; simp [h1, h2]
          clear he he'
          go_wp2
          go_roundw
          case rel => exact ⟨k + 1, pc, by omega, by go_num, rfl, H, HB.out⟩
          case measure => simp [intOf]; omega
        · have H : Hid (risesF most (-1) l = false) := by show _ = _; rw [he']; simp [h2]
          clear he he'
          go_wp2
          go_ret
          rw [H.out]
          exact ⟨rfl, HB.out⟩
      · have H : Hid (risesF most (-1) l = false) := by show _ = _; rw [he']; simp [h1]
        clear he he'
        go_wp2
        go_ret
        rw [H.out]
        exact ⟨rfl, HB.out⟩
    · have H : Hid (risesF most (-1) l = true) := by show _ = _; rw [he.out, List.drop_of_length_le (by have := Hn.out; omega)]; rfl
      go_wp2
      go_ret
      rw [H.out]
      exact ⟨rfl, hb⟩

def pV (p : Pr) : Value := .agg #[.int .i32 p.code, .int .u16 p.glyph]

set_option maxRecDepth 100000 in
set_option maxHeartbeats 1000000 in
theorem sfol_any (p q : Pr) (w : World) (c0 : -1 ≤ p.code) (c1 : p.code ≤ 2000000000) (g0 : 0 ≤ p.glyph) (g1 : p.glyph ≤ 65535) (k0 : 0 ≤ q.glyph) (k1 : q.glyph ≤ 65535) :
    Calls Try.prog 96 #[pV p, pV q] w (Ret w (.bool (folS p q))) := by
  have HB := Lib.hid (((Below.refl w.heap.size w).alloc (Nat.le_refl _) (.cells #[.int .i32 p.code, .int .u16 p.glyph] 67)).alloc (by simp) (.cells #[.int .i32 q.code, .int .u16 q.glyph] 67))
  obtain ⟨pc, pg⟩ := p
  obtain ⟨qc, qg⟩ := q
  simp only [pV] at *
  by_cases h1 : qc = pc + 1
  · have b1 : (qc == pc + 1) = true := by simp [h1]
    by_cases h2 : pg < 65535
    · by_cases h3 : qg = pg + 1
      · have b3 : (qg == pg + 1) = true := by simp [h3]
        have H : Hid (folS ⟨pc, pg⟩ ⟨qc, qg⟩ = true) := by show _ = _; simp [folS, h1]; omega
        clear h1 h3
        go_enter Try.func96, Try.ntmps96
        go_wp2
        go_ret
        rw [H.out]
        exact ⟨rfl, HB.out⟩
      · have b3 : (qg == pg + 1) = false := by simp [h3]
        have H : Hid (folS ⟨pc, pg⟩ ⟨qc, qg⟩ = false) := by show _ = _; simp [folS, h1]; omega
        clear h1 h3
        go_enter Try.func96, Try.ntmps96
        go_wp2
        go_ret
        rw [H.out]
        exact ⟨rfl, HB.out⟩
    · have h4 : pg = 65535 := by omega
      by_cases h3 : qg = 0
      · have b3 : (qg == IntKind.u16.wrap 65536) = true := by rw [show IntKind.u16.wrap 65536 = 0 from by decide]; simp [h3]
        have H : Hid (folS ⟨pc, pg⟩ ⟨qc, qg⟩ = true) := by show _ = _; simp [folS, h1]; omega
        clear h1 h3
        subst h4
        go_enter Try.func96, Try.ntmps96
        go_wp2
        go_ret
        rw [H.out]
        exact ⟨rfl, HB.out⟩
      · have b3 : (qg == IntKind.u16.wrap 65536) = false := by rw [show IntKind.u16.wrap 65536 = 0 from by decide]; simp [h3]
        have H : Hid (folS ⟨pc, pg⟩ ⟨qc, qg⟩ = false) := by show _ = _; simp [folS, h1]; omega
        clear h1 h3
        subst h4
        go_enter Try.func96, Try.ntmps96
        go_wp2
        go_ret
        rw [H.out]
        exact ⟨rfl, HB.out⟩
  · have b1 : (qc == pc + 1) = false := by simp [h1]
    have H : Hid (folS ⟨pc, pg⟩ ⟨qc, qg⟩ = false) := by show _ = _; simp [folS, h1]
    clear h1
    go_enter Try.func96, Try.ntmps96
    go_wp2
    go_ret
    rw [H.out]
    exact ⟨rfl, HB.out⟩

/-- What a search leaves: the first place, as far as it has looked. -/
def RetSe (w : World) (n : Nat) (p : Nat → Bool) (e : Ending) (w' : World) : Prop :=
  ∃ r : Nat, r ≤ n ∧ e = .returned (.int .i64 r) ∧ (0 < r → p (r - 1) = false) ∧ (r < n → p r = true) ∧ Below w.heap.size w w'

set_option maxRecDepth 100000 in
set_option maxHeartbeats 1000000 in
theorem search_any (g : Nat) (cb : Array Value) (n : Nat) (p : Nat → Bool) (w : World) (eg : ∀ args w, (callFunc g args).run Try.prog w = .ok (.enter g args) w) (hn : n ≤ 1000000)
    (hf : ∀ (W : World) (i : Nat), i < n → Below w.heap.size w W → Calls Try.prog g (#[.int .i64 i] ++ cb) W (Ret W (.bool (p i)))) :
    Calls Try.prog 72 #[.int .i64 n, .func (.func g) #[] cb] w (RetSe w n p) := by
  have HF := Lib.hid hf
  clear hf
  go_enter Try.func72, Try.ntmps72
  go_wp2
  go_loopw [5, 6] (fun s5 s6 wr => ∃ lo hi : Nat, s5 = .int .i64 lo ∧ s6 = .int .i64 hi ∧ lo ≤ hi ∧ hi ≤ n ∧ Hid ((0 < lo → p (lo - 1) = false) ∧ (hi < n → p hi = true)) ∧ Below w.heap.size w wr) (fun s5 s6 _ => (intOf s6).toNat - (intOf s5).toNat)
  case atStart => exact ⟨0, n, rfl, rfl, Nat.zero_le _, Nat.le_refl _, Lib.hid ⟨fun h => absurd h (by omega), fun h => absurd h (by omega)⟩, Below.refl _ _⟩
  case round =>
    obtain ⟨lo, hi, rfl, rfl, hlh, hin, I, hb⟩ := hrel
    by_cases hlt : lo < hi
    · have hc := HF.out wr ((lo + hi) / 2) (by omega) hb
      rw [show (((lo + hi) / 2 : Nat) : Int) = ((lo : Int) + (hi : Int)) / 2 by omega] at hc
      have HC := Lib.hid hc
      clear hc
      go_wp2_with fail
      refine HC.out.mono ?_
      rintro e w1 ⟨rfl, hb1⟩
      have hbf := hb.trans (hb1.mono hb.size)
      clear hb1 HC hb
      generalize hq : p ((lo + hi) / 2) = q at *
      have HQ := Lib.hid hq
      clear hq
      cases q with
      | false =>
        go_wp2
        go_roundw
        case rel => exact ⟨(lo + hi) / 2 + 1, hi, by go_num, rfl, by omega, hin, Lib.hid ⟨fun _ => by rw [Nat.add_sub_cancel]; exact HQ.out, I.out.2⟩, hbf⟩
        case measure => simp [intOf]; omega
      | true =>
        go_wp2
        go_roundw
        case rel => exact ⟨lo, (lo + hi) / 2, rfl, by go_num, by omega, by omega, Lib.hid ⟨I.out.1, fun _ => HQ.out⟩, hbf⟩
        case measure => simp [intOf]; omega
    · go_wp2
      go_ret
      exact ⟨lo, by omega, rfl, I.out.1, fun h => by have := I.out.2; rw [show hi = lo by omega] at this; exact this h, hb⟩

end Go.Proofs.Ythkaeimpflggjaa

/- A Reader that was asked for i bytes of zs altogether, whether they were there or not. -/
namespace Go.Proofs.Ythkaeimpflggjaa
open Go.RowKit
set_option linter.unusedVariables false

def RdQ (w : World) (B b : Nat) (zs : List Int) (i : Nat) : Prop :=
  (i ≤ zs.length ∧ Rd w B b (zs.drop i) i false) ∨ (zs.length < i ∧ ∃ a : Int, 0 ≤ a ∧ a ≤ zs.length ∧ Rd w B b [] a true)

section
variable {w w' : World} {B b : Nat} {zs : List Int} {i : Nat}

theorem RdQ.new (h : Rd w B b zs 0 false) : RdQ w B b zs 0 := .inl ⟨Nat.zero_le _, h⟩
theorem RdQ.below (h : RdQ w B b zs i) (hb : Below w.heap.size w w') : RdQ w' B b zs i := by
  rcases h with ⟨hi, h⟩ | ⟨hi, a, a0, a1, h⟩
  · exact .inl ⟨hi, h.below hb⟩
  · exact .inr ⟨hi, a, a0, a1, h.below hb⟩
theorem RdQ.keep (h : RdQ w B b zs i) (hs : w.heap.size ≤ w'.heap.size) (hk : ∀ g, g < w.heap.size → B ≤ g → (g = b ∨ ∃ cur, w.heap[g]? = some (.cells cur 5 (0, 0))) → w'.heap[g]? = w.heap[g]?) : RdQ w' B b zs i := by
  rcases h with ⟨hi, h⟩ | ⟨hi, a, a0, a1, h⟩
  · exact .inl ⟨hi, h.keep hs hk⟩
  · exact .inr ⟨hi, a, a0, a1, h.keep hs hk⟩
theorem RdQ.drewN (h : RdQ w B b zs i) (q : Nat) : RdQ (w.drewN q) B b zs i := h
theorem RdQ.drew (h : RdQ w B b zs i) : RdQ w.drew B b zs i := h
theorem RdQ.lt (h : RdQ w B b zs i) : b < w.heap.size := by
  rcases h with ⟨_, h⟩ | ⟨_, a, _, _, h⟩ <;> exact h.lt
theorem RdQ.from_ (h : RdQ w B b zs i) : B ≤ b := by
  rcases h with ⟨_, h⟩ | ⟨_, a, _, _, h⟩ <;> exact h.from_
theorem RdQ.block (h : RdQ w B b zs i) : RdBlock w b := by
  rcases h with ⟨_, h⟩ | ⟨_, a, _, _, h⟩ <;> exact h.block

theorem rdq_good {m : Nat} (hi : i ≤ zs.length) (hr : Rd w' B b (rest (zs.drop i) m) (gone (zs.drop i) i m) (badn (zs.drop i) false m)) : RdQ w' B b zs (i + m) := by
  by_cases h : i + m ≤ zs.length
  · rw [rest_at zs i m h, gone_at zs i i m h, badn_at zs false i m h] at hr
    exact .inl ⟨h, by simpa using hr⟩
  · have hn : ¬ m ≤ (zs.drop i).length := by rw [List.length_drop]; omega
    unfold rest gone badn at hr
    rw [if_neg hn, if_neg hn, if_neg hn] at hr
    exact .inr ⟨by omega, i, by omega, by omega, hr⟩

theorem rdq_bad {m : Nat} {a : Int} (hm : 0 < m) (hi : zs.length < i) (a0 : 0 ≤ a) (a1 : a ≤ zs.length) (hr : Rd w' B b (rest [] m) (gone [] a m) (badn [] true m)) : RdQ w' B b zs (i + m) := by
  have hn : ¬ m ≤ ([] : List Int).length := by simp; omega
  unfold rest gone badn at hr
  rw [if_neg hn, if_neg hn, if_neg hn] at hr
  exact .inr ⟨by omega, a, a0, a1, hr⟩
theorem drop_past (h : zs.length < i) : zs.drop i = [] := List.drop_of_length_le (by omega)

/-- What asking leaves. -/
def RetQ (w : World) (B b : Nat) (v : Value) (zs : List Int) (i : Nat) (e : Ending) (w' : World) : Prop := e = .returned v ∧ RdQ w' B b zs i ∧ w.grownBy w' (some b)

theorem rdq_u16 (h : RdQ w B b zs i) (hB : Bytes zs) (hl : zs.length ≤ 140737488351232) : Calls Try.prog 88 #[.pointer (some ⟨b, 0, none⟩)] w (RetQ w B b (.int .u16 (n2at zs i)) zs (i + 2)) := by
  rcases h with ⟨hi, h⟩ | ⟨hi, a, a0, a1, h⟩
  · exact (u16_any B b _ _ _ w h (drop_bytes hB _) (by rw [List.length_drop]; omega) (by omega) (by omega)).mono fun e w' ⟨he, hr, hg⟩ => ⟨he, rdq_good hi hr, hg⟩
  · refine (u16_any B b _ _ _ w h (fun x hx => by cases hx) (by simp) a0 (by omega)).mono fun e w' ⟨he, hr, hg⟩ => ⟨?_, rdq_bad (by omega) hi a0 a1 hr, hg⟩
    unfold n2at
    rw [drop_past hi]
    exact he

theorem rdq_u32 (h : RdQ w B b zs i) (hB : Bytes zs) (hl : zs.length ≤ 140737488351232) : Calls Try.prog 87 #[.pointer (some ⟨b, 0, none⟩)] w (RetQ w B b (.int .u32 (n4at zs i)) zs (i + 4)) := by
  rcases h with ⟨hi, h⟩ | ⟨hi, a, a0, a1, h⟩
  · exact (u32_any B b _ _ _ w h (drop_bytes hB _) (by rw [List.length_drop]; omega) (by omega) (by omega)).mono fun e w' ⟨he, hr, hg⟩ => ⟨he, rdq_good hi hr, hg⟩
  · refine (u32_any B b _ _ _ w h (fun x hx => by cases hx) (by simp) a0 (by omega)).mono fun e w' ⟨he, hr, hg⟩ => ⟨?_, rdq_bad (by omega) hi a0 a1 hr, hg⟩
    unfold n4at
    rw [drop_past hi]
    exact he

/-- What taking bytes leaves: they lie in the Reader's own memory. -/
def RetQT (w : World) (B b : Nat) (ys zs : List Int) (i : Nat) (e : Ending) (w' : World) : Prop :=
  ∃ A m c, e = .returned (.slice A m c) ∧ Row w' A m (cellsOf .u8 ys) ∧ (∀ g, blockOf A = some g → B ≤ g ∧ ∃ cur, w'.heap[g]? = some (.cells cur 5 (0, 0))) ∧ RdQ w' B b zs i ∧ w.grownBy w' (some b)

theorem rdq_take (h : RdQ w B b zs i) (hl : zs.length ≤ 140737488351232) (m : Nat) (hm : 0 < m) : Calls Try.prog 89 #[.pointer (some ⟨b, 0, none⟩), .int .i64 m] w (RetQT w B b (told (zs.drop i) m) zs (i + m)) := by
  rcases h with ⟨hi, h⟩ | ⟨hi, a, a0, a1, h⟩
  · exact (take_any B b _ _ _ w h (by rw [List.length_drop]; omega) (by omega) (by omega) m).mono fun e w' ⟨A, n, c, he, h1, h2, hr, hg⟩ => ⟨A, n, c, he, h1, h2, rdq_good hi hr, hg⟩
  · refine (take_any B b _ _ _ w h (by simp) a0 (by omega) m).mono fun e w' ⟨A, n, c, he, h1, h2, hr, hg⟩ => ⟨A, n, c, he, ?_, h2, rdq_bad hm hi a0 a1 hr, hg⟩
    rw [drop_past hi]
    exact h1

theorem rdq_badB (h : RdQ w B b zs i) : Calls Try.prog 90 #[.pointer (some ⟨b, 0, none⟩)] w fun e w' => e = .returned (.bool (decide (zs.length < i))) ∧ w = w' := by
  rcases h with ⟨hi, h⟩ | ⟨hi, a, a0, a1, h⟩
  · rw [decide_eq_false (by omega)]
    exact bad_any B b _ _ _ w h
  · rw [decide_eq_true hi]
    exact bad_any B b _ _ _ w h

end

end Go.Proofs.Ythkaeimpflggjaa

/- Two results, one of them a struct in memory; a Reader beside another block. -/
namespace Go.Proofs.Ythkaeimpflggjaa
open Go.RowKit
set_option linter.unusedVariables false

/-- Two results: a struct in memory, and a plain value. -/
theorem results_two2 {P : Program} {fn : Func} {p q : Tmp} {ty : TypeId} (h : fn.results = #[.cell p ty, .tmp q]) (tmps : Array Value) (w : World) (g : Nat) (t : TypeId) (cs : Array Value) (fr : Nat × Nat) (d : TypeDesc) {v : Value}
    (hp : tmps.getD p undef = .pointer (some ⟨g, 0, none⟩)) (hq : tmps.getD q undef = v) (hg : w.heap[g]? = some (.cells cs t fr))
    (hu : P.underlying ty = some d) (hd : (match d with | .struct _ | .array _ _ => true | _ => false) = true) (hi : (P.info? ty).map (·.size) = some cs.size) :
    (results fn tmps).run P w = .ok (.tuple #[.agg cs, v]) w := by
  have hp' : tmps[p]?.getD undef = .pointer (some ⟨g, 0, none⟩) := by simpa using hp
  have hq' : tmps[q]?.getD undef = v := by simpa using hq
  simp [results, h, hp', hq', asAddr, run_loadVar_row w g t ty cs fr d hg hu hd hi]

theorem rdq_other {w : World} {B b i k t : Nat} {zs : List Int} {cs : Array Value} (h : RdQ w B b zs i) (hk : w.heap[k]? = some (.cells cs t (0, 0))) (h8 : t ≠ 5) (hb : k ≠ b) (j : Nat) (v : Value) : RdQ (w.setCell ⟨k, j, none⟩ v) B b zs i :=
  h.keep (by simp [World.setCell]) (fun g hg _ ho => Below.heap_setCell w _ v g (by
    intro e
    have e' : g = k := e
    subst e'
    rcases ho with e | ⟨cur, hc⟩
    · exact hb e
    · rw [hk] at hc
      simp at hc
      exact h8 hc.2))

end Go.Proofs.Ythkaeimpflggjaa

/- Words for slices of numbers of any kind: what comes in, make, a store, slices.Equal of ints. -/
namespace Go.Proofs.Ythkaeimpflggjaa
open Go.RowKit Go.ChangeShapes Go.WideShapes Go.ChangeAt
set_option linter.unusedVariables false

/-- All are numbers of the kind. -/
def Wf (k : IntKind) (zs : List Int) : Prop := ∀ x ∈ zs, (Lit.int k x).wf = true

set_option maxRecDepth 100000 in
theorem open_nums {T e : TypeId} {k : IntKind} (hT : Try.prog.underlying T = some (.slice e)) (he : Try.prog.underlying e = some (.int k)) (h1 : Try.prog.cellsOf e = 1) {H : Type} {enc : TypeId × Value → H} {W : World} {base : Nat} {v : Value} {d : DataW H} {p : List MemPlace} (hv : Value.okWide Try.prog W .any base T v) (h : DataW.Trod enc Try.prog W 0 (fun _ => true) true T v d p) :
    ∃ A n c zs, v = .slice A n c ∧ Row W A n (cellsOf k zs) ∧ Wf k zs ∧ n ≤ 9223372036854775807 ∧ n ≤ c := by
  obtain ⟨a, len, cap, rfl⟩ := okWide_slice hT hv
  obtain ⟨fuel, hf⟩ := h
  have key : ∃ zs, (a = none ∧ len = 0 ∧ cap = 0 ∧ zs = []) ∨ ∃ x, a = some x ∧ len ≤ cap ∧ cap ≤ maxLen ∧ zs.length = cap ∧ (∀ i, i < zs.length → W.cell? (x.add i) = some (.int k (zs.getD i 0))) ∧ ∀ n ∈ zs, (Lit.int k n).wf = true := by
    rcases open_ints hT he h1 hf with ⟨hcs, _⟩ | ⟨x, l, c, zs, hcs, _, hl, hm, hz, _, hcell, hwz⟩
    · simp [Value.cells] at hcs
      obtain ⟨rfl, rfl, rfl⟩ := hcs
      exact ⟨[], .inl ⟨rfl, rfl, rfl, rfl⟩⟩
    · simp [Value.cells] at hcs
      obtain ⟨rfl, rfl, rfl⟩ := hcs
      exact ⟨zs, .inr ⟨_, rfl, hl, hm, by simpa using hz, hcell, hwz⟩⟩
  obtain ⟨zs, w0⟩ := key
  refine ⟨a, len, cap, zs.take len, rfl, (row_of w0).1, (row_of w0).2.2, (row_of w0).2.1, ?_⟩
  rcases w0 with ⟨_, h1, h2, _⟩ | ⟨_, _, h, _⟩
  · omega
  · exact h

theorem cellsOf_set (k : IntKind) (zs : List Int) (j : Nat) (x : Int) : cellsOf k (zs.set j x) = (cellsOf k zs).set j (.int k x) := by simp [cellsOf, List.map_set]

section
variable {t : TypeId} {k : IntKind} {w : World} {B g n c : Nat} {zs : List Int}

theorem Own.thaw (h : Own t k w B (some ⟨g, 0, none⟩) n c zs) (o : Nat) : w.frozen? ⟨g, o, none⟩ = false := by
  rcases h.shape with ⟨e, _⟩ | ⟨g', cur, e, _, _, hh, _⟩
  · cases e
  · simp only [Option.some.injEq, Addr.mk.injEq, and_true] at e
    subst e
    simp [World.frozen?, hh]

theorem Own.block (h : Own t k w B (some ⟨g, 0, none⟩) n c zs) : ∃ cur, w.heap[g]? = some (.cells cur t (0, 0)) := by
  rcases h.shape with ⟨e, _⟩ | ⟨g', cur, e, _, _, hh, _⟩
  · cases e
  · simp only [Option.some.injEq, Addr.mk.injEq, and_true] at e
    subst e
    exact ⟨cur, hh⟩

/-- A store into a fresh row of numbers. -/
theorem Own.set (h : Own t k w B (some ⟨g, 0, none⟩) n c zs) (j : Nat) (x : Int) : Own t k (w.setCell ⟨g, j, none⟩ (.int k x)) B (some ⟨g, 0, none⟩) n c (zs.set j x) := by
  rcases h.shape with ⟨e, _⟩ | ⟨g', cur, e, hB, hg, hh, h1, h2, h3, h4⟩
  · cases e
  · simp only [Option.some.injEq, Addr.mk.injEq, and_true] at e
    subst e
    have hl := h.len
    refine ⟨by rw [cellsOf_length, List.length_set, hl]; omega, .inr ⟨g, c, cur.setIfInBounds j (.int k x), rfl, hB, ?_, h1, h2, by simpa using h3, ?_⟩⟩
    · simp [World.setCell, Array.getElem?_modify, hh]
    · rw [cellsOf_set, ← h4, Nat.mul_one]
      simp [List.take_set]
end

/-- 'make([]T, n, m)' for numbers. -/
theorem wpList_make_ints {P : Program} {w : World} {ops : Array Oper} {rest : List Oper} {o : Oper} {a : Act} {Q : Exit → Act → World → Prop} (hg : o.guard = none) (l c : Operand) (T : TypeId) (hop : o.op = Op.makeSlice T l c)
    (t : TypeId) (k : IntKind) (B : Nat) (i : TypeInfo) (b : Nat) (h1 : P.underlying T = some (.slice t)) (h2 : P.info? t = some i) (h3 : i.zero = some (.int k 0)) (h4 : i.size = 1) (h5 : i.bytes = b)
    (L C : Int) (n m : Nat) (hl : a.eval l = .int .i64 L) (hc : a.eval c = .int .i64 C) (hL : L = (n : Int)) (hC : C = (m : Int)) (hnm : n ≤ m) (b2 : b * m ≤ 281474976710656) (b3 : m ≤ 9223372036854775807) (b4 : B ≤ w.heap.size)
    (hK : ∀ w', Own t k w' B (some ⟨w.heap.size, 0, none⟩) n m (List.replicate n 0) → w.grownBy w' none → wpList P ops Q rest (a.put o.dst (.slice (some ⟨w.heap.size, 0, none⟩) n m)) w') : wpList P ops Q (o :: rest) a w := by
  refine wpList_plain hg fun K hK' => ?_
  subst hL hC h5
  have hb' : (i.bytes : Int) * (m : Int) ≤ 281474976710656 := by
    have h : ((i.bytes * m : Nat) : Int) ≤ 281474976710656 := by omega
    rwa [Int.natCast_mul] at h
  have hr := run_make (P := P) w T t i (.int k 0) h1 h2 h3 .i64 .i64 n m (by omega) (by omega) hb' (by omega)
  simp only [Int.toNat_natCast, h4, Nat.mul_one] at hr
  unfold Oper.wp
  simp [execOp, hop, hl, hc, hr, Result.andThen]
  refine hK' _ _ (hK _ ?_ (World.grownBy_alloc w _ none))
  refine ⟨by rw [cellsOf_length, List.length_replicate]; omega, .inr ⟨w.heap.size, m, _, rfl, b4, heap_alloc_new w _, hnm, by simp only [maxLen]; omega, by rw [size_madeCells, Nat.mul_one], ?_⟩⟩
  rw [Nat.mul_one]
  apply List.ext_getElem?
  intro j
  by_cases hj : j < n
  · simp [madeCells, cellsOf, hj, Nat.mod_one, Value.cells, show j < m by omega]
  · simp [List.getElem?_take, hj, cellsOf]

theorem Try.i64info : (Try.prog.info? 3).map (fun i => (i.zero, i.size, i.bytes)) = some (some (.int .i64 0), 1, 8) := by kernel_rfl

/-- What a call that tells fresh numbers, or that there are none, leaves. -/
def RetPl (w : World) (ok : Bool) (zs : List Int) (bad good : Value) (e : Ending) (w' : World) : Prop :=
  Below w.heap.size w w' ∧ ((ok = false ∧ e = .returned (.tuple #[.slice none 0 0, bad])) ∨ (ok = true ∧ ∃ A n c, e = .returned (.tuple #[.slice A n c, good]) ∧ Own 3 .i64 w' w.heap.size A n c zs))

end Go.Proofs.Ythkaeimpflggjaa

/- group.Parse, as a contract over this seat's translation. -/
namespace Go.Proofs.Ythkaeimpflggjaa
open Go.RowKit
set_option linter.unusedVariables false

theorem row_take16 {w : World} {A : Option Addr} {n : Nat} {zs : List Int} (M : Nat) (hr : Row w A n (cellsOf .u8 zs)) : Row w A (min n M) (cellsOf .u8 (zs.take M)) := by
  have h := hr.take (k := min n M) (Nat.min_le_left _ _)
  rw [cellsOf_take] at h
  have hl := hr.len
  rw [show zs.take M = zs.take (min n M) by
    rcases Nat.le_total n M with h1 | h1
    · rw [List.take_of_length_le (by omega), List.take_of_length_le (by omega)]
    · rw [show min n M = M by omega]]
  exact h

/-- How many groups it says that it has. -/
def gCnt (zs : List Int) : Int := if gFront zs then n4at zs 12 else 0

def rnV (x : Rn) : Value := .agg #[.int .i32 x.a, .int .i32 x.b, .int .u16 x.g]

def rgV (x : Rn) : Value := if gOne x then rnV x else rnV ⟨0, 0, 0⟩

/-- What reading a group leaves. -/
def RetRG (w : World) (B b : Nat) (zs : List Int) (i : Nat) (x : Rn) (e : Ending) (w' : World) : Prop :=
  e = .returned (.tuple #[rgV x, .bool (gOne x)]) ∧ RdQ w' B b zs (i + 12) ∧ w.grownBy w' (some b)

end Go.Proofs.Ythkaeimpflggjaa

/- group.Parse, Groups and Look, as contracts over this seat's translation. -/
namespace Go.Proofs.Ythkaeimpflggjaa
open Go.RowKit
set_option linter.unusedVariables false

theorem one3 (a b c : Int) : (#[Value.int .i32 a, .int .i32 b, .int .u16 c].all (·.oneCell')) = true := by
  rw [← Array.all_toList]
  rfl

def gmV (A : Option Addr) (n c : Nat) : Value := .agg #[.slice A n c]

/-- What the search asks. -/
def pG (l : List Rn) (code : Int) (i : Nat) : Bool := decide (code ≤ (l.getD i default).b)

theorem pG_get {l : List Rn} {code : Int} {i : Nat} {x : Rn} (h : l[i]? = some x) : pG l code i = decide (code ≤ x.b) := by unfold pG; rw [List.getD_eq_getElem?_getD, h]; rfl

end Go.Proofs.Ythkaeimpflggjaa

/- group.runs, as a contract over this seat's translation. -/
namespace Go.Proofs.Ythkaeimpflggjaa
open Go.RowKit
set_option linter.unusedVariables false

/-- What is asked of pairs. -/
def OkP (l : List Pr) : Prop := ∀ p ∈ l, 0 ≤ p.code ∧ p.code ≤ 2000000000 ∧ 0 ≤ p.glyph ∧ p.glyph ≤ 65535

theorem atP {w : World} {A : Option Addr} {n : Nat} {l : List Pr} {j : Nat} {p : Pr} (h : RowS encP 2 w A n l) (hj : l[j]? = some p) :
    ∃ g off, A = some ⟨g, off, none⟩ ∧ g < w.heap.size ∧ w.cell? ⟨g, off + j * 2, none⟩ = some (.int .i32 p.code) ∧ w.cell? ⟨g, off + j * 2 + 1, none⟩ = some (.int .u16 p.glyph) := by
  obtain ⟨g, off, e, hg, hc⟩ := h.at encP_len (by omega) hj
  exact ⟨g, off, e, hg, hc 0 _ rfl, hc 1 _ rfl⟩

end Go.Proofs.Ythkaeimpflggjaa

/- A Writer beside a struct in a block of its own: what a Writer's call leaves of both. -/
namespace Go.Proofs.Ythkaeimpflggjaa
open Go.RowKit
set_option linter.unusedVariables false

/-- A block of another kind is no Writer's. -/
theorem Wr.apart {w : World} {B b k : Nat} {zs : List Int} {cs : Array Value} {t : TypeId} (h : Wr w B b zs) (hk : w.heap[k]? = some (.cells cs t (0, 0))) (h1 : t ≠ 5) (h2 : t ≠ 87) : ¬ WrS w b k := by
  rintro (rfl | ⟨A, n, c, hb, e⟩)
  · obtain ⟨A, n, c, hb, _⟩ := h
    rw [hk] at hb
    simp at hb
    exact h2 hb.2
  · obtain ⟨A', n', c', hb', _, hown⟩ := h
    rw [hb] at hb'
    simp at hb'
    obtain ⟨rfl, rfl, rfl⟩ := hb'
    rcases hown.shape with ⟨rfl, _⟩ | ⟨g, cur, rfl, _, _, hh, _⟩
    · simp [blockOf] at e
    · simp [blockOf] at e
      subst e
      rw [hk] at hh
      simp at hh
      exact h1 hh.2

/-- A Writer in block b that is younger than w, and a struct in block bt. -/
structure StB (w wr : World) (b : Nat) (zs : List Int) (bt : Nat) (cs : Array Value) (t : TypeId) : Prop where
  wr_ : Wr wr w.heap.size b zs
  bel : Below w.heap.size w wr
  box : wr.heap[bt]? = some (.cells cs t (0, 0))
  n8 : t ≠ 5
  nw : t ≠ 87

section
variable {w wr w' : World} {b : Nat} {zs ys : List Int} {bt : Nat} {cs : Array Value} {t : TypeId}
theorem StB.below (h : StB w wr b zs bt cs t) (hb : Below wr.heap.size wr w') : StB w w' b zs bt cs t :=
  ⟨h.wr_.below hb, h.bel.trans (hb.mono h.bel.size), (hb.block _ (lt_of_block h.box)).trans h.box, h.n8, h.nw⟩
theorem StB.turned (h : StB w wr b zs bt cs t) (h1 : Wr w' w.heap.size b ys) (ht : Turned wr w' (WrS wr b)) : StB w w' b ys bt cs t :=
  ⟨h1, h.wr_.older h.bel (Nat.le_refl _) ht, (ht.block _ (lt_of_block h.box) (h.wr_.apart h.box h.n8 h.nw)).trans h.box, h.n8, h.nw⟩
theorem StB.drew (h : StB w wr b zs bt cs t) : StB w wr.drew b zs bt cs t := ⟨h.wr_, h.bel.drew, h.box, h.n8, h.nw⟩
theorem StB.drewN (h : StB w wr b zs bt cs t) (q : Nat) : StB w (wr.drewN q) b zs bt cs t := ⟨h.wr_, below_drewN h.bel q, h.box, h.n8, h.nw⟩
theorem StB.cell (h : StB w wr b zs bt cs t) (i : Nat) (v : Value) (hi : cs[i]? = some v) : wr.cell? ⟨bt, i, none⟩ = some v := (cell_of_row wr _ i _ _ _ h.box).trans hi
theorem StB.size (h : StB w wr b zs bt cs t) : w.heap.size ≤ wr.heap.size := h.bel.size
end

/-- A struct that is boxed, and a new Writer behind it. -/
theorem stB_new (w : World) (cs : Array Value) (t : TypeId) (h8 : t ≠ 5) (hw : t ≠ 87) : StB w ((w.alloc (.cells cs t)).alloc (.cells #[.slice none 0 0] 87)) (w.heap.size + 1) [] w.heap.size cs t := by
  have hb1 : Below w.heap.size w (w.alloc (.cells cs t)) := (Below.refl _ _).alloc (Nat.le_refl _) _
  have hw' := wr_new (w.alloc (.cells cs t))
  have hs : (w.alloc (.cells cs t)).heap.size = w.heap.size + 1 := by simp
  rw [hs] at hw'
  refine ⟨hw'.mono (by omega), hb1.alloc (by rw [hs]; omega) _, ?_, h8, hw⟩
  rw [Below.heap_alloc _ _ _ (by rw [hs]; omega)]
  exact heap_alloc_new w _

/-- An element of an array that is a value. -/
theorem run_index_arr {P : Program} (w : World) (T e : TypeId) (len : Nat) (cs : Array Value) (k : Nat) (v : Value) (hT : P.underlying T = some (.array len e)) (ha : (isAgg e).run P w = .ok false w) (hs : (Go.sizeOf e).run P w = .ok 1 w) (hk : k < len) (hv : cs[k]? = some v) :
    (Instr.index T (.agg cs) (.int .i64 k)).run P w = .ok v w := by
  have hk' : (k : Int) < (len : Int) := by omega
  have hk0 : (0 : Int) ≤ (k : Int) := by omega
  simp only [Instr.index, asIntOf, Sem.run_bind, Sem.run_pure, Result.andThen_ok, run_underlying hT, hk', hk0, and_self, if_true, hs, Int.toNat_natCast, Nat.mul_one, Go.part, ha, Bool.false_eq_true, if_false, hv]

end Go.Proofs.Ythkaeimpflggjaa

/- group.Build, as a contract over this seat's translation. -/
namespace Go.Proofs.Ythkaeimpflggjaa
open Go.RowKit
set_option linter.unusedVariables false

def gBody (x : Rn) : List Int := b4 x.a ++ (b4 x.b ++ b4 x.g)
def gHead (m : Nat) : List Int := b2 12 ++ (b2 0 ++ (b4 (16 + (m : Int) * 12) ++ (b4 0 ++ b4 (m : Int))))
def gBytes (rs : List Rn) : List Int := gHead rs.length ++ rs.flatMap gBody
def gOut (l : List Pr) : List Int := if risesF 1114111 (-1) l then gBytes (runsF folG l) else []

theorem gBody_len (x : Rn) : (gBody x).length = 12 := rfl
theorem gHead_len (m : Nat) : (gHead m).length = 16 := rfl
theorem gFlat_len : ∀ rs : List Rn, (rs.flatMap gBody).length = 12 * rs.length
  | [] => rfl
  | x :: r => by rw [List.flatMap_cons, List.length_append, gFlat_len r, gBody_len]; simp; omega
theorem gBytes_len (rs : List Rn) : (gBytes rs).length = 16 + 12 * rs.length := by rw [gBytes, List.length_append, gHead_len, gFlat_len]
theorem gFlat_snoc {rs : List Rn} {k : Nat} {x : Rn} (h : rs[k]? = some x) : (rs.take (k + 1)).flatMap gBody = (rs.take k).flatMap gBody ++ gBody x := by
  rw [List.take_add_one, h]
  simp

end Go.Proofs.Ythkaeimpflggjaa

/- A table of groups that is built is read as it was: plain lists. -/
namespace Go.Proofs.Ythkaeimpflggjaa
set_option linter.unusedVariables false

theorem rnOK_at {most : Int} : ∀ {l : List Rn} {ah : Int}, rnOK most ah l → ∀ {i : Nat} {x : Rn}, l[i]? = some x → ah < x.a ∧ x.a ≤ x.b ∧ x.b ≤ most
  | [], _, _, i, x, hx => by simp at hx
  | y :: r, ah, h, i, x, hx => by
    obtain ⟨h1, h2, h3, h4⟩ := h
    cases i with
    | zero => simp at hx; subst hx; exact ⟨h1, h2, h3⟩
    | succ i => have := rnOK_at h4 (i := i) (x := x) (by simpa using hx); omega

theorem rnOK_next {most : Int} : ∀ {l : List Rn} {ah : Int}, rnOK most ah l → ∀ {i : Nat} {x y : Rn}, l[i]? = some x → l[i + 1]? = some y → x.b < y.a
  | [], _, _, i, x, y, hx, hy => by simp at hx
  | z :: r, ah, h, i, x, y, hx, hy => by
    obtain ⟨h1, h2, h3, h4⟩ := h
    cases i with
    | zero => simp at hx; subst hx; exact (rnOK_at h4 (i := 0) (x := y) (by simpa using hy)).1
    | succ i => exact rnOK_next h4 (by simpa using hx) (by simpa using hy)

theorem gFlat_drop : ∀ (rs : List Rn) (i : Nat), (rs.flatMap gBody).drop (12 * i) = (rs.drop i).flatMap gBody
  | [], i => by simp
  | x :: r, 0 => by simp
  | x :: r, i + 1 => by
    rw [List.flatMap_cons, show 12 * (i + 1) = (gBody x).length + 12 * i by rw [gBody_len]; omega, List.drop_append, List.drop_of_length_le (by omega), Nat.add_sub_cancel_left, List.nil_append, gFlat_drop r i]
    rfl

theorem gBytes_drop (rs : List Rn) (i : Nat) : (gBytes rs).drop (16 + 12 * i) = (rs.drop i).flatMap gBody := by
  rw [gBytes, show 16 + 12 * i = (gHead rs.length).length + 12 * i by rw [gHead_len], List.drop_append, List.drop_of_length_le (by omega), Nat.add_sub_cancel_left, List.nil_append, gFlat_drop]

theorem gBytes_at (rs : List Rn) {i : Nat} {x : Rn} (h : rs[i]? = some x) (hx : 0 ≤ x.a ∧ x.a ≤ x.b ∧ x.b ≤ 1114111 ∧ 0 ≤ x.g ∧ x.g ≤ 65535) : gAt (gBytes rs) i = x := by
  have hd : (gBytes rs).drop (16 + 12 * i) = b4 x.a ++ (b4 x.b ++ b4 x.g) ++ (rs.drop (i + 1)).flatMap gBody := by
    rw [gBytes_drop, drop_consP h, List.flatMap_cons]
    rfl
  have e1 : n4at (gBytes rs) (16 + 12 * i) = x.a := n4at_of (by rw [hd]; rfl) (by omega) (by omega)
  have e2 : n4at (gBytes rs) (20 + 12 * i) = x.b := n4at_of (by rw [show 20 + 12 * i = 16 + 12 * i + 4 by omega, ← List.drop_drop, hd]; rfl) (by omega) (by omega)
  have e3 : n4at (gBytes rs) (24 + 12 * i) = x.g := n4at_of (by rw [show 24 + 12 * i = 16 + 12 * i + 8 by omega, ← List.drop_drop, hd]; rfl) (by omega) (by omega)
  unfold gAt
  rw [e1, e2, e3]

theorem gBytes_bytes (rs : List Rn) : Bytes (gBytes rs) := by
  have hb : ∀ x, Bytes (gBody x) := fun x => by
    intro y hy
    simp [gBody, b4, b2] at hy
    omega
  have hf : ∀ r : List Rn, Bytes (r.flatMap gBody) := by
    intro r
    induction r with
    | nil => intro y hy; simp at hy
    | cons x r ih => intro y hy; rw [List.flatMap_cons] at hy; exact (List.mem_append.1 hy).elim (hb x y) (ih y)
  intro y hy
  rcases List.mem_append.1 hy with h | h
  · simp [gHead, b4, b2] at h
    omega
  · exact hf rs y h

theorem gBytes_right (rs : List Rn) (hok : rnOK 1114111 (-1) rs) (hfit : ∀ x ∈ rs, 0 ≤ x.g ∧ x.g + (x.b - x.a) ≤ 65535) (hl : rs.length ≤ 1000000) :
    gRight (gBytes rs) = true ∧ gN (gBytes rs) = rs.length ∧ grps (gBytes rs) rs.length = rs := by
  have h12 : n4at (gBytes rs) 12 = (rs.length : Int) := n4at_of (by rfl) (by omega) (by omega)
  have h4 : n4at (gBytes rs) 4 = 16 + (rs.length : Int) * 12 := n4at_of (by rfl) (by omega) (by omega)
  have h0 : n2at (gBytes rs) 0 = 12 := n2at_of (by rfl) (by omega) (by omega)
  have h2 : n2at (gBytes rs) 2 = 0 := n2at_of (by rfl) (by omega) (by omega)
  have hN : gN (gBytes rs) = rs.length := by unfold gN; rw [h12]; simp
  have hat : ∀ i x, rs[i]? = some x → gAt (gBytes rs) i = x := fun i x h => by
    have a1 := rnOK_at hok h
    have a2 := hfit x (List.mem_of_getElem? h)
    exact gBytes_at rs h (by omega)
  refine ⟨?_, hN, ?_⟩
  · unfold gRight
    rw [Bool.and_eq_true]
    constructor
    · unfold gFront
      rw [h0, h2, h4, h12, gBytes_len]
      simp
      omega
    · rw [hN]
      unfold gOkK
      rw [List.all_eq_true]
      intro i hi
      have hi' := List.mem_range.1 hi
      obtain ⟨x, hx⟩ := getP (l := rs) (j := i) hi'
      have a1 := rnOK_at hok hx
      have a2 := hfit x (List.mem_of_getElem? hx)
      have a3 := hat i x hx
      have a4 : n4at (gBytes rs) (16 + 12 * i) = x.a := congrArg Rn.a a3
      unfold gOkAt
      rw [Bool.and_eq_true, a3, a4]
      refine ⟨by unfold gOne; rw [decide_eq_true_eq]; omega, ?_⟩
      rw [decide_eq_true_eq]
      unfold gLeast
      split
      · omega
      · obtain ⟨j, rfl⟩ : ∃ j, i = j + 1 := ⟨i - 1, by omega⟩
        obtain ⟨y, hy⟩ := getP (l := rs) (j := j) (by omega)
        have := rnOK_next hok hy hx
        have a5 : n4at (gBytes rs) (20 + 12 * j) = y.b := congrArg Rn.b (hat j y hy)
        rw [show 8 + 12 * (j + 1) = 20 + 12 * j by omega, a5]
        omega
  · apply List.ext_getElem?
    intro i
    unfold grps
    by_cases hi : i < rs.length
    · obtain ⟨x, hx⟩ := getP (l := rs) (j := i) hi
      rw [hx]
      simp [hi, hat i x hx]
    · rw [List.getElem?_eq_none (by simpa using Nat.le_of_not_lt hi), List.getElem?_eq_none (by simpa using Nat.le_of_not_lt hi)]

/-- Of pairs that rise. -/
theorem gOut_right {l : List Pr} (hg : PrG l) (h : risesF 1114111 (-1) l = true) (hl : l.length ≤ 1000000) :
    gOut l = gBytes (runsF folG l) ∧ gRight (gOut l) = true ∧ gN (gOut l) = (runsF folG l).length ∧ grps (gOut l) (gN (gOut l)) = runsF folG l ∧ Bytes (gOut l) ∧ (gOut l).length = 16 + 12 * (runsF folG l).length := by
  have e : gOut l = gBytes (runsF folG l) := by unfold gOut; rw [h]; rfl
  have hlen := runsF_len folG l
  obtain ⟨h1, h2, h3⟩ := gBytes_right (runsF folG l) (runs_ok folG_code _ _ _ h) (runsG_fit l hg) (by omega)
  rw [e]
  exact ⟨rfl, h1, h2, by rw [h2]; exact h3, gBytes_bytes _, gBytes_len _⟩

theorem gOut_nil {l : List Pr} (h : risesF 1114111 (-1) l = false) : gOut l = [] := by unfold gOut; rw [h]; rfl

end Go.Proofs.Ythkaeimpflggjaa

/- Join of any written-out row of byte slices; arrays of numbers held against one another. -/
namespace Go.Proofs.Ythkaeimpflggjaa
open Go.RowKit
set_option linter.unusedVariables false

theorem joinN_any (V : World) (b : Nat) (l : List BsV) (k : Nat) (cs : Array Value) (hcs : cs = (l.map BsV.val).toArray) (hb : b = V.heap.size) (hk : l.length = k) (hs : ∀ p ∈ l, p.ok V) (hk' : k ≤ 140737488351232) (hl : (joined l).length ≤ 140737488351232) :
    Calls Try.prog 20 #[.slice (some ⟨b, 0, none⟩) k k] (V.alloc (.cells cs 27)) (RetB V (joined l)) := by
  subst hb hcs
  have ha : Below V.heap.size V (V.alloc (.cells (l.map BsV.val).toArray 27)) := (Below.refl _ _).alloc (Nat.le_refl _) _
  refine (join_any _ k k l _ (row_vals V 27 _ k (by rw [List.length_map]; exact hk)) (fun p hp => ?_) hk' hl).mono ?_
  · exact Row.below (hs p hp) ha
  · rintro e w' ⟨A, n, c, rfl, ho, hb⟩
    exact ⟨A, n, c, rfl, ho.mono (by simp), ha.trans (hb.mono (by simp))⟩

/-- A search for the first place where two lists part. -/
theorem forIn_apart {P : Program} (w : World) (xs ys : List Int) (f : Nat → Option Bool × Unit → Sem (ForInStep (Option Bool × Unit)))
    (hf : ∀ i x y, xs[i]? = some x → ys[i]? = some y → ∀ r, (f i r).run P w = .ok (if x = y then .yield (none, ()) else .done (some false, ())) w) (hxy : xs.length = ys.length) :
    ∀ (n s : Nat), s + n = xs.length → xs.take s = ys.take s → (forIn (List.range' s n) (none, ()) f).run P w = .ok (if xs = ys then (none, ()) else (some false, ())) w := by
  intro n
  induction n with
  | zero =>
    intro s hsn ht
    have : xs = ys := by rw [List.take_of_length_le (by omega), List.take_of_length_le (by omega)] at ht; exact ht
    simp [this]
  | succ n ih =>
    intro s hsn ht
    have h1 : xs[s]? = some xs[s] := List.getElem?_eq_getElem (by omega)
    have h2 : ys[s]? = some ys[s] := List.getElem?_eq_getElem (by omega)
    rw [List.range'_succ, List.forIn_cons]
    simp only [Sem.run_bind, hf s _ _ h1 h2, Result.andThen_ok]
    by_cases he : xs[s] = ys[s]
    · rw [if_pos he]
      exact ih (s + 1) (by omega) (by rw [List.take_add_one, List.take_add_one, h1, h2, ht, he])
    · have hne : ¬ xs = ys := by
        rintro rfl
        exact he rfl
      rw [if_neg he, if_neg hne]
      simp [Sem.run_pure]

/-- Arrays of numbers are alike just if all their numbers are. -/
theorem run_equalIn_ints {P : Program} (w : World) (d : Nat) (t e : TypeId) (len : Nat) (k k' : IntKind) (xs ys : List Int) (ht : P.underlying t = some (.array len e)) (he : P.underlying e = some (.int k')) (ha : (isAgg e).run P w = .ok false w) (hs : (Go.sizeOf e).run P w = .ok 1 w) (hx : xs.length = len) (hy : ys.length = len) :
    (Op.equalIn (d + 2) t (.agg (cellsOf k xs).toArray) (.agg (cellsOf k ys).toArray)).run P w = .ok (decide (xs = ys)) w := by
  rw [show d + 2 = (d + 1) + 1 from rfl, Op.equalIn]
  simp only [Sem.run_bind, run_underlying ht, hs, Result.andThen_ok]
  rw [Std.Legacy.Range.forIn_eq_forIn_range']
  rw [show Std.Legacy.Range.size [0:len] = xs.length by simp [Std.Legacy.Range.size, hx]]
  rw [forIn_apart w xs ys _ ?_ (by omega) xs.length 0 (by omega) (by simp)]
  · simp only [Result.andThen_ok]
    by_cases h : xs = ys <;> simp [h, Sem.run_pure]
  · intro i x y h1 h2 r
    simp only [Sem.run_bind, Go.part, ha, Result.andThen_ok, Bool.false_eq_true, if_false, List.getElem?_toArray, Nat.mul_one, cellsOf_get h1, cellsOf_get h2, Sem.run_pure, run_equalIn_int w d e k k' x y he]
    by_cases h : x = y <;> simp [h, Sem.run_pure]

end Go.Proofs.Ythkaeimpflggjaa

/- Slices of bytes that were gathered one by one, to be joined. -/
namespace Go.Proofs.Ythkaeimpflggjaa
open Go.RowKit
set_option linter.unusedVariables false

/-- All of them read as they were told. -/
def Got (w : World) (l : List BsV) : Prop := ∀ p ∈ l, p.ok w

section
variable {w w' : World} {l : List BsV}
theorem Got.nil (w : World) : Got w [] := fun p hp => by cases hp
theorem Got.below (h : Got w l) (hb : Below w.heap.size w w') : Got w' l := fun p hp => Row.below (h p hp) hb
theorem Got.drew (h : Got w l) : Got w.drew l := h
theorem Got.add {B : Nat} {A : Option Addr} {n c : Nat} {ys : List Int} (h : Got w l) (hb : Below w.heap.size w w') (ho : OwnB w' B A n c ys) : Got w' (l ++ [⟨A, n, c, ys⟩]) := fun p hp => by
  rcases List.mem_append.1 hp with hp | hp
  · exact Row.below (h p hp) hb
  · simp only [List.mem_cons, List.not_mem_nil, or_false] at hp
    subst hp
    exact ho.row
theorem Got.put {A : Option Addr} {n c : Nat} {ys : List Int} (h : Got w l) (hr : Row w A n (cellsOf .u8 ys)) : Got w (l ++ [⟨A, n, c, ys⟩]) := fun p hp => by
  rcases List.mem_append.1 hp with hp | hp
  · exact h p hp
  · simp only [List.mem_cons, List.not_mem_nil, or_false] at hp
    subst hp
    exact hr
end

end Go.Proofs.Ythkaeimpflggjaa
