/- Pairs that rise, and runs of these: plain lists, for both kinds of tables. -/
import Derived.Test.YthkaeimpflggjaaDoorWin
namespace Go.Proofs.YthkaeimpflggjaaDoor
set_option linter.unusedVariables false

structure Pr where
  code : Int
  glyph : Int
deriving Inhabited

structure Rn where
  a : Int
  b : Int
  g : Int
deriving Inhabited

/-- As few runs as there may be. -/
def runsF (fol : Pr → Pr → Bool) : List Pr → List Rn
  | [] => []
  | p :: r => match runsF fol r with
    | [] => [⟨p.code, p.code, p.glyph⟩]
    | h :: t => if fol p ⟨h.a, h.g⟩ then ⟨p.code, h.b, p.glyph⟩ :: t else ⟨p.code, p.code, p.glyph⟩ :: h :: t

theorem runsF_nil (fol : Pr → Pr → Bool) : runsF fol [] = [] := rfl

theorem runsF_one (fol : Pr → Pr → Bool) (p : Pr) : runsF fol [p] = [⟨p.code, p.code, p.glyph⟩] := rfl

theorem runsF_head (fol : Pr → Pr → Bool) (p : Pr) (r : List Pr) : ∃ h t, runsF fol (p :: r) = h :: t ∧ h.a = p.code ∧ h.g = p.glyph := by
  show ∃ h t, (match runsF fol r with
    | [] => [⟨p.code, p.code, p.glyph⟩]
    | h :: t => if fol p ⟨h.a, h.g⟩ then ⟨p.code, h.b, p.glyph⟩ :: t else ⟨p.code, p.code, p.glyph⟩ :: h :: t) = h :: t ∧ _
  split
  · exact ⟨_, _, rfl, rfl, rfl⟩
  · split
    · exact ⟨_, _, rfl, rfl, rfl⟩
    · exact ⟨_, _, rfl, rfl, rfl⟩

theorem runsF_yes (fol : Pr → Pr → Bool) (p q : Pr) (r : List Pr) (h : Rn) (t : List Rn) (e : runsF fol (q :: r) = h :: t) (hf : fol p q = true) : runsF fol (p :: q :: r) = ⟨p.code, h.b, p.glyph⟩ :: t := by
  obtain ⟨h', t', e', ha, hg⟩ := runsF_head fol q r
  rw [e] at e'
  obtain ⟨rfl, rfl⟩ := List.cons.inj e'
  rw [runsF, e]
  simp only [ha, hg]
  rw [if_pos hf]

theorem runsF_no (fol : Pr → Pr → Bool) (p q : Pr) (r : List Pr) (hf : fol p q = false) : runsF fol (p :: q :: r) = ⟨p.code, p.code, p.glyph⟩ :: runsF fol (q :: r) := by
  obtain ⟨h', t', e', ha, hg⟩ := runsF_head fol q r
  rw [runsF, e']
  simp only [ha, hg]
  rw [if_neg (by rw [hf]; simp)]

/-- One pair more. -/
theorem runsF_snoc (fol : Pr → Pr → Bool) (q p : Pr) : ∀ l : List Pr,
    (fol q p = false → runsF fol (l ++ [q, p]) = runsF fol (l ++ [q]) ++ [⟨p.code, p.code, p.glyph⟩]) ∧
    (fol q p = true → ∃ s x, runsF fol (l ++ [q]) = s ++ [x] ∧ runsF fol (l ++ [q, p]) = s ++ [⟨x.a, p.code, x.g⟩])
  | [] => by
    constructor
    · intro hf
      show runsF fol [q, p] = _
      rw [runsF_no fol q p [] hf]
      rfl
    · intro hf
      refine ⟨[], ⟨q.code, q.code, q.glyph⟩, rfl, ?_⟩
      show runsF fol [q, p] = _
      rw [runsF_yes fol q p [] _ _ (runsF_one fol p) hf]
      rfl
  | y :: l => by
    obtain ⟨h1, h2⟩ := runsF_snoc fol q p l
    obtain ⟨z, L, e1, L', e2⟩ : ∃ z L, l ++ [q] = z :: L ∧ ∃ L', l ++ [q, p] = z :: L' := by
      cases l with
      | nil => exact ⟨q, [], rfl, [p], rfl⟩
      | cons z l => exact ⟨z, l ++ [q], rfl, l ++ [q, p], rfl⟩
    rw [e1, e2] at h1 h2
    rw [List.cons_append, List.cons_append, e1, e2]
    cases hy : fol y z with
    | false =>
      rw [runsF_no fol y z L hy, runsF_no fol y z L' hy]
      constructor
      · intro hf
        rw [h1 hf]
        rfl
      · intro hf
        obtain ⟨s, x, h3, h4⟩ := h2 hf
        exact ⟨_ :: s, x, by rw [h3]; rfl, by rw [h4]; rfl⟩
    | true =>
      obtain ⟨h, t, e3, _⟩ := runsF_head fol z L
      rw [runsF_yes fol y z L h t e3 hy]
      rw [e3] at h1 h2
      constructor
      · intro hf
        have h5 : runsF fol (z :: L') = h :: (t ++ [⟨p.code, p.code, p.glyph⟩]) := h1 hf
        rw [runsF_yes fol y z L' _ _ h5 hy]
        rfl
      · intro hf
        obtain ⟨s, x, h3, h4⟩ := h2 hf
        cases s with
        | nil =>
          obtain ⟨rfl, rfl⟩ := List.cons.inj h3
          rw [runsF_yes fol y z L' _ _ h4 hy]
          exact ⟨[], _, rfl, rfl⟩
        | cons s0 s =>
          obtain ⟨rfl, rfl⟩ := List.cons.inj h3
          rw [runsF_yes fol y z L' _ _ h4 hy]
          exact ⟨_ :: s, x, rfl, rfl⟩

/-- By places. -/
theorem take_snoc {l : List Pr} {k : Nat} {p : Pr} (h : l[k]? = some p) : l.take (k + 1) = l.take k ++ [p] := by
  rw [List.take_add_one, h]; rfl

theorem runs_first (fol : Pr → Pr → Bool) {l : List Pr} {p : Pr} (h : l[0]? = some p) : runsF fol (l.take 1) = [⟨p.code, p.code, p.glyph⟩] := by
  rw [take_snoc h]; rfl

theorem runs_step (fol : Pr → Pr → Bool) {l : List Pr} {k : Nat} {q p : Pr} (hq : l[k]? = some q) (hp : l[k + 1]? = some p) :
    (fol q p = false → runsF fol (l.take (k + 1 + 1)) = runsF fol (l.take (k + 1)) ++ [⟨p.code, p.code, p.glyph⟩]) ∧
    (fol q p = true → ∃ s x, runsF fol (l.take (k + 1)) = s ++ [x] ∧ runsF fol (l.take (k + 1 + 1)) = s ++ [⟨x.a, p.code, x.g⟩]) := by
  have := runsF_snoc fol q p (l.take k)
  rw [take_snoc hp, take_snoc hq, List.append_assoc]
  exact this

theorem runsF_len (fol : Pr → Pr → Bool) : ∀ l : List Pr, (runsF fol l).length ≤ l.length
  | [] => by simp [runsF]
  | [p] => by simp [runsF]
  | p :: q :: r => by
    have ih := runsF_len fol (q :: r)
    obtain ⟨h, t, e, _⟩ := runsF_head fol q r
    cases hf : fol p q with
    | false => rw [runsF_no fol p q r hf]; simp at ih ⊢; omega
    | true => rw [runsF_yes fol p q r h t e hf]; rw [e] at ih; simp at ih ⊢; omega

/-- Codes that rise, behind ah, up to most. -/
def risesF (most : Int) : Int → List Pr → Bool
  | _, [] => true
  | ah, p :: r => decide (ah < p.code ∧ p.code ≤ most) && risesF most p.code r

theorem risesF_cons {most ah : Int} {p : Pr} {r : List Pr} (h : risesF most ah (p :: r) = true) : ah < p.code ∧ p.code ≤ most ∧ risesF most p.code r = true := by
  rw [risesF, Bool.and_eq_true, decide_eq_true_eq] at h
  exact ⟨h.1.1, h.1.2, h.2⟩

theorem risesF_mem {most : Int} : ∀ {l : List Pr} {ah : Int}, risesF most ah l = true → ∀ p ∈ l, ah < p.code ∧ p.code ≤ most
  | [], _, _, p, hp => by simp at hp
  | q :: r, ah, h, p, hp => by
    obtain ⟨h1, h2, h3⟩ := risesF_cons h
    rcases List.mem_cons.1 hp with rfl | hp
    · exact ⟨h1, h2⟩
    · have := risesF_mem h3 p hp; omega

/-- Runs apart, behind ah, up to most. -/
def rnOK (most : Int) : Int → List Rn → Prop
  | _, [] => True
  | ah, x :: r => ah < x.a ∧ x.a ≤ x.b ∧ x.b ≤ most ∧ rnOK most x.b r

theorem runs_ok {fol : Pr → Pr → Bool} (hc : ∀ p q, fol p q = true → q.code = p.code + 1) (most : Int) : ∀ (l : List Pr) (ah : Int), risesF most ah l = true → rnOK most ah (runsF fol l)
  | [], _, _ => trivial
  | [p], ah, h => by
    obtain ⟨h1, h2, _⟩ := risesF_cons h
    exact ⟨h1, Int.le_refl _, h2, trivial⟩
  | p :: q :: r, ah, h => by
    obtain ⟨h1, h2, h3⟩ := risesF_cons h
    have ih := runs_ok hc most (q :: r) p.code h3
    obtain ⟨x, t, e, ha, hg⟩ := runsF_head fol q r
    cases hf : fol p q with
    | false => rw [runsF_no fol p q r hf]; exact ⟨h1, Int.le_refl _, h2, ih⟩
    | true =>
      rw [runsF_yes fol p q r x t e hf]
      rw [e] at ih
      obtain ⟨i1, i2, i3, i4⟩ := ih
      exact ⟨h1, by show p.code ≤ x.b; omega, i3, i4⟩

def PrG (l : List Pr) : Prop := ∀ p ∈ l, 0 ≤ p.glyph ∧ p.glyph ≤ 65535

def folG (p q : Pr) : Bool := decide (q.code = p.code + 1 ∧ q.glyph = p.glyph + 1)
def folS (p q : Pr) : Bool := decide (q.code = p.code + 1 ∧ q.glyph = (p.glyph + 1) % 65536)

theorem folG_code (p q : Pr) (h : folG p q = true) : q.code = p.code + 1 := by simp [folG] at h; exact h.1
theorem folS_code (p q : Pr) (h : folS p q = true) : q.code = p.code + 1 := by simp [folS] at h; exact h.1

/-- The glyphs of a run go no further than ffff. -/
theorem runsG_fit : ∀ (l : List Pr), PrG l → ∀ x ∈ runsF folG l, 0 ≤ x.g ∧ x.g + (x.b - x.a) ≤ 65535
  | [], _ => by simp [runsF]
  | [p], h => by
    intro x hx
    rw [runsF_one] at hx
    simp at hx
    subst hx
    have := h p (by simp)
    simp
    omega
  | p :: q :: r, h => by
    have ih := runsG_fit (q :: r) (fun x hx => h x (by simp at hx ⊢; right; exact hx))
    have hp := h p (by simp)
    obtain ⟨y, t, e, ha, hg⟩ := runsF_head folG q r
    intro x hx
    cases hf : folG p q with
    | false =>
      rw [runsF_no folG p q r hf] at hx
      rcases List.mem_cons.1 hx with rfl | hx
      · simp; omega
      · exact ih x hx
    | true =>
      rw [runsF_yes folG p q r y t e hf] at hx
      rw [e] at ih
      have hy := ih y (by simp)
      simp [folG] at hf
      rcases List.mem_cons.1 hx with rfl | hx
      · simp only; omega
      · exact ih x (by simp [hx])

theorem runsS_g : ∀ (l : List Pr), PrG l → ∀ x ∈ runsF folS l, 0 ≤ x.g ∧ x.g ≤ 65535
  | [], _ => by simp [runsF]
  | [p], h => by
    intro x hx
    rw [runsF_one] at hx
    simp at hx
    subst hx
    exact h p (by simp)
  | p :: q :: r, h => by
    have ih := runsS_g (q :: r) (fun x hx => h x (by simp at hx ⊢; right; exact hx))
    have hp := h p (by simp)
    obtain ⟨y, t, e, ha, hg⟩ := runsF_head folS q r
    intro x hx
    cases hf : folS p q with
    | false =>
      rw [runsF_no folS p q r hf] at hx
      rcases List.mem_cons.1 hx with rfl | hx
      · exact hp
      · exact ih x hx
    | true =>
      rw [runsF_yes folS p q r y t e hf] at hx
      rw [e] at ih
      rcases List.mem_cons.1 hx with rfl | hx
      · exact hp
      · exact ih x (by simp [hx])

/-- The first run whose end isn't below a code. -/
def findR (code : Int) : List Rn → Option Rn
  | [] => none
  | x :: r => if code ≤ x.b then some x else findR code r

def lookR (l : List Rn) (code : Int) : Int := match findR code l with
  | none => 0
  | some x => if x.a ≤ code then (x.g + (code - x.a)) % 65536 else 0

def glyphOf (code : Int) : List Pr → Int
  | [] => 0
  | p :: r => if p.code = code then p.glyph else glyphOf code r

theorem glyphOf_none {most code : Int} : ∀ {l : List Pr} {ah : Int}, risesF most ah l = true → (code ≤ ah ∨ most < code) → glyphOf code l = 0
  | [], _, _, _ => rfl
  | p :: r, ah, h, hc => by
    obtain ⟨h1, h2, h3⟩ := risesF_cons h
    rw [glyphOf, if_neg (by omega)]
    exact glyphOf_none h3 (by omega)

theorem glyphOf_mem {most : Int} : ∀ {l : List Pr} {ah : Int}, risesF most ah l = true → ∀ {k : Nat} {p : Pr}, l[k]? = some p → glyphOf p.code l = p.glyph
  | [], _, _, k, p, hp => by simp at hp
  | q :: r, ah, h, k, p, hp => by
    obtain ⟨h1, h2, h3⟩ := risesF_cons h
    cases k with
    | zero => simp at hp; subst hp; rw [glyphOf, if_pos rfl]
    | succ k =>
      have hp' : r[k]? = some p := by simpa using hp
      have := risesF_mem h3 p (List.mem_of_getElem? hp')
      rw [glyphOf, if_neg (by omega)]
      exact glyphOf_mem h3 hp'

theorem lookR_runs {fol : Pr → Pr → Bool} (hc : ∀ p q, fol p q = true → q.code = p.code + 1 ∧ q.glyph % 65536 = (p.glyph + 1) % 65536) (most code : Int) :
    ∀ (l : List Pr) (ah : Int), PrG l → risesF most ah l = true → lookR (runsF fol l) code = glyphOf code l
  | [], _, _, _ => rfl
  | [p], ah, hg, h => by
    obtain ⟨h1, h2, _⟩ := risesF_cons h
    have hp := hg p (by simp)
    rw [runsF_one]
    simp only [lookR, findR, glyphOf]
    by_cases hcp : code ≤ p.code
    · rw [if_pos hcp]
      by_cases he : p.code = code
      · subst he; simp; omega
      · rw [if_neg he]; simp only; rw [if_neg (by omega)]
    · rw [if_neg hcp, if_neg (by omega)]
  | p :: q :: r, ah, hg, h => by
    obtain ⟨h1, h2, h3⟩ := risesF_cons h
    have hgr : PrG (q :: r) := fun x hx => hg x (by simp at hx ⊢; right; exact hx)
    have hp := hg p (by simp)
    have ih := lookR_runs hc most code (q :: r) p.code hgr h3
    have ok := runs_ok (fun a b hab => (hc a b hab).1) most (q :: r) p.code h3
    obtain ⟨x, t, e, ha, hgx⟩ := runsF_head fol q r
    rw [glyphOf]
    rw [e] at ih ok
    obtain ⟨o1, o2, o3, o4⟩ := ok
    cases hf : fol p q with
    | false =>
      rw [runsF_no fol p q r hf, e]
      by_cases hcp : code ≤ p.code
      · have hz : glyphOf code (q :: r) = 0 := glyphOf_none h3 (.inl hcp)
        rw [hz]
        simp only [lookR, findR]
        rw [if_pos hcp]
        by_cases he : p.code = code
        · subst he; simp; omega
        · rw [if_neg he]; simp only; rw [if_neg (by omega)]
      · rw [if_neg (by omega), ← ih]
        simp only [lookR]
        rw [findR, if_neg hcp]
    | true =>
      obtain ⟨f1, f2⟩ := hc p q hf
      rw [runsF_yes fol p q r x t e hf]
      by_cases hcb : code ≤ x.b
      · simp only [lookR, findR] at ih ⊢
        rw [if_pos hcb] at ih ⊢
        simp only at ih ⊢
        by_cases he : p.code = code
        · subst he
          simp
          omega
        · rw [if_neg he, ← ih]
          by_cases hlt : code < p.code
          · rw [if_neg (by omega), if_neg (by omega)]
          · rw [if_pos (by omega), if_pos (by omega)]
            rw [ha, f1, hgx, Int.add_emod, Int.add_emod q.glyph, f2, ← Int.add_emod, ← Int.add_emod]
            congr 1
            omega
      · rw [if_neg (by omega), ← ih]
        simp only [lookR]
        rw [findR, if_neg hcb, findR, if_neg hcb]

theorem lookG_runs (most code : Int) (l : List Pr) (ah : Int) (hg : PrG l) (h : risesF most ah l = true) : lookR (runsF folG l) code = glyphOf code l :=
  lookR_runs (fun p q hf => by simp [folG] at hf; exact ⟨hf.1, by rw [hf.2]⟩) most code l ah hg h
theorem lookS_runs (most code : Int) (l : List Pr) (ah : Int) (hg : PrG l) (h : risesF most ah l = true) : lookR (runsF folS l) code = glyphOf code l :=
  lookR_runs (fun p q hf => by simp [folS] at hf; exact ⟨hf.1, by rw [hf.2]; omega⟩) most code l ah hg h

end Go.Proofs.YthkaeimpflggjaaDoor
