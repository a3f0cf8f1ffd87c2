/- Pairs that rise, and what a code finds among the first k: plain lists. -/
import Derived.Test.YthkaeimpflggjaaDoorRunM
namespace Go.Proofs.YthkaeimpflggjaaDoor
set_option linter.unusedVariables false

theorem risesF_take {most : Int} : ∀ {l : List Pr} {ah : Int} (k : Nat), risesF most ah l = true → risesF most ah (l.take k) = true
  | [], _, k, _ => by simp [risesF]
  | p :: r, ah, 0, h => rfl
  | p :: r, ah, k + 1, h => by
    obtain ⟨h1, h2, h3⟩ := risesF_cons h
    rw [List.take_succ_cons, risesF, risesF_take k h3, Bool.and_true, decide_eq_true_eq]
    exact ⟨h1, h2⟩
theorem glyphOf_other {code : Int} {y : Pr} (h : y.code ≠ code) : ∀ l : List Pr, glyphOf code (l ++ [y]) = glyphOf code l
  | [] => by
    show (if y.code = code then y.glyph else glyphOf code []) = glyphOf code []
    rw [if_neg h]
  | p :: r => by rw [List.cons_append, glyphOf, glyphOf, glyphOf_other h r]
theorem glyphOf_this {most code : Int} {l : List Pr} {k : Nat} {y : Pr} (hr : risesF most (-1) l = true) (hy : l[k]? = some y) (h : y.code = code) : glyphOf code (l.take (k + 1)) = y.glyph := by
  subst h
  exact glyphOf_mem (risesF_take (k + 1) hr) (k := k) (by rw [List.getElem?_take]; simp [hy])
theorem glyphOf_lt {code : Int} : ∀ {l : List Pr}, PrG l → 0 ≤ glyphOf code l ∧ glyphOf code l ≤ 65535
  | [], _ => by simp [glyphOf]
  | p :: r, h => by
    rw [glyphOf]
    split
    · exact h p (by simp)
    · exact glyphOf_lt (fun x hx => h x (by simp [hx]))


end Go.Proofs.YthkaeimpflggjaaDoor
