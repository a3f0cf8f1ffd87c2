/- The document's table of groups, as a contract over this seat's translation. -/
import Derived.Test.YthkaeimpflggjaaGrpT
import Derived.Test.YthkaeimpflggjaaGot
namespace Go.Proofs.Ythkaeimpflggjaa
open Go.RowKit
set_option linter.unusedVariables false

theorem atQ {w : World} {A : Option Addr} {n : Nat} {l : List Pr} {j : Nat} {p : Pr} (h : RowS encQ 2 w A n l) (hj : l[j]? = some p) :
    ∃ g off, A = some ⟨g, off, none⟩ ∧ g < w.heap.size ∧ w.cell? ⟨g, off + j * 2, none⟩ = some (.int .i64 p.code) ∧ w.cell? ⟨g, off + j * 2 + 1, none⟩ = some (.int .i64 p.glyph) := by
  obtain ⟨g, off, e, hg, hc⟩ := h.at encQ_len (by omega) hj
  exact ⟨g, off, e, hg, hc 0 _ rfl, hc 1 _ rfl⟩

/-- Nothing goes on from what stands ahead of place i. -/
def bnd (fol : Pr → Pr → Bool) (l : List Pr) (i : Nat) : Prop := ∀ j q p, i = j + 1 → l[j]? = some q → l[j + 1]? = some p → fol q p = false

theorem runs_begin {fol : Pr → Pr → Bool} {l : List Pr} {i : Nat} {p : Pr} (hb : bnd fol l i) (h : l[i]? = some p) : runsF fol (l.take (i + 1)) = runsF fol (l.take i) ++ [⟨p.code, p.code, p.glyph⟩] := by
  cases i with
  | zero => rw [runs_first fol h]; rfl
  | succ j =>
    obtain ⟨q, hq⟩ := getP (l := l) (j := j) (by have := (List.getElem?_eq_some_iff.1 h).1; omega)
    exact (runs_step fol hq h).1 (hb j q p rfl hq h)

theorem runs_go {fol : Pr → Pr → Bool} {l : List Pr} {j : Nat} {q p : Pr} {R : List Rn} {a b g : Int} (hq : l[j]? = some q) (hp : l[j + 1]? = some p) (hf : fol q p = true) (h : runsF fol (l.take (j + 1)) = R ++ [⟨a, b, g⟩]) : runsF fol (l.take (j + 1 + 1)) = R ++ [⟨a, p.code, g⟩] := by
  obtain ⟨s, x, e1, e2⟩ := (runs_step fol hq hp).2 hf
  rw [h] at e1
  obtain ⟨rfl, hx⟩ := List.append_inj' e1 rfl
  obtain ⟨rfl, _⟩ := List.cons.inj hx
  exact e2

end Go.Proofs.Ythkaeimpflggjaa
