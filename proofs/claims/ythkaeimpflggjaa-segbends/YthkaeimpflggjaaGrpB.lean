/- group.runs, as a contract over this seat's translation. -/
import Derived.Test.YthkaeimpflggjaaGrpQ
namespace Go.Proofs.Ythkaeimpflggjaa
open Go.RowKit
set_option linter.unusedVariables false

/-- What is asked of pairs. -/
def OkP (l : List Pr) : Prop := ∀ p ∈ l, 0 ≤ p.code ∧ p.code ≤ 2000000000 ∧ 0 ≤ p.glyph ∧ p.glyph ≤ 65535

theorem atP {w : World} {A : Option Addr} {n : Nat} {l : List Pr} {j : Nat} {p : Pr} (h : RowS encP 2 w A n l) (hj : l[j]? = some p) :
    ∃ g off, A = some ⟨g, off, none⟩ ∧ g < w.heap.size ∧ w.cell? ⟨g, off + j * 2, none⟩ = some (.int .i32 p.code) ∧ w.cell? ⟨g, off + j * 2 + 1, none⟩ = some (.int .u16 p.glyph) := by
  obtain ⟨g, off, e, hg, hc⟩ := h.at encP_len (by omega) hj
  exact ⟨g, off, e, hg, hc 0 _ rfl, hc 1 _ rfl⟩

end Go.Proofs.Ythkaeimpflggjaa
