/- Two results, one of them a struct in memory; a Reader beside another block. -/
import Derived.Test.YtlcnonhebppeiaaRdQ
import Derived.Test.YtlcnonhebppeiaaCells
namespace Go.Proofs.Ytlcnonhebppeiaa
open Go.RowKit
set_option linter.unusedVariables false

/-- Two results: a struct in memory, and a plain value. -/
theorem results_two2 {P : Program} {fn : Func} {p q : Tmp} {ty : TypeId} (h : fn.results = #[.cell p ty, .tmp q]) (tmps : Array Value) (w : World) (g : Nat) (t : TypeId) (cs : Array Value) (fr : Nat × Nat) (d : TypeDesc) {v : Value}
    (hp : tmps.getD p undef = .pointer (some ⟨g, 0, none⟩)) (hq : tmps.getD q undef = v) (hg : w.heap[g]? = some (.cells cs t fr))
    (hu : P.underlying ty = some d) (hd : (match d with | .struct _ | .array _ _ => true | _ => false) = true) (hi : (P.info? ty).map (·.size) = some cs.size) :
    (results fn tmps).run P w = .ok (.tuple #[.agg cs, v]) w := by
  have hp' : tmps[p]?.getD undef = .pointer (some ⟨g, 0, none⟩) := by simpa using hp
  have hq' : tmps[q]?.getD undef = v := by simpa using hq
  simp [results, h, hp', hq', asAddr, run_loadVar_row w g t ty cs fr d hg hu hd hi]

theorem rdq_other {w : World} {B b i k t : Nat} {zs : List Int} {cs : Array Value} (h : RdQ w B b zs i) (hk : w.heap[k]? = some (.cells cs t (0, 0))) (h8 : t ≠ 5) (hb : k ≠ b) (j : Nat) (v : Value) : RdQ (w.setCell ⟨k, j, none⟩ v) B b zs i :=
  h.keep (by simp [World.setCell]) (fun g hg _ ho => Below.heap_setCell w _ v g (by
    intro e
    have e' : g = k := e
    subst e'
    rcases ho with e | ⟨cur, hc⟩
    · exact hb e
    · rw [hk] at hc
      simp at hc
      exact h8 hc.2))

end Go.Proofs.Ytlcnonhebppeiaa
