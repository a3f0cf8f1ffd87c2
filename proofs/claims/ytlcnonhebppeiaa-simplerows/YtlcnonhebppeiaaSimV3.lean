/- simple: what an outline writes is bytes. -/
import Derived.Test.YtlcnonhebppeiaaSimV
namespace Go.Proofs.Ytlcnonhebppeiaa
open Go.RowKit
set_option linter.unusedVariables false

theorem Bytes.app {a b : List Int} (ha : Bytes a) (hb : Bytes b) : Bytes (a ++ b) := by
  intro x hx
  rcases List.mem_append.1 hx with h | h
  · exact ha x h
  · exact hb x h
theorem bytes_flatMap {α : Type} {f : α → List Int} (l : List α) (h : ∀ a ∈ l, Bytes (f a)) : Bytes (l.flatMap f) := by
  intro x hx
  obtain ⟨a, ha, hxa⟩ := List.mem_flatMap.1 hx
  exact h a ha x hxa
theorem cb_bytes (d : Int) : Bytes (cb d) := by
  unfold cb
  split
  · intro x hx; cases hx
  · split
    · intro x hx; simp only [List.mem_singleton] at hx; subst hx; omega
    · exact b2_bytes _
theorem cbs_bytes (l : List Int) : Bytes (cbs l) := bytes_flatMap l fun d _ => cb_bytes d
theorem rleF_bytes : ∀ (m : Nat) (l : List Int), (∀ f ∈ l, 0 ≤ f ∧ f < 64) → Bytes (rleF m l)
  | 0, _, _ => by intro x hx; cases hx
  | _ + 1, [], _ => by intro x hx; cases hx
  | m + 1, f :: r, h => by
    unfold rleF
    refine Bytes.app ?_ (rleF_bytes m _ fun g hg => h g (List.mem_of_mem_drop hg))
    have h1 := rowOf_le (f :: r)
    have h2 := rowOf_pos (l := f :: r) (by simp)
    have h3 := h f (by simp)
    unfold rleHead
    split
    · intro x hx; simp at hx; omega
    · intro x hx; simp at hx; omega
theorem oB_bytes (g : Gl) (h : ∀ x ∈ g.pr, 0 ≤ x ∧ x ≤ 255) : Bytes (oB g) := by
  unfold oB oFront
  refine Bytes.app (Bytes.app (Bytes.app (Bytes.app (Bytes.app (Bytes.app (Bytes.app (b2_bytes _) ?_) ?_) (b2_bytes _)) h) ?_) (cbs_bytes _)) (cbs_bytes _)
  · exact bytes_flatMap _ fun a _ => b2_bytes _
  · exact bytes_flatMap _ fun a _ => b2_bytes _
  · exact rleF_bytes _ _ fun f hf => flagsAll_lt (fls_in _ f hf)
end Go.Proofs.Ytlcnonhebppeiaa
