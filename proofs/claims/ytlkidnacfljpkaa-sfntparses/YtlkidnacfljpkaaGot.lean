/- Slices of bytes that were gathered one by one, to be joined. -/
import Derived.Test.YtlkidnacfljpkaaJoinN
import Derived.Test.YtlkidnacfljpkaaCells
namespace Go.Proofs.Ytlkidnacfljpkaa
open Go.RowKit
set_option linter.unusedVariables false

/-- All of them read as they were told. -/
def Got (w : World) (l : List BsV) : Prop := ∀ p ∈ l, p.ok w

section
variable {w w' : World} {l : List BsV}
theorem Got.nil (w : World) : Got w [] := fun p hp => by cases hp
theorem Got.below (h : Got w l) (hb : Below w.heap.size w w') : Got w' l := fun p hp => Row.below (h p hp) hb
theorem Got.drew (h : Got w l) : Got w.drew l := h
theorem Got.add {B : Nat} {A : Option Addr} {n c : Nat} {ys : List Int} (h : Got w l) (hb : Below w.heap.size w w') (ho : OwnB w' B A n c ys) : Got w' (l ++ [⟨A, n, c, ys⟩]) := fun p hp => by
  rcases List.mem_append.1 hp with hp | hp
  · exact Row.below (h p hp) hb
  · simp only [List.mem_cons, List.not_mem_nil, or_false] at hp
    subst hp
    exact ho.row
theorem Got.put {A : Option Addr} {n c : Nat} {ys : List Int} (h : Got w l) (hr : Row w A n (cellsOf .u8 ys)) : Got w (l ++ [⟨A, n, c, ys⟩]) := fun p hp => by
  rcases List.mem_append.1 hp with hp | hp
  · exact h p hp
  · simp only [List.mem_cons, List.not_mem_nil, or_false] at hp
    subst hp
    exact hr
end

end Go.Proofs.Ytlkidnacfljpkaa
