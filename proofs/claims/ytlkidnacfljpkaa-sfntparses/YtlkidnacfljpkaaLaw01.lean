/- The laws of layer 1: each returns true and turns nothing that was there. -/
import Derived.Test.YtlkidnacfljpkaaWord3
namespace Go.Proofs.Ytlkidnacfljpkaa
open Go.RowKit
set_option linter.unusedVariables false

/-- What a law leaves. -/
abbrev True_ (w : World) (e : Ending) (w' : World) : Prop := e = .returned (.bool true) ∧ Below w.heap.size w w'

/-- Numbers written out in a block of their own. -/
theorem row_lit (w : World) (k : IntKind) (t : TypeId) (zs : List Int) (n : Nat) (hn : zs.length = n) : Row (w.alloc (.cells (cellsOf k zs).toArray t)) (some ⟨w.heap.size, 0, none⟩) n (cellsOf k zs) :=
  ⟨by rw [cellsOf_length]; exact hn, fun _ => ⟨w.heap.size, 0, rfl, by simp, fun j u hu => by
    rw [Nat.zero_add, cell_of_row _ _ j _ t (0, 0) (heap_alloc_new w _)]
    simpa using hu⟩⟩

theorem drop_cons {zs : List Int} {k : Nat} {x : Int} (h : zs[k]? = some x) : zs.drop k = x :: zs.drop (k + 1) := by
  obtain ⟨hk, rfl⟩ := List.getElem?_eq_some_iff.1 h
  exact List.drop_eq_getElem_cons hk

theorem ask_one {zs : List Int} {k : Nat} {x : Int} (h : zs[k]? = some x) : num (zs.drop k) 1 = x ∧ rest (zs.drop k) 1 = zs.drop (k + 1) ∧ gone (zs.drop k) k 1 = ((k + 1 : Nat) : Int) ∧ badn (zs.drop k) false 1 = false := by
  rw [drop_cons h]
  refine ⟨?_, ?_, ?_, ?_⟩ <;> simp [num, told, rest, gone, badn, be]

theorem cut_bytes {zs : List Int} (h : Bytes zs) (m : Nat) : Bytes (zs.take m) := fun x hx => h x (List.mem_of_mem_take hx)

end Go.Proofs.Ytlkidnacfljpkaa
