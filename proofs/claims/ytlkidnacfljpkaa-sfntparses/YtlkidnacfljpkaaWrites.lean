/- The law WordWrites. -/
import Derived.Test.YtlkidnacfljpkaaWriter
namespace Go.Proofs.Ytlkidnacfljpkaa
open Go.RowKit
set_option linter.unusedVariables false

/-- Asked for as many bytes as a known beginning has. -/
theorem ask_front (l r : List Int) (a : Int) (bad : Bool) (m : Nat) (hm : l.length = m) : told (l ++ r) m = l ∧ rest (l ++ r) m = r ∧ gone (l ++ r) a m = a + m ∧ badn (l ++ r) bad m = bad := by
  subst hm
  have h : l.length ≤ (l ++ r).length := by simp
  refine ⟨?_, ?_, ?_, ?_⟩ <;> simp [told, rest, gone, badn]

theorem be_b2 (x : Int) (h0 : 0 ≤ x) (h1 : x < 65536) : be (b2 x) = x := by
  simp only [be, b2, List.foldl_cons, List.foldl_nil]
  omega
theorem be_b4 (x : Int) (h0 : 0 ≤ x) (h1 : x < 4294967296) : be (b4 x) = x := by
  simp only [be, b4, b2, List.cons_append, List.nil_append, List.foldl_cons, List.foldl_nil]
  omega
theorem b2_bytes (x : Int) : Bytes (b2 x) := by intro y hy; simp [b2] at hy; omega
theorem b4_bytes (x : Int) : Bytes (b4 x) := by intro y hy; simp [b4, b2] at hy; omega
theorem bytes_append {a b : List Int} (ha : Bytes a) (hb : Bytes b) : Bytes (a ++ b) := fun x hx => (List.mem_append.1 hx).elim (ha x) (hb x)

end Go.Proofs.Ytlkidnacfljpkaa
