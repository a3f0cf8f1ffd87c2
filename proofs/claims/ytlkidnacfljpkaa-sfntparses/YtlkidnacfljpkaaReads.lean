/- The law WordReads. -/
import Derived.Test.YtlkidnacfljpkaaWrites
namespace Go.Proofs.Ytlkidnacfljpkaa
open Go.RowKit
set_option linter.unusedVariables false

theorem n2_zero (A : Option Addr) (n c : Nat) (zs : List Int) (w : World) (hr : Row w A n (cellsOf .u8 zs)) (hB : Bytes zs) (hn : n ≤ 140737488351232) :
    Calls Try.prog 46 #[.slice A n c, .int .i64 0] w (Quiet w (.tuple #[.int .i64 (n2v zs 0), .bool (n2b zs 0)])) := n2_any A n c zs 0 w hr hB hn (by omega)
theorem n4_zero (A : Option Addr) (n c : Nat) (zs : List Int) (w : World) (hr : Row w A n (cellsOf .u8 zs)) (hB : Bytes zs) (hn : n ≤ 140737488351232) :
    Calls Try.prog 44 #[.slice A n c, .int .i64 0] w (Quiet w (.tuple #[.int .u32 (n4v zs 0), .bool (n4b zs 0)])) := n4_any A n c zs 0 w hr hB hn (by omega)

/-- What a Reader of ps has left. -/
def stL (ps : List Int) (a : Nat) (bad : Bool) : List Int := if bad then [] else ps.drop a

theorem st_ok (ps : List Int) (a m : Nat) (h : a + m ≤ ps.length) : told (stL ps a false) m = part ps a (a + m) ∧ rest (stL ps a false) m = stL ps (a + m) false ∧ gone (stL ps a false) a m = ((a + m : Nat) : Int) ∧ badn (stL ps a false) false m = false := by
  have h1 : m ≤ (ps.drop a).length := by rw [List.length_drop]; omega
  simp only [stL, Bool.false_eq_true, if_false, told, rest, gone, badn, if_pos h1]
  refine ⟨?_, ?_, by omega, trivial⟩
  · unfold part
    rw [List.drop_take]
    congr 1
    omega
  · rw [List.drop_drop]

theorem st_no (ps : List Int) (a m : Nat) (bad : Bool) (ha : a ≤ ps.length) (h : bad = true ∨ ps.length < a + m) : told (stL ps a bad) m = [] ∧ rest (stL ps a bad) m = stL ps a true ∧ gone (stL ps a bad) a m = (a : Int) ∧ badn (stL ps a bad) bad m = true := by
  cases bad with
  | true =>
    simp only [stL, if_true, told, rest, gone, badn]
    by_cases hm : m ≤ ([] : List Int).length
    · have : m = 0 := by simpa using hm
      subst this
      simp
    · simp only [if_neg hm]; simp
  | false =>
    have h1 : ¬ m ≤ (ps.drop a).length := by rw [List.length_drop]; rcases h with h | h; cases h; omega
    simp only [stL, Bool.false_eq_true, if_false, told, rest, gone, badn, if_neg h1]; simp

theorem st_bytes {ps : List Int} (h : Bytes ps) (a : Nat) (bad : Bool) : Bytes (stL ps a bad) := by
  unfold stL
  split
  · intro x hx; cases hx
  · exact fun x hx => h x (List.mem_of_mem_drop hx)
theorem st_len (ps : List Int) (a : Nat) (bad : Bool) : (stL ps a bad).length ≤ ps.length := by unfold stL; split <;> simp

theorem part_bytes {ps : List Int} (h : Bytes ps) (a b : Nat) : Bytes (part ps a b) := fun x hx => h x (List.mem_of_mem_take (List.mem_of_mem_drop hx))
theorem part_len (ps : List Int) (a m : Nat) (h : a + m ≤ ps.length) : (part ps a (a + m)).length = m := by unfold part; rw [List.length_drop, List.length_take]; omega

theorem n2_be (q : List Int) (h : q.length = 2) : n2v q 0 = be q := by
  match q, h with
  | [x, y], _ => simp [n2v, be]; omega
theorem n4_be (q : List Int) (h : q.length = 4) : n4v q 0 = be q := by
  match q, h with
  | [x, y, z, t], _ => simp [n4v, n2v, be]; omega

/-- What holds at a round's head. -/
def ReadsRel (w : World) (r n1 : Nat) (A1 : Option Addr) (ps : List Int) (a : Nat) (bad : Bool) (wr : World) : Prop :=
  a ≤ n1 ∧ Rd wr w.heap.size r (stL ps a bad) a bad ∧ Row wr A1 n1 (cellsOf .u8 ps) ∧ Below w.heap.size w wr

end Go.Proofs.Ytlkidnacfljpkaa
