/- Numbers at places of a list of bytes, and the bytes that they have: plain lists. -/
import Derived.Test.YtlkidnacfljpkaaRdBox
import Derived.Test.YtlkidnacfljpkaaWrites
namespace Go.Proofs.Ytlkidnacfljpkaa
set_option linter.unusedVariables false

theorem win_join (zs : List Int) (i m k : Nat) : (zs.drop i).take m ++ (zs.drop (i + m)).take k = (zs.drop i).take (m + k) := by
  rw [List.take_add, List.drop_drop]

theorem drop2 {zs : List Int} {i : Nat} (h : i + 2 ≤ zs.length) : ∃ x y, zs[i]? = some x ∧ zs[i + 1]? = some y ∧ (zs.drop i).take 2 = [x, y] ∧ n2at zs i = x * 256 + y := by
  refine ⟨zs[i], zs[i + 1], List.getElem?_eq_getElem (by omega), List.getElem?_eq_getElem (by omega), ?_, ?_⟩
  · rw [List.drop_eq_getElem_cons (by omega), List.drop_eq_getElem_cons (by omega)]
    rfl
  · unfold n2at num told
    rw [if_pos (by rw [List.length_drop]; omega), List.drop_eq_getElem_cons (by omega), List.drop_eq_getElem_cons (by omega)]
    show (0 * 256 + _) * 256 + _ = _
    omega

theorem b2_win {zs : List Int} (hB : Bytes zs) {i : Nat} (h : i + 2 ≤ zs.length) : b2 (n2at zs i) = (zs.drop i).take 2 := by
  obtain ⟨x, y, hx, hy, e, en⟩ := drop2 h
  have := hB x (List.mem_of_getElem? hx)
  have := hB y (List.mem_of_getElem? hy)
  rw [e, en]
  unfold b2
  rw [show (x * 256 + y) / 256 % 256 = x by omega, show (x * 256 + y) % 256 = y by omega]

theorem n2at_lt {zs : List Int} (hB : Bytes zs) (i : Nat) : 0 ≤ n2at zs i ∧ n2at zs i < 65536 := by
  have := num_lt (drop_bytes hB i) 2 2 (by omega)
  simp only [Int.pow_succ, Int.pow_zero, Int.one_mul, Int.reduceMul] at this
  exact this
theorem n4at_lt {zs : List Int} (hB : Bytes zs) (i : Nat) : 0 ≤ n4at zs i ∧ n4at zs i < 4294967296 := by
  have := num_lt (drop_bytes hB i) 4 4 (by omega)
  simp only [Int.pow_succ, Int.pow_zero, Int.one_mul, Int.reduceMul] at this
  exact this

theorem n4at_two {zs : List Int} {i : Nat} (h : i + 4 ≤ zs.length) : n4at zs i = n2at zs i * 65536 + n2at zs (i + 2) := by
  obtain ⟨x, y, hx, hy, e, en⟩ := drop2 (zs := zs) (i := i) (by omega)
  obtain ⟨x', y', hx', hy', e', en'⟩ := drop2 (zs := zs) (i := i + 2) (by omega)
  rw [en, en']
  unfold n4at num told
  rw [if_pos (by rw [List.length_drop]; omega), show 4 = 2 + 2 from rfl, ← win_join, e, e']
  simp only [be, List.cons_append, List.nil_append, List.foldl_cons, List.foldl_nil]
  omega

theorem b4_win {zs : List Int} (hB : Bytes zs) {i : Nat} (h : i + 4 ≤ zs.length) : b4 (n4at zs i) = (zs.drop i).take 4 := by
  have h1 := n2at_lt hB i
  have h2 := n2at_lt hB (i + 2)
  rw [n4at_two h]
  unfold b4
  rw [show (n2at zs i * 65536 + n2at zs (i + 2)) / 65536 = n2at zs i by omega, show (n2at zs i * 65536 + n2at zs (i + 2)) % 65536 = n2at zs (i + 2) by omega, b2_win hB (by omega), b2_win hB (by omega), win_join]

theorem n2at_of {zs : List Int} {i : Nat} {x : Int} (h : (zs.drop i).take 2 = b2 x) (h0 : 0 ≤ x) (h1 : x < 65536) : n2at zs i = x := by
  have hl := congrArg List.length h
  rw [List.length_take] at hl
  unfold n2at num told
  rw [if_pos (by rw [show (b2 x).length = 2 from rfl] at hl; omega), h]
  exact be_b2 x h0 h1
theorem n4at_of {zs : List Int} {i : Nat} {x : Int} (h : (zs.drop i).take 4 = b4 x) (h0 : 0 ≤ x) (h1 : x < 4294967296) : n4at zs i = x := by
  have hl := congrArg List.length h
  rw [List.length_take] at hl
  unfold n4at num told
  rw [if_pos (by rw [show (b4 x).length = 4 from rfl] at hl; omega), h]
  exact be_b4 x h0 h1

theorem n2v_at (zs : List Int) (i : Nat) : n2v zs i = n2at zs i := by
  by_cases h : i + 2 ≤ zs.length
  · obtain ⟨x, y, hx, hy, e, en⟩ := drop2 h
    unfold n2v
    rw [hx, hy, en]
    show 256 * x + y = _
    omega
  · unfold n2v n2at num told
    rw [if_neg (by rw [List.length_drop]; omega), List.getElem?_eq_none (show zs.length ≤ i + 1 by omega)]
    cases zs[i]? <;> rfl
theorem n4v_at (zs : List Int) (i : Nat) : n4v zs i = n4at zs i := by
  unfold n4v
  by_cases h : i + 4 ≤ zs.length
  · rw [if_pos h, n2v_at, n2v_at, n4at_two h]
    omega
  · rw [if_neg h]
    unfold n4at num told
    rw [if_neg (by rw [List.length_drop]; omega)]
    rfl

end Go.Proofs.Ytlkidnacfljpkaa
