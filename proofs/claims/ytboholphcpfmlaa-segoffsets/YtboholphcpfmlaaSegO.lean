/- A table whose first segment's glyphs stand in it, as the law SegOffsets lays it: plain lists. -/
import Derived.Test.YtboholphcpfmlaaSegY
namespace Go.Proofs.Ytboholphcpfmlaa
set_option linter.unusedVariables false
set_option linter.unusedSectionVars false

def offHd (n s e d : Int) : List Int := b2 4 ++ (b2 (32 + 2 * n) ++ (b2 7 ++ (b2 4 ++ (srB 2 ++ (b2 e ++ (b2 65535 ++ (b2 0 ++ (b2 s ++ (b2 65535 ++ (b2 d ++ (b2 1 ++ (b2 4 ++ b2 0))))))))))))
def offTab (gs : List Int) (s d : Int) : List Int := offHd gs.length s (s + gs.length - 1) d ++ gs.flatMap b2

theorem flat_b2_len : ∀ gs : List Int, (gs.flatMap b2).length = 2 * gs.length
  | [] => rfl
  | x :: r => by rw [List.flatMap_cons, List.length_append, flat_b2_len r]; simp [b2]; omega
theorem offTab_len (gs : List Int) (s d : Int) : (offTab gs s d).length = 32 + 2 * gs.length := by unfold offTab; rw [List.length_append, flat_b2_len]; rfl

theorem off_num {gs : List Int} {s d : Int} {j : Nat} {x : Int} (h : gs[j]? = some x) (h0 : 0 ≤ x) (h1 : x < 65536) : n2at (offTab gs s d) (32 + 2 * j) = x := by
  have hc : colB Sg.a (gs.map fun x => (⟨x, 0, 0, none, 0⟩ : Sg)) = gs.flatMap b2 := by unfold colB; rw [List.flatMap_map]
  exact n2at_col (val := Sg.a) (zs := offTab gs s d) (pre := offHd gs.length s (s + gs.length - 1) d) (post := []) (l := gs.map fun x => (⟨x, 0, 0, none, 0⟩ : Sg)) (x := ⟨x, 0, 0, none, 0⟩) (by rw [hc, List.append_nil]; rfl) rfl (by rw [List.getElem?_map, h]; rfl) h0 h1

section
variable {gs : List Int} {s d : Int} (n0 : 1 ≤ gs.length) (n1 : gs.length ≤ 20) (s0 : 0 ≤ s) (s1 : s < 60000) (d0 : 0 ≤ d) (d1 : d < 65536)
include n0 n1 s0 s1 d0 d1

theorem off_sq : sqAt (offTab gs s d) 2 0 = ⟨s, s + gs.length - 1, d, 4⟩ ∧ sqAt (offTab gs s d) 2 1 = ⟨65535, 65535, 1, 0⟩ := by
  have a1 : n2at (offTab gs s d) 20 = s := n2at_of (by rfl) (by omega) (by omega)
  have a2 : n2at (offTab gs s d) 14 = s + gs.length - 1 := n2at_of (by rfl) (by omega) (by omega)
  have a3 : n2at (offTab gs s d) 24 = d := n2at_of (by rfl) (by omega) (by omega)
  have a4 : n2at (offTab gs s d) 28 = 4 := n2at_of (by rfl) (by omega) (by omega)
  have b1 : n2at (offTab gs s d) 22 = 65535 := n2at_of (by rfl) (by omega) (by omega)
  have b2_ : n2at (offTab gs s d) 16 = 65535 := n2at_of (by rfl) (by omega) (by omega)
  have b3 : n2at (offTab gs s d) 26 = 1 := n2at_of (by rfl) (by omega) (by omega)
  have b4_ : n2at (offTab gs s d) 30 = 0 := n2at_of (by rfl) (by omega) (by omega)
  constructor
  · show (⟨n2at (offTab gs s d) 20, n2at (offTab gs s d) 14, n2at (offTab gs s d) 24, n2at (offTab gs s d) 28⟩ : Sq) = _
    rw [a1, a2, a3, a4]
  · show (⟨n2at (offTab gs s d) 22, n2at (offTab gs s d) 16, n2at (offTab gs s d) 26, n2at (offTab gs s d) 30⟩ : Sq) = _
    rw [b1, b2_, b3, b4_]

theorem off_right : sRight (offTab gs s d) = true ∧ sN (offTab gs s d) = 2 := by
  obtain ⟨q0, q1⟩ := off_sq n0 n1 s0 s1 d0 d1
  have f0 : n2at (offTab gs s d) 0 = 4 := n2at_of (by rfl) (by omega) (by omega)
  have f2 : n2at (offTab gs s d) 2 = 32 + 2 * (gs.length : Int) := n2at_of (by rfl) (by omega) (by omega)
  have f6 : n2at (offTab gs s d) 6 = 4 := n2at_of (by rfl) (by omega) (by omega)
  have hb := srL_bound (n := 2) (by omega) (by omega)
  have f8 : n2at (offTab gs s d) 8 = 2 * ((2 ^ expoS 2 : Nat) : Int) := by have := hb _ (show _ ∈ srL 2 from List.mem_cons_self); exact n2at_of (by rfl) this.1 this.2
  have f10 : n2at (offTab gs s d) 10 = (expoS 2 : Int) := by have := hb _ (show (expoS 2 : Int) ∈ srL 2 from by simp [srL]); exact n2at_of (by rfl) this.1 this.2
  have f12 : n2at (offTab gs s d) 12 = 2 * ((2 : Nat) : Int) - 2 * ((2 ^ expoS 2 : Nat) : Int) := by have := hb _ (show (2 * ((2 : Nat) : Int) - 2 * ((2 ^ expoS 2 : Nat) : Int)) ∈ srL 2 from by simp [srL]); exact n2at_of (by rfl) this.1 this.2
  have f14 : n2at (offTab gs s d) 14 = s + gs.length - 1 := congrArg Sq.b q0
  have f16 : n2at (offTab gs s d) 16 = 65535 := n2at_of (by rfl) (by omega) (by omega)
  have f18 : n2at (offTab gs s d) 18 = 0 := n2at_of (by rfl) (by omega) (by omega)
  have hN : sN (offTab gs s d) = 2 := by unfold sN; rw [f6]; rfl
  refine ⟨?_, hN⟩
  have k0 : sOkAt (offTab gs s d) 2 0 = true := by
    unfold sOkAt sOff sLeast
    rw [q0, f2]
    simp
    omega
  have k1 : sOkAt (offTab gs s d) 2 1 = true := by
    unfold sOkAt sOff sLeast
    rw [q1, if_neg (by omega), show 12 + 2 * 1 = 14 by omega, f14]
    simp
    omega
  have hk : sOkK (offTab gs s d) 2 2 = true := by
    rw [sOkK_succ, sOkK_succ, k0, k1]
    rfl
  have he : sEnd (offTab gs s d) 2 = true := by
    show (decide (n2at (offTab gs s d) 16 = 65535) && decide (n2at (offTab gs s d) 18 = 0)) = true
    rw [f16, f18]
    rfl
  have hF : sFront (offTab gs s d) = true := by
    unfold sFront
    rw [f0, f2, offTab_len]
    simp
    omega
  have hC : sCnt0 (offTab gs s d) = true := by
    unfold sCnt0
    rw [f6, f2]
    simp
    omega
  have hT : sTold (offTab gs s d) = true := by
    unfold sTold
    rw [hN, f8, f10, f12]
    exact decide_eq_true rfl
  unfold sRight sCnt
  rw [hF, hC, hT, hN, hk, he]
  rfl

theorem off_look {j : Nat} {x : Int} (hj : gs[j]? = some x) (x0 : 0 ≤ x) (x1 : x < 65536) : lookS (offTab gs s d) 2 (s + j) 0 2 = if x = 0 then 0 else (x + d) % 65536 := by
  obtain ⟨q0, q1⟩ := off_sq n0 n1 s0 s1 d0 d1
  have hl := (List.getElem?_eq_some_iff.1 hj).1
  have f14 : n2at (offTab gs s d) 14 = s + gs.length - 1 := congrArg Sq.b q0
  have hx := off_num (s := s) (d := d) hj x0 x1
  rw [lookS, show 14 + 2 * 0 = 14 by omega, f14, if_pos (by omega)]
  unfold valS
  rw [q0]
  simp only
  rw [if_pos (by omega), if_neg (by omega)]
  rw [show 16 + 6 * 2 + 2 * 0 + (4 : Int).toNat + 2 * (s + (j : Int) - s).toNat = 32 + 2 * j by omega, hx]

theorem off_other {code : Int} (c0 : 0 ≤ code) (c1 : code ≤ 65535) (h : code < s ∨ s + gs.length - 1 < code) : lookS (offTab gs s d) 2 code 0 2 = 0 := by
  obtain ⟨q0, q1⟩ := off_sq n0 n1 s0 s1 d0 d1
  have f14 : n2at (offTab gs s d) 14 = s + gs.length - 1 := congrArg Sq.b q0
  have f16 : n2at (offTab gs s d) 16 = 65535 := congrArg Sq.b q1
  rw [lookS, show 14 + 2 * 0 = 14 by omega, f14]
  by_cases hc : code ≤ s + gs.length - 1
  · rw [if_pos hc]
    unfold valS
    rw [q0]
    simp only
    rw [if_neg (by omega)]
  · rw [if_neg hc, lookS, show 14 + 2 * (0 + 1) = 16 by omega, f16, if_pos (by omega)]
    unfold valS
    rw [show 0 + 1 = 1 by omega, q1]
    simp only
    by_cases h5 : 65535 ≤ code
    · rw [if_pos h5, if_pos trivial]
      omega
    · rw [if_neg h5]

theorem off_bytes : Bytes (offTab gs s d) := by
  have hf : ∀ l : List Int, Bytes (l.flatMap b2) := fun l y hy => by
    obtain ⟨x, _, hx⟩ := List.mem_flatMap.1 hy
    exact b2_bytes _ y hx
  unfold offTab
  refine bytes_append ?_ (hf gs)
  unfold offHd srB
  intro y hy
  simp only [List.mem_append] at hy
  have hb := fun x => b2_bytes x y
  rcases hy with h | h | h | h | (h | h | h) | h | h | h | h | h | h | h | h | h <;> exact hb _ h

end

end Go.Proofs.Ytboholphcpfmlaa
