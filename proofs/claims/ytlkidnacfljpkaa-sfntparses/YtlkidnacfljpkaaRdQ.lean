/- A Reader that was asked for i bytes of zs altogether, whether they were there or not. -/
import Derived.Test.YtlkidnacfljpkaaRdBox
namespace Go.Proofs.Ytlkidnacfljpkaa
open Go.RowKit
set_option linter.unusedVariables false

def RdQ (w : World) (B b : Nat) (zs : List Int) (i : Nat) : Prop :=
  (i ≤ zs.length ∧ Rd w B b (zs.drop i) i false) ∨ (zs.length < i ∧ ∃ a : Int, 0 ≤ a ∧ a ≤ zs.length ∧ Rd w B b [] a true)

section
variable {w w' : World} {B b : Nat} {zs : List Int} {i : Nat}

theorem RdQ.new (h : Rd w B b zs 0 false) : RdQ w B b zs 0 := .inl ⟨Nat.zero_le _, h⟩
theorem RdQ.below (h : RdQ w B b zs i) (hb : Below w.heap.size w w') : RdQ w' B b zs i := by
  rcases h with ⟨hi, h⟩ | ⟨hi, a, a0, a1, h⟩
  · exact .inl ⟨hi, h.below hb⟩
  · exact .inr ⟨hi, a, a0, a1, h.below hb⟩
theorem RdQ.keep (h : RdQ w B b zs i) (hs : w.heap.size ≤ w'.heap.size) (hk : ∀ g, g < w.heap.size → B ≤ g → (g = b ∨ ∃ cur, w.heap[g]? = some (.cells cur 5 (0, 0))) → w'.heap[g]? = w.heap[g]?) : RdQ w' B b zs i := by
  rcases h with ⟨hi, h⟩ | ⟨hi, a, a0, a1, h⟩
  · exact .inl ⟨hi, h.keep hs hk⟩
  · exact .inr ⟨hi, a, a0, a1, h.keep hs hk⟩
theorem RdQ.drewN (h : RdQ w B b zs i) (q : Nat) : RdQ (w.drewN q) B b zs i := h
theorem RdQ.drew (h : RdQ w B b zs i) : RdQ w.drew B b zs i := h
theorem RdQ.lt (h : RdQ w B b zs i) : b < w.heap.size := by
  rcases h with ⟨_, h⟩ | ⟨_, a, _, _, h⟩ <;> exact h.lt
theorem RdQ.from_ (h : RdQ w B b zs i) : B ≤ b := by
  rcases h with ⟨_, h⟩ | ⟨_, a, _, _, h⟩ <;> exact h.from_
theorem RdQ.block (h : RdQ w B b zs i) : RdBlock w b := by
  rcases h with ⟨_, h⟩ | ⟨_, a, _, _, h⟩ <;> exact h.block

theorem rdq_good {m : Nat} (hi : i ≤ zs.length) (hr : Rd w' B b (rest (zs.drop i) m) (gone (zs.drop i) i m) (badn (zs.drop i) false m)) : RdQ w' B b zs (i + m) := by
  by_cases h : i + m ≤ zs.length
  · rw [rest_at zs i m h, gone_at zs i i m h, badn_at zs false i m h] at hr
    exact .inl ⟨h, by simpa using hr⟩
  · have hn : ¬ m ≤ (zs.drop i).length := by rw [List.length_drop]; omega
    unfold rest gone badn at hr
    rw [if_neg hn, if_neg hn, if_neg hn] at hr
    exact .inr ⟨by omega, i, by omega, by omega, hr⟩

theorem rdq_bad {m : Nat} {a : Int} (hm : 0 < m) (hi : zs.length < i) (a0 : 0 ≤ a) (a1 : a ≤ zs.length) (hr : Rd w' B b (rest [] m) (gone [] a m) (badn [] true m)) : RdQ w' B b zs (i + m) := by
  have hn : ¬ m ≤ ([] : List Int).length := by simp; omega
  unfold rest gone badn at hr
  rw [if_neg hn, if_neg hn, if_neg hn] at hr
  exact .inr ⟨by omega, a, a0, a1, hr⟩
theorem drop_past (h : zs.length < i) : zs.drop i = [] := List.drop_of_length_le (by omega)

/-- What asking leaves. -/
def RetQ (w : World) (B b : Nat) (v : Value) (zs : List Int) (i : Nat) (e : Ending) (w' : World) : Prop := e = .returned v ∧ RdQ w' B b zs i ∧ w.grownBy w' (some b)

theorem rdq_u16 (h : RdQ w B b zs i) (hB : Bytes zs) (hl : zs.length ≤ 140737488351232) : Calls Try.prog 64 #[.pointer (some ⟨b, 0, none⟩)] w (RetQ w B b (.int .u16 (n2at zs i)) zs (i + 2)) := by
  rcases h with ⟨hi, h⟩ | ⟨hi, a, a0, a1, h⟩
  · exact (u16_any B b _ _ _ w h (drop_bytes hB _) (by rw [List.length_drop]; omega) (by omega) (by omega)).mono fun e w' ⟨he, hr, hg⟩ => ⟨he, rdq_good hi hr, hg⟩
  · refine (u16_any B b _ _ _ w h (fun x hx => by cases hx) (by simp) a0 (by omega)).mono fun e w' ⟨he, hr, hg⟩ => ⟨?_, rdq_bad (by omega) hi a0 a1 hr, hg⟩
    unfold n2at
    rw [drop_past hi]
    exact he

theorem rdq_u32 (h : RdQ w B b zs i) (hB : Bytes zs) (hl : zs.length ≤ 140737488351232) : Calls Try.prog 63 #[.pointer (some ⟨b, 0, none⟩)] w (RetQ w B b (.int .u32 (n4at zs i)) zs (i + 4)) := by
  rcases h with ⟨hi, h⟩ | ⟨hi, a, a0, a1, h⟩
  · exact (u32_any B b _ _ _ w h (drop_bytes hB _) (by rw [List.length_drop]; omega) (by omega) (by omega)).mono fun e w' ⟨he, hr, hg⟩ => ⟨he, rdq_good hi hr, hg⟩
  · refine (u32_any B b _ _ _ w h (fun x hx => by cases hx) (by simp) a0 (by omega)).mono fun e w' ⟨he, hr, hg⟩ => ⟨?_, rdq_bad (by omega) hi a0 a1 hr, hg⟩
    unfold n4at
    rw [drop_past hi]
    exact he

/-- What taking bytes leaves: they lie in the Reader's own memory. -/
def RetQT (w : World) (B b : Nat) (ys zs : List Int) (i : Nat) (e : Ending) (w' : World) : Prop :=
  ∃ A m c, e = .returned (.slice A m c) ∧ Row w' A m (cellsOf .u8 ys) ∧ (∀ g, blockOf A = some g → B ≤ g ∧ ∃ cur, w'.heap[g]? = some (.cells cur 5 (0, 0))) ∧ RdQ w' B b zs i ∧ w.grownBy w' (some b)

theorem rdq_take (h : RdQ w B b zs i) (hl : zs.length ≤ 140737488351232) (m : Nat) (hm : 0 < m) : Calls Try.prog 65 #[.pointer (some ⟨b, 0, none⟩), .int .i64 m] w (RetQT w B b (told (zs.drop i) m) zs (i + m)) := by
  rcases h with ⟨hi, h⟩ | ⟨hi, a, a0, a1, h⟩
  · exact (take_any B b _ _ _ w h (by rw [List.length_drop]; omega) (by omega) (by omega) m).mono fun e w' ⟨A, n, c, he, h1, h2, hr, hg⟩ => ⟨A, n, c, he, h1, h2, rdq_good hi hr, hg⟩
  · refine (take_any B b _ _ _ w h (by simp) a0 (by omega) m).mono fun e w' ⟨A, n, c, he, h1, h2, hr, hg⟩ => ⟨A, n, c, he, ?_, h2, rdq_bad hm hi a0 a1 hr, hg⟩
    rw [drop_past hi]
    exact h1

theorem rdq_badB (h : RdQ w B b zs i) : Calls Try.prog 66 #[.pointer (some ⟨b, 0, none⟩)] w fun e w' => e = .returned (.bool (decide (zs.length < i))) ∧ w = w' := by
  rcases h with ⟨hi, h⟩ | ⟨hi, a, a0, a1, h⟩
  · rw [decide_eq_false (by omega)]
    exact bad_any B b _ _ _ w h
  · rw [decide_eq_true hi]
    exact bad_any B b _ _ _ w h

end

end Go.Proofs.Ytlkidnacfljpkaa
