/- The kinds of cmap's records as a map's keys. -/
import Derived.Test.YthkaeimpflggjaaDoorCmM
import Derived.Test.YthkaeimpflggjaaDoorPrs
import Derived.Maps.OwnSet
import Derived.Maps.Views
import Derived.DeepKeys4
namespace Go.Proofs.YthkaeimpflggjaaDoor
open Go.RowKit Go.Maps
set_option linter.unusedVariables false

theorem Tryd.kindlaw : Keyed Tryd.prog 65 := Keyed.of_law (deep_law_laid (by kernel_rfl) (m := 3) (by omega) (of_decide_eq_true (by kernel_rfl)) (by kernel_rfl) (by kernel_rfl))

/-- What a kind reads as. -/
def kL (a b : Int) : Lit := .string (keyBytes [.int .u16 a, .int .u16 b])

theorem kind_key {a b : Int} (wa : (Lit.int .u16 a).wf = true) (wb : (Lit.int .u16 b).wf = true) : keyOf Tryd.prog 65 (.agg #[.int .u16 a, .int .u16 b]) = some (kL a b) := by
  have hs : ∃ m, Tryd.prog.types.size = m + 1 := ⟨Tryd.prog.types.size - 1, by have : 0 < Tryd.prog.types.size := of_decide_eq_true (by kernel_rfl); omega⟩
  obtain ⟨m, hm⟩ := hs
  have hk : Tryd.prog.keyType 65 = true := by kernel_rfl
  have c2 : Tryd.prog.cellsOf 65 = 2 := by kernel_rfl
  have c1 : Tryd.prog.cellsOf 43 = 1 := by kernel_rfl
  unfold keyOf
  rw [Tryd.underlying65]
  simp only [hk, Value.formed, Tryd.underlying65, Bool.true_and]
  rw [if_pos (by simp [c2]), hm]
  unfold Program.keyLits
  simp only [Tryd.underlying65, Value.cells]
  rw [if_pos (by rw [c2]; exact ⟨rfl, by kernel_rfl⟩)]
  simp [c1, Program.keyLits, Tryd.underlying43, wa, wb, kL]

theorem kL_inj {a b a' b' : Int} (wa : (Lit.int .u16 a).wf = true) (wb : (Lit.int .u16 b).wf = true) (wa' : (Lit.int .u16 a').wf = true) (wb' : (Lit.int .u16 b').wf = true) (h : kL a b = kL a' b') : a = a' ∧ b = b' := by
  have h1 := kind_key wa wb
  have h2 := kind_key wa' wb'
  rw [← h] at h2
  have := Tryd.kindlaw.inj h1 h2
  simpa using this

theorem u16_wf {a : Int} (h0 : 0 ≤ a) (h1 : a < 65536) : (Lit.int .u16 a).wf = true := by
  simp [Lit.wf, IntKind.min, IntKind.max, IntKind.bits, IntKind.signed]
  omega
theorem u32_wf {a : Int} (h0 : 0 ≤ a) (h1 : a < 4294967296) : (Lit.int .u32 a).wf = true := by
  simp [Lit.wf, IntKind.min, IntKind.max, IntKind.bits, IntKind.signed]
  omega

/-- The map of the first k records. -/
def KindMap (zs : List Int) (k : Nat) (D : DataW Unit) : Prop :=
  IsMap D ∧ ∀ a b : Int, 0 ≤ a → a < 65536 → 0 ≤ b → b < 65536 → has D (kL a b) = (cFst zs a b k).isSome ∧ ∀ v, cFst zs a b k = some v → D.atKey (kL a b) (.lit (.int .u32 0)) = .lit (.int .u32 v)

theorem KindMap.zero (zs : List Int) : KindMap zs 0 (.map []) := ⟨isMap_empty, fun a b _ _ _ _ => ⟨rfl, fun v h => by cases h⟩⟩
/-- The next record's kind is there. -/
theorem KindMap.old {zs : List Int} {k : Nat} {D : DataW Unit} (h : KindMap zs k D) (hB : Bytes zs) (hh : has D (kL (n2at zs (4 + 8 * k)) (n2at zs (6 + 8 * k))) = true) : KindMap zs (k + 1) D := by
  refine ⟨h.1, fun a b a0 a1 b0 b1 => ?_⟩
  have h1 := h.2 a b a0 a1 b0 b1
  have e : cFst zs a b (k + 1) = cFst zs a b k := by
    cases hi : cIs zs a b k with
    | false => exact cFst_other hi
    | true =>
      unfold cIs at hi
      simp at hi
      rw [hi.1, hi.2] at hh
      rw [h1.1] at hh
      cases hc : cFst zs a b k with
      | none => rw [hc] at hh; cases hh
      | some v => exact cFst_step hc
  rw [e]
  exact h1
/-- The next record's kind isn't there. -/
theorem KindMap.new {zs : List Int} {k : Nat} {D : DataW Unit} (h : KindMap zs k D) (hB : Bytes zs) (hh : has D (kL (n2at zs (4 + 8 * k)) (n2at zs (6 + 8 * k))) = false) : KindMap zs (k + 1) (D.put (kL (n2at zs (4 + 8 * k)) (n2at zs (6 + 8 * k))) (.lit (.int .u32 (cVal zs k)))) := by
  have k4 := n2at_lt hB (4 + 8 * k)
  have k6 := n2at_lt hB (6 + 8 * k)
  have hK : WideAt.IsKeyLit (kL (n2at zs (4 + 8 * k)) (n2at zs (6 + 8 * k))) := Tryd.kindlaw.key (kind_key (u16_wf k4.1 k4.2) (u16_wf k6.1 k6.2))
  refine ⟨h.1.put _ _, fun a b a0 a1 b0 b1 => ?_⟩
  have h1 := h.2 a b a0 a1 b0 b1
  cases hi : cIs zs a b k with
  | false =>
    have hne : kL a b ≠ kL (n2at zs (4 + 8 * k)) (n2at zs (6 + 8 * k)) := fun e => by
      obtain ⟨e1, e2⟩ := kL_inj (u16_wf a0 a1) (u16_wf b0 b1) (u16_wf k4.1 k4.2) (u16_wf k6.1 k6.2) e
      unfold cIs at hi
      simp [← e1, ← e2] at hi
    rw [cFst_other hi, has_put_other hne, atKey_put_other hne]
    exact h1
  | true =>
    have hi' := hi
    unfold cIs at hi'
    simp at hi'
    have hn : cFst zs a b k = none := by
      rw [hi'.1, hi'.2, h1.1] at hh
      cases hc : cFst zs a b k with
      | none => rfl
      | some v => rw [hc] at hh; cases hh
    rw [cFst_new hn hi, hi'.1, hi'.2]
    rw [hi'.1, hi'.2] at hK
    exact ⟨has_put_same h.1 hK _, fun v hv => by cases hv; exact atKey_put_same h.1 hK _ _⟩

end Go.Proofs.YthkaeimpflggjaaDoor
