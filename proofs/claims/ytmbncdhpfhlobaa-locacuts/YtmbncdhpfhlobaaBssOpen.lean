/- Slices of slices of bytes that come in. -/
import Derived.Test.YtmbncdhpfhlobaaRef2
import Derived.ProofKit
import Derived.ChangeSame
import Derived.Deep.Matrix
namespace Go.Proofs.Ytmbncdhpfhlobaa
open Go.RowKit Go.ChangeShapes Go.WideShapes Go.ChangeAt
set_option linter.unusedVariables false

/-- Slices of bytes that came in: each reads as bytes. -/
def PartsOf (w : World) (a : Option Addr) (n : Nat) (ps : List BsV) : Prop := Row w a n (ps.map BsV.val) ∧ n ≤ 9223372036854775807 ∧ ∀ p ∈ ps, p.ok w ∧ Bytes p.ys ∧ p.n ≤ 9223372036854775807

theorem block_lt {w : World} {a : Addr} {v : Value} (h : w.cell? a = some v) : a.block < w.heap.size := by
  rcases Nat.lt_or_ge a.block w.heap.size with hlt | hge
  · exact hlt
  · simp [World.cell?, Array.getElem?_eq_none hge] at h

theorem spot_none {w : World} {x : Addr} {v : Value} (h : w.cell? (x.add 0) = some v) : ∃ b off, x = ⟨b, off, none⟩ := by
  obtain ⟨b, off, spot⟩ := x
  have hs : spot = none := by simpa [Addr.add] using World.cell?_spot h
  subst hs
  exact ⟨b, off, rfl⟩

/-- From what the reading of the argument gives. -/
theorem parts_of {w : World} {base : Nat} {x : Addr} {len cap : Nat} {A : Nat → Option Addr} {L C : Nat → Nat} {Z : Nat → List Int} (hl : len ≤ cap) (hm : cap ≤ maxLen)
    (h : ∀ r, r < cap → w.cell? (x.add r) = some (.slice (A r) (L r) (C r)) ∧ L r ≤ C r ∧ C r ≤ maxLen ∧ (Z r).length = C r ∧ (∀ n ∈ Z r, (Lit.int .u8 n).wf = true) ∧ (A r = none → C r = 0) ∧
      ∀ a', A r = some a' → base ≤ a'.block ∧ ∀ c, c < C r → w.cell? (a'.add c) = some (.int .u8 ((Z r).getD c 0))) :
    PartsOf w (some x) len ((List.range len).map fun r => ⟨A r, L r, C r, (Z r).take (L r)⟩) := by
  simp only [maxLen] at hm
  refine ⟨⟨by simp, fun hp => ?_⟩, by omega, ?_⟩
  · obtain ⟨b, off, rfl⟩ := spot_none (h 0 (by omega)).1
    refine ⟨b, off, rfl, block_lt (a := (⟨b, off, none⟩ : Addr).add 0) (h 0 (by omega)).1, fun j u hu => ?_⟩
    have hj : j < len := by have := (List.getElem?_eq_some_iff.1 hu).1; simpa using this
    have hc := (h j (by omega)).1
    rw [Addr.add_lit] at hc
    rw [hc]
    simp [hj, BsV.val] at hu
    rw [← hu]
  · intro p hp
    simp only [List.mem_map, List.mem_range] at hp
    obtain ⟨r, hr, rfl⟩ := hp
    obtain ⟨hc, h1, h2, h3, h4, h5, h6⟩ := h r (by omega)
    have hrow := row_of (k := .u8) (w := w) (a := A r) (len := L r) (cap := C r) (zs := Z r) (by
      cases hA : A r with
      | none =>
        have := h5 hA
        exact .inl ⟨rfl, by omega, this, List.eq_nil_of_length_eq_zero (by omega)⟩
      | some a' => exact .inr ⟨a', rfl, h1, h2, h3, fun i hi => (h6 a' hA).2 i (by omega), h4⟩)
    exact ⟨hrow.1, bytes_of hrow.2.2, hrow.2.1⟩

theorem parts_none (w : World) : PartsOf w none 0 [] := ⟨Row.empty _ _, by omega, fun p hp => by cases hp⟩

set_option maxRecDepth 100000 in
theorem open_bss {H : Type} {enc : TypeId × Value → H} {W : World} {base : Nat} {v : Value} {d : DataW H} {p : List MemPlace} (hv : Value.okWide Try.prog W .any base 58 v) (h : DataW.Trod enc Try.prog W 0 (fun _ => true) true 58 v d p) :
    ∃ A n c ps, v = .slice A n c ∧ PartsOf W A n ps := by
  obtain ⟨a, len, cap, rfl⟩ := okWide_slice Try.underlying58 hv
  obtain ⟨fuel, hf⟩ := h
  rcases Go.Deep.open_int_rows Try.underlying58 Try.underlying27 Try.underlying5 (by kernel_rfl) (by kernel_rfl) hf with ⟨hcs, _⟩ | ⟨x, l, c, A', L', C', Z', hcs, _, hl, hm, _, hrows⟩
  · simp [Value.cells] at hcs
    obtain ⟨rfl, rfl, rfl⟩ := hcs
    exact ⟨_, _, _, [], rfl, parts_none W⟩
  · simp [Value.cells] at hcs
    obtain ⟨rfl, rfl, rfl⟩ := hcs
    exact ⟨_, _, _, _, rfl, parts_of hl hm hrows⟩

end Go.Proofs.Ytmbncdhpfhlobaa
