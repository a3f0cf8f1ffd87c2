/- What the rest of package dot answers (Scale, Unit), and the document's own answers of layer 4, as contracts over this seat's translation. -/
import Derived.Test.YtlcnonhebppeiaaDot
namespace Go.Proofs.Ytlcnonhebppeiaa
open Go.RowKit
set_option linter.unusedVariables false

theorem kept_new {w w1 : World} {o : Obj} (hb : Below (w.alloc o).heap.size (w.alloc o) w1) : w1.heap[w.heap.size]? = some o := (hb.block _ (by simp)).trans (heap_alloc_new w o)

theorem scale_any (n : Int) (w : World) : Calls Try.prog 89 #[.int .i16 n] w fun e w' => e = .returned (mxV n 0 0 n) ∧ Below w.heap.size w w' := by
  go_enter Try.func89, Try.ntmps89
  go_wp2
  refine bodyPost_ret (v := mxV n 0 0 n) (by simp [results, Try.results89, go_sem]) rfl ⟨rfl, ?_⟩
  exact (Below.refl _ _).alloc (Nat.le_refl _) _

theorem unit_any (w : World) : Calls Try.prog 42 #[] w fun e w' => e = .returned (mxV 16384 0 0 16384) ∧ Below w.heap.size w w' := by
  go_enter Try.func42, Try.ntmps42
  go_wp2_with fail
  refine (scale_any _ _).mono ?_
  rintro e w1 ⟨rfl, hb⟩
  have hk := kept_new hb
  have c0 : w1.cell? ⟨w.heap.size, 0, none⟩ = some (.int .i16 0) := cell_of_row w1 _ 0 _ _ _ hk
  have c1 : w1.cell? ⟨w.heap.size, 1, none⟩ = some (.int .i16 0) := cell_of_row w1 _ 1 _ _ _ hk
  have c2 : w1.cell? ⟨w.heap.size, 2, none⟩ = some (.int .i16 0) := cell_of_row w1 _ 2 _ _ _ hk
  have c3 : w1.cell? ⟨w.heap.size, 3, none⟩ = some (.int .i16 0) := cell_of_row w1 _ 3 _ _ _ hk
  have f0 : ∀ o, w1.frozen? ⟨w.heap.size, o, none⟩ = false := fun o => by simp [World.frozen?, hk]
  have Hk := Lib.hid hk
  clear hk
  go_wp2
  refine bodyPost_ret (v := mxV 16384 0 0 16384) (by simp [results, Try.results42, go_sem, c0, c1, c2, c3]) rfl ⟨rfl, ?_⟩
  exact (((((((Below.refl _ _).alloc (Nat.le_refl _) _).trans (hb.mono (by simp))).setCell (Nat.le_refl _) _).setCell (Nat.le_refl _) _).setCell (Nat.le_refl _) _).setCell (Nat.le_refl _) _)

theorem w64 (x : Int) (h : -9223372036854775808 ≤ x ∧ x ≤ 9223372036854775807) : wrap64 x = x := IntWalk.wrap64_in x h
theorem ret_i64 {a b : Int} (h : a = b) : Ending.returned (.int .i64 a) = .returned (.int .i64 b) := by rw [h]

theorem tm_spec (m : Int) : ∃ q r : Int, m = 16384 * q + r ∧ m.tmod 16384 = r ∧ -16384 < r ∧ r < 16384 ∧ (r < 0 → m < 0) ∧ (0 < r → 0 < m) := by
  refine ⟨m.tdiv 16384, m.tmod 16384, ?_, rfl, ?_⟩
  · have := Int.mul_tdiv_add_tmod m 16384; omega
  · rcases Int.le_total 0 m with h | h
    · rw [Int.tmod_eq_emod_of_nonneg h]; omega
    · have e : m.tmod 16384 = -((-m).tmod 16384) := by rw [Int.neg_tmod]; omega
      rw [e, Int.tmod_eq_emod_of_nonneg (by omega)]; omega

end Go.Proofs.Ytlcnonhebppeiaa
