/- The bytes of a table maxp, and what is read of bytes: plain lists. -/
import Derived.Test.YtmpicokeenodbaaMaxpRead
import Derived.Test.YtmpicokeenodbaaWin
namespace Go.Proofs.Ytmpicokeenodbaa
set_option linter.unusedVariables false

theorem mpOf_ok {zs : List Int} (hB : Bytes zs) : (mpOf zs).ok := by
  refine ⟨n2at_lt hB _, fun x hx => ?_⟩
  simp only [Mp.rest, mpOf, List.mem_cons, List.not_mem_nil, or_false] at hx
  rcases hx with rfl | rfl | rfl | rfl | rfl | rfl | rfl | rfl | rfl | rfl | rfl | rfl | rfl <;> exact n2at_lt hB _

/-- Laid out again, it is what was read but for the front. -/
theorem mpL_mpOf {zs : List Int} (hB : Bytes zs) (hl : zs.length = 32) : mpL (mpOf zs) = b4 65536 ++ zs.drop 4 := by
  have h : ∀ i, i + 2 ≤ 32 → b2 (n2at zs i) = (zs.drop i).take 2 := fun i hi => b2_win hB (by omega)
  unfold mpL
  rw [List.append_assoc]
  congr 1
  simp only [Mp.rest, mpOf, List.flatMap_cons, List.flatMap_nil, List.append_nil]
  rw [h 4 (by omega), h 6 (by omega), h 8 (by omega), h 10 (by omega), h 12 (by omega), h 14 (by omega), h 16 (by omega), h 18 (by omega), h 20 (by omega), h 22 (by omega), h 24 (by omega), h 26 (by omega), h 28 (by omega), h 30 (by omega)]
  rw [win_join zs 28 2 2, win_join zs 26 2 4, win_join zs 24 2 6, win_join zs 22 2 8, win_join zs 20 2 10, win_join zs 18 2 12, win_join zs 16 2 14, win_join zs 14 2 16, win_join zs 12 2 18, win_join zs 10 2 20, win_join zs 8 2 22, win_join zs 6 2 24, win_join zs 4 2 26]
  exact List.take_of_length_le (by rw [List.length_drop]; omega)

/-- Are bytes a table's? -/
def mpRight (zs : List Int) : Bool := decide (zs.length = 32 ∧ n4at zs 0 = 65536 ∧ n2at zs 4 ≠ 0)

theorem mpL_iff {zs : List Int} (hB : Bytes zs) (hl : zs.length = 32) : sameB (mpL (mpOf zs)) zs = decide (n4at zs 0 = 65536) := by
  have e : zs = zs.take 4 ++ zs.drop 4 := (List.take_append_drop 4 zs).symm
  have e4 := b4_win hB (i := 0) (by omega)
  rw [List.drop_zero] at e4
  unfold sameB
  rw [Bool.eq_iff_iff, decide_eq_true_iff, decide_eq_true_iff, mpL_mpOf hB hl]
  constructor
  · intro h
    rw [e] at h
    have h1 := (List.append_inj h (by rw [List.length_take, hl]; rfl)).1
    refine n4at_of ?_ (by omega) (by omega)
    rw [List.drop_zero]
    exact h1.symm
  · intro h
    rw [h] at e4
    rw [e4, ← e]

theorem mpL_bytes (m : Mp) : Bytes (mpL m) := by
  refine bytes_append (bytes_append (b4_bytes _) (b2_bytes _)) fun x hx => ?_
  obtain ⟨y, _, hy⟩ := List.mem_flatMap.1 hx
  exact b2_bytes y x hy

theorem mpOf_mpL (m : Mp) (hm : m.ok) : mpOf (mpL m) = m := by
  obtain ⟨hg, hr⟩ := hm
  obtain ⟨g, r0, r1, r2, r3, r4, r5, r6, r7, r8, r9, r10, r11, r12⟩ := m
  simp only at hg
  have hr' : ∀ x ∈ [r0, r1, r2, r3, r4, r5, r6, r7, r8, r9, r10, r11, r12], 0 ≤ x ∧ x < 65536 := hr
  unfold mpOf
  rw [n2at_of (x := g) rfl hg.1 hg.2,
    n2at_of (x := r0) rfl (hr' r0 (by simp)).1 (hr' r0 (by simp)).2, n2at_of (x := r1) rfl (hr' r1 (by simp)).1 (hr' r1 (by simp)).2,
    n2at_of (x := r2) rfl (hr' r2 (by simp)).1 (hr' r2 (by simp)).2, n2at_of (x := r3) rfl (hr' r3 (by simp)).1 (hr' r3 (by simp)).2,
    n2at_of (x := r4) rfl (hr' r4 (by simp)).1 (hr' r4 (by simp)).2, n2at_of (x := r5) rfl (hr' r5 (by simp)).1 (hr' r5 (by simp)).2,
    n2at_of (x := r6) rfl (hr' r6 (by simp)).1 (hr' r6 (by simp)).2, n2at_of (x := r7) rfl (hr' r7 (by simp)).1 (hr' r7 (by simp)).2,
    n2at_of (x := r8) rfl (hr' r8 (by simp)).1 (hr' r8 (by simp)).2, n2at_of (x := r9) rfl (hr' r9 (by simp)).1 (hr' r9 (by simp)).2,
    n2at_of (x := r10) rfl (hr' r10 (by simp)).1 (hr' r10 (by simp)).2, n2at_of (x := r11) rfl (hr' r11 (by simp)).1 (hr' r11 (by simp)).2,
    n2at_of (x := r12) rfl (hr' r12 (by simp)).1 (hr' r12 (by simp)).2]

theorem mpRight_mpL (m : Mp) (hm : m.ok) (h0 : m.g ≠ 0) : mpRight (mpL m) = true := by
  unfold mpRight
  rw [decide_eq_true_iff]
  refine ⟨mpL_len m, n4at_of rfl (by omega) (by omega), ?_⟩
  have := congrArg Mp.g (mpOf_mpL m hm)
  simp only [mpOf] at this
  omega

end Go.Proofs.Ytmpicokeenodbaa
