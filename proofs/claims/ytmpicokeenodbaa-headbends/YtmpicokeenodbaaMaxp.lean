/- What package maxp answers (Bytes, With), as contracts over this seat's translation. -/
import Derived.Test.YtmpicokeenodbaaWrBox
namespace Go.Proofs.Ytmpicokeenodbaa
open Go.RowKit
set_option linter.unusedVariables false

/-- How many glyphs, and thirteen numbers more. -/
structure Mp where
  g : Int
  r0 : Int
  r1 : Int
  r2 : Int
  r3 : Int
  r4 : Int
  r5 : Int
  r6 : Int
  r7 : Int
  r8 : Int
  r9 : Int
  r10 : Int
  r11 : Int
  r12 : Int
  deriving DecidableEq

def Mp.rest (m : Mp) : List Int := [m.r0, m.r1, m.r2, m.r3, m.r4, m.r5, m.r6, m.r7, m.r8, m.r9, m.r10, m.r11, m.r12]
abbrev mpC (m : Mp) : Array Value := #[.int .u16 m.g, .int .u16 m.r0, .int .u16 m.r1, .int .u16 m.r2, .int .u16 m.r3, .int .u16 m.r4, .int .u16 m.r5, .int .u16 m.r6, .int .u16 m.r7, .int .u16 m.r8, .int .u16 m.r9, .int .u16 m.r10, .int .u16 m.r11, .int .u16 m.r12]
abbrev mpV (m : Mp) : Value := .agg (mpC m)
/-- Numbers of two bytes. -/
def u16L (l : List Int) : Prop := ∀ x ∈ l, 0 ≤ x ∧ x < 65536
def Mp.ok (m : Mp) : Prop := (0 ≤ m.g ∧ m.g < 65536) ∧ u16L m.rest
/-- Its bytes. -/
def mpL (m : Mp) : List Int := b4 65536 ++ b2 m.g ++ m.rest.flatMap b2

theorem rest_len13 (m : Mp) : m.rest.length = 13 := rfl
theorem flat_b2_len (l : List Int) : (l.flatMap b2).length = 2 * l.length := by
  induction l with
  | nil => rfl
  | cons x l ih => rw [List.flatMap_cons, List.length_append, ih, List.length_cons]; simp [b2]; omega
theorem mpL_len (m : Mp) : (mpL m).length = 32 := by
  unfold mpL
  rw [List.length_append, List.length_append, flat_b2_len, rest_len13]
  rfl

theorem flat_snoc {l : List Int} {k : Nat} {x : Int} (h : l[k]? = some x) : (l.take (k + 1)).flatMap b2 = (l.take k).flatMap b2 ++ b2 x := by
  rw [List.take_add_one, h]
  simp

theorem mbytes_none (m : Mp) (w : World) (h0 : m.g = 0) : Calls Try.prog 26 #[mpV m] w (RetB w []) := by
  obtain ⟨g, r0, r1, r2, r3, r4, r5, r6, r7, r8, r9, r10, r11, r12⟩ := m
  simp only at h0
  subst h0
  go_enter Try.func26, Try.ntmps26
  go_wp2
  go_ret
  exact ⟨none, 0, 0, rfl, Own.nil _ _ _ _, (Below.refl _ _).alloc (Nat.le_refl _) _⟩

set_option maxRecDepth 100000 in
set_option maxHeartbeats 4000000 in
theorem mbytes_any (m : Mp) (w : World) (hm : m.ok) (h0 : m.g ≠ 0) : Calls Try.prog 26 #[mpV m] w (RetB w (mpL m)) := by
  have hst := stB_new w (mpC m) 53 (by decide) (by decide)
  have hL : mpL m = b4 65536 ++ b2 m.g ++ m.rest.flatMap b2 := rfl
  have HL := Lib.hid hL
  have hr := hm.2
  obtain ⟨⟨g0, g1⟩, _⟩ := hm
  have hz : (m.g == 0) = false := by simpa using h0
  have HR := Lib.hid hr
  generalize hrest : m.rest = rs at *
  have Hrs := Lib.hid hrest
  clear hL hr hrest h0
  obtain ⟨g, r0, r1, r2, r3, r4, r5, r6, r7, r8, r9, r10, r11, r12⟩ := m
  simp only [mpC] at hst g0 g1 hz HL
  go_enter Try.func26, Try.ntmps26
  go_wp2_with fail
  have hs := hst.drew
  clear hst
  go_region_held (fun w' => w'.cell? ⟨w.heap.size, 0, none⟩ = some (.int .u16 g))
    (first | exact hs.cell 0 _ rfl | exact hs2.cell 0 _ rfl | exact hs3.cell 0 _ rfl)
    (first
      | (go_at_call 31; refine (wu32_any _ _ _ 65536 _ hs.wr_ (by simp) (by omega) (by omega)).mono ?_; rintro e w2 ⟨rfl, h2, t2⟩; have hs2 := hs.turned h2 t2; clear t2 h2)
      | (go_at_call 32; refine (wu16_any _ _ _ g _ hs2.wr_ (by simp [b4, b2]) g0 g1).mono ?_; rintro e w3 ⟨rfl, h3, t3⟩; have hs3 := hs2.turned h3 t3; clear t3 h3))
  have HS := Lib.hid hs3
  have c0 := hs3.cell 0 _ rfl
  have c1 := hs3.cell 1 _ rfl
  have c2 := hs3.cell 2 _ rfl
  have c3 := hs3.cell 3 _ rfl
  have c4 := hs3.cell 4 _ rfl
  have c5 := hs3.cell 5 _ rfl
  have c6 := hs3.cell 6 _ rfl
  have c7 := hs3.cell 7 _ rfl
  have c8 := hs3.cell 8 _ rfl
  have c9 := hs3.cell 9 _ rfl
  have c10 := hs3.cell 10 _ rfl
  have c11 := hs3.cell 11 _ rfl
  have c12 := hs3.cell 12 _ rfl
  have c13 := hs3.cell 13 _ rfl
  clear hs hs2 hs3
  go_wp2
  clear c0 c1 c2 c3 c4 c5 c6 c7 c8 c9 c10 c11 c12 c13
  go_loopw [15] (fun i wr => ∃ k : Nat, k ≤ 13 ∧ i = .int .i64 k ∧ StB w wr (w.heap.size + 1) (b4 65536 ++ b2 g ++ (rs.take k).flatMap b2) w.heap.size #[.int .u16 g, .int .u16 r0, .int .u16 r1, .int .u16 r2, .int .u16 r3, .int .u16 r4, .int .u16 r5, .int .u16 r6, .int .u16 r7, .int .u16 r8, .int .u16 r9, .int .u16 r10, .int .u16 r11, .int .u16 r12] 53) (fun i _ => 13 - (intOf i).toNat)
  case atStart => exact ⟨0, Nat.zero_le _, rfl, by simpa using HS.out⟩
  case round =>
    clear HS
    obtain ⟨k, hk, rfl, hs⟩ := hrel
    by_cases hlt : k < 13
    · have hlen : (b4 65536 ++ b2 g ++ (rs.take k).flatMap b2).length ≤ 100 := by
        rw [List.length_append, List.length_append, flat_b2_len, List.length_take]
        simp [b4, b2]
        omega
      obtain ⟨x, hx⟩ := get_some (zs := rs) (k := k) (by rw [← Hrs.out]; exact hlt)
      obtain ⟨x0, x1⟩ := HR.out x (List.mem_of_getElem? hx)
      have hx2 := flat_snoc hx
      have hix := run_index_arr (P := Try.prog) wr 51 23 13 #[.int .u16 r0, .int .u16 r1, .int .u16 r2, .int .u16 r3, .int .u16 r4, .int .u16 r5, .int .u16 r6, .int .u16 r7, .int .u16 r8, .int .u16 r9, .int .u16 r10, .int .u16 r11, .int .u16 r12] k (.int .u16 x) Try.underlying51 (by simp [go_sem]) (by simp [go_sem]) hlt (by
        have h := cellsOf_get (k := .u16) hx
        rw [← Hrs.out] at h
        simpa [Mp.rest, cellsOf] using h)
      have Hx := Lib.hid hx2
      have Hlen := Lib.hid hlen
      clear hx hx2 hlen
      go_wp2_with fail
      refine (wu16_any _ _ _ _ _ hs.wr_ (by have := Hlen.out; omega) x0 x1).mono ?_
      rintro e w3 ⟨rfl, h3, t3⟩
      have hs3 := hs.turned h3 t3
      rw [List.append_assoc, ← Hx.out] at hs3
      clear t3 h3 hs hix
      go_wp2
      go_roundw
      case rel => exact ⟨k + 1, by omega, by go_num, hs3⟩
      case measure => simp [intOf]; omega
    · have hE : rs.take k = rs := by rw [← Hrs.out]; exact List.take_of_length_le (by simp [Mp.rest]; omega)
      rw [hE, ← HL.out] at hs
      have Hlen := Lib.hid (mpL_len ⟨g, r0, r1, r2, r3, r4, r5, r6, r7, r8, r9, r10, r11, r12⟩)
      clear hE
      go_wp2_with fail
      refine (done_any _ _ _ _ hs.wr_ (by have := Hlen.out; omega)).mono ?_
      rintro e w5 ⟨A5, n5, c5, rfl, hown, b5⟩
      have hz := hs.size
      have hb := hs.bel
      go_wp2
      go_ret
      exact ⟨A5, n5, c5, rfl, hown.mono hz, hb.trans (b5.mono hz)⟩

theorem with_any (m : Mp) (n : Int) (w : World) : Calls Try.prog 30 #[mpV m, .int .u16 n] w (Ret w (mpV { m with g := n })) := by
  obtain ⟨g, r0, r1, r2, r3, r4, r5, r6, r7, r8, r9, r10, r11, r12⟩ := m
  go_enter Try.func30, Try.ntmps30
  go_wp2
  refine bodyPost_ret (v := mpV ⟨n, r0, r1, r2, r3, r4, r5, r6, r7, r8, r9, r10, r11, r12⟩) (by simp [results, Try.results30, go_sem]) rfl ⟨rfl, ?_⟩
  exact ((Below.refl _ _).alloc (Nat.le_refl _) _).alloc (by simp) _

end Go.Proofs.Ytmpicokeenodbaa
