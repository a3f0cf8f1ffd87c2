/- What maxp.Parse answers, as contracts over this seat's translation. -/
import Derived.Test.YtmpicokeenodbaaMaxpMath
import Derived.Test.YtmpicokeenodbaaEqual
namespace Go.Proofs.Ytmpicokeenodbaa
open Go.RowKit
set_option linter.unusedVariables false

def mp0 : Mp := ⟨0, 0, 0, 0, 0, 0, 0, 0, 0, 0, 0, 0, 0, 0⟩

/-- A pair that is told. -/
abbrev mpR (m : Mp) (e : Int) : Value := .tuple #[mpV m, .int .i64 e]

/-- What Parse tells. -/
def mpTold (zs : List Int) : Value := if mpRight zs = true then mpR (mpOf zs) 0 else mpR mp0 2
theorem mpTold_yes {zs : List Int} (h : mpRight zs = true) : mpTold zs = mpR (mpOf zs) 0 := if_pos h
theorem mpTold_no {zs : List Int} (h : mpRight zs = false) : mpTold zs = mpR mp0 2 := if_neg (by rw [h]; decide)
theorem mpRight_len {zs : List Int} (h : zs.length ≠ 32) : mpRight zs = false := by unfold mpRight; simp [h]

theorem mparse_len (A : Option Addr) (n c : Nat) (w : World) (h : n ≠ 32) : Calls Try.prog 27 #[.slice A n c] w (Ret w (mpR mp0 2)) := by
  have hne : ((n : Int) != 32) = true := by simp; omega
  clear h
  go_enter Try.func27, Try.ntmps27
  go_wp2
  exact bodyPost_ret (v := mpR mp0 2) (by simp [results, Try.results27, go_sem, mp0]) rfl ⟨rfl, (Below.refl _ _).alloc (Nat.le_refl _) _⟩

/-- What is left of a block of noughts that is made first. -/
theorem first_box {w w' : World} {o : Obj} (hb : Below (w.alloc o).heap.size (w.alloc o) w') : w'.heap[w.heap.size]? = some o ∧ Below w.heap.size w w' ∧ w.heap.size < w'.heap.size :=
  ⟨(hb.block _ (by simp)).trans (heap_alloc_new w o), ((Below.refl _ _).alloc (Nat.le_refl _) _).trans (hb.mono (by simp)), by have := hb.size; simp at this; omega⟩

set_option maxRecDepth 100000 in
set_option maxHeartbeats 4000000 in
theorem mparse_32 (A : Option Addr) (n c : Nat) (zs : List Int) (w : World) (hr : Row w A n (cellsOf .u8 zs)) (hB : Bytes zs) (h32 : n = 32) :
    Calls Try.prog 27 #[.slice A n c] w (Ret w (mpTold zs)) := by
  have hl := hr.len
  subst h32
  have hok := mpOf_ok hB
  have hsame := mpL_iff hB hl
  have hA0 : Below w.heap.size w (w.alloc (.cells mpZ 53)) := (Below.refl _ _).alloc (Nat.le_refl _) _
  have hr0 := hr.below hA0
  have HB := Lib.hid hB
  have HL := Lib.hid hl
  have Hok := Lib.hid hok
  have Hsame := Lib.hid hsame
  clear hr hB hl hok hsame
  simp only [mpZ] at hA0 hr0
  go_enter Try.func27, Try.ntmps27
  go_wp2_with fail
  refine (new_any _ _ _ zs _ hr0 (by omega)).mono ?_
  rintro e w1 ⟨b, rfl, hrd, hb1⟩
  have hr1 := hr0.below hb1
  have hne := hr0.ne hrd.from_
  clear hr0
  go_wp2_with fail
  refine (mread_any _ b zs w1 hrd HB.out HL.out).mono ?_
  rintro e w2 ⟨rfl, hg2⟩
  have hfr := hrd.from_
  have hb2 := hb1.grown hg2 hb1.size (fun k e => by cases e; exact hfr)
  have hr2 := hr1.ask hg2 hne
  obtain ⟨k2, hb, hlt⟩ := first_box hb2
  clear hrd hb1 hg2 hb2 hr1 hA0 hfr hne
  generalize hm : mpOf zs = m at *
  have hA2 : Below w2.heap.size w2 (w2.alloc (.cells (mpC m) 53)) := (Below.refl _ _).alloc (Nat.le_refl _) _
  have hr3 := hr2.below hA2
  have k3 := (hA2.block _ hlt).trans k2
  have j3 := heap_alloc_new w2 (.cells (mpC m) 53)
  have hb3 := hb.trans (hA2.mono hb.size)
  have hlt3 : w.heap.size < (w2.alloc (.cells (mpC m) 53)).heap.size := by simp; omega
  have hlt3' : w2.heap.size < (w2.alloc (.cells (mpC m) 53)).heap.size := by simp
  have Hm := Lib.hid hm
  clear hA2 hr2 k2 hb hm
  have hby : ∀ W : World, Calls Try.prog 26 #[mpV m] W (RetB W (if m.g = 0 then [] else mpL m)) := fun W => by
    by_cases h0 : m.g = 0
    · rw [if_pos h0]; exact mbytes_none m W h0
    · rw [if_neg h0]; exact mbytes_any m W Hok.out h0
  have Hby := Lib.hid hby
  have hbt : Bytes (if m.g = 0 then [] else mpL m) := by
    split
    · intro x hx; cases hx
    · exact mpL_bytes m
  have Hbt := Lib.hid hbt
  have hsm : sameB (if m.g = 0 then [] else mpL m) zs = mpRight zs := by
    have hg : m.g = n2at zs 4 := by rw [← Hm.out]; rfl
    unfold mpRight
    by_cases h0 : m.g = 0
    · rw [if_pos h0]
      unfold sameB
      have h1 : n2at zs 4 = 0 := by omega
      have h2 := HL.out
      have h3 : ¬ ([] = zs) := by rintro rfl; simp at h2
      simp [h1, h3]
    · rw [if_neg h0, Hsame.out]
      have h1 : n2at zs 4 ≠ 0 := by omega
      simp [h1, HL.out]
  have Hsm := Lib.hid hsm
  clear hby hbt hsm
  generalize (if m.g = 0 then [] else mpL m) = ys at Hby Hbt Hsm
  obtain ⟨g, r0, r1, r2, r3, r4, r5, r6, r7, r8, r9, r10, r11, r12⟩ := m
  simp only [mpC] at k3 j3 hb3 hlt3 hlt3' hr3
  go_wp2_with fail
  generalize w2.alloc _ = w3 at *
  refine (Hby.out w3).mono ?_
  rintro e w4 ⟨A4, n4, c4, rfl, hown4, hb4⟩
  have hr4 := hr3.below hb4
  have k4 := (hb4.block _ hlt3).trans k3
  have j4 := (hb4.block _ hlt3').trans j3
  have hB4 := hb3.trans (hb4.mono hb3.size)
  have hrow4 := hown4.row
  have d0 : w4.cell? ⟨w.heap.size, 0, none⟩ = some (.int .u16 0) := cell_of_row w4 _ 0 _ _ _ k4
  have d1 : w4.cell? ⟨w.heap.size, 1, none⟩ = some (.int .u16 0) := cell_of_row w4 _ 1 _ _ _ k4
  have d2 : w4.cell? ⟨w.heap.size, 2, none⟩ = some (.int .u16 0) := cell_of_row w4 _ 2 _ _ _ k4
  have d3 : w4.cell? ⟨w.heap.size, 3, none⟩ = some (.int .u16 0) := cell_of_row w4 _ 3 _ _ _ k4
  have d4 : w4.cell? ⟨w.heap.size, 4, none⟩ = some (.int .u16 0) := cell_of_row w4 _ 4 _ _ _ k4
  have d5 : w4.cell? ⟨w.heap.size, 5, none⟩ = some (.int .u16 0) := cell_of_row w4 _ 5 _ _ _ k4
  have d6 : w4.cell? ⟨w.heap.size, 6, none⟩ = some (.int .u16 0) := cell_of_row w4 _ 6 _ _ _ k4
  have d7 : w4.cell? ⟨w.heap.size, 7, none⟩ = some (.int .u16 0) := cell_of_row w4 _ 7 _ _ _ k4
  have d8 : w4.cell? ⟨w.heap.size, 8, none⟩ = some (.int .u16 0) := cell_of_row w4 _ 8 _ _ _ k4
  have d9 : w4.cell? ⟨w.heap.size, 9, none⟩ = some (.int .u16 0) := cell_of_row w4 _ 9 _ _ _ k4
  have d10 : w4.cell? ⟨w.heap.size, 10, none⟩ = some (.int .u16 0) := cell_of_row w4 _ 10 _ _ _ k4
  have d11 : w4.cell? ⟨w.heap.size, 11, none⟩ = some (.int .u16 0) := cell_of_row w4 _ 11 _ _ _ k4
  have d12 : w4.cell? ⟨w.heap.size, 12, none⟩ = some (.int .u16 0) := cell_of_row w4 _ 12 _ _ _ k4
  have d13 : w4.cell? ⟨w.heap.size, 13, none⟩ = some (.int .u16 0) := cell_of_row w4 _ 13 _ _ _ k4
  have e0 : w4.cell? ⟨w2.heap.size, 0, none⟩ = some (.int .u16 g) := cell_of_row w4 _ 0 _ _ _ j4
  have e1 : w4.cell? ⟨w2.heap.size, 1, none⟩ = some (.int .u16 r0) := cell_of_row w4 _ 1 _ _ _ j4
  have e2 : w4.cell? ⟨w2.heap.size, 2, none⟩ = some (.int .u16 r1) := cell_of_row w4 _ 2 _ _ _ j4
  have e3 : w4.cell? ⟨w2.heap.size, 3, none⟩ = some (.int .u16 r2) := cell_of_row w4 _ 3 _ _ _ j4
  have e4 : w4.cell? ⟨w2.heap.size, 4, none⟩ = some (.int .u16 r3) := cell_of_row w4 _ 4 _ _ _ j4
  have e5 : w4.cell? ⟨w2.heap.size, 5, none⟩ = some (.int .u16 r4) := cell_of_row w4 _ 5 _ _ _ j4
  have e6 : w4.cell? ⟨w2.heap.size, 6, none⟩ = some (.int .u16 r5) := cell_of_row w4 _ 6 _ _ _ j4
  have e7 : w4.cell? ⟨w2.heap.size, 7, none⟩ = some (.int .u16 r6) := cell_of_row w4 _ 7 _ _ _ j4
  have e8 : w4.cell? ⟨w2.heap.size, 8, none⟩ = some (.int .u16 r7) := cell_of_row w4 _ 8 _ _ _ j4
  have e9 : w4.cell? ⟨w2.heap.size, 9, none⟩ = some (.int .u16 r8) := cell_of_row w4 _ 9 _ _ _ j4
  have e10 : w4.cell? ⟨w2.heap.size, 10, none⟩ = some (.int .u16 r9) := cell_of_row w4 _ 10 _ _ _ j4
  have e11 : w4.cell? ⟨w2.heap.size, 11, none⟩ = some (.int .u16 r10) := cell_of_row w4 _ 11 _ _ _ j4
  have e12 : w4.cell? ⟨w2.heap.size, 12, none⟩ = some (.int .u16 r11) := cell_of_row w4 _ 12 _ _ _ j4
  have e13 : w4.cell? ⟨w2.heap.size, 13, none⟩ = some (.int .u16 r12) := cell_of_row w4 _ 13 _ _ _ j4
  have f4 : ∀ o, w4.frozen? ⟨w.heap.size, o, none⟩ = false := fun o => by simp [World.frozen?, k4]
  clear hb4 hown4 hr3 k3 j3 hb3 hlt3 hlt3' k4 j4
  have heq := equal_any A4 A n4 c4 32 c ys zs w4 hrow4 hr4 Hbt.out HB.out
  rw [Hsm.out] at heq
  have Heq := Lib.hid heq
  clear heq hrow4 hr4
  cases hR : mpRight zs with
  | true =>
    rw [hR] at Heq
    have HT := Lib.hid (mpTold_yes hR)
    clear hR
    go_wp2_with fail
    refine Heq.out.mono ?_
    rintro e w' ⟨rfl, rfl⟩
    go_wp2
    refine bodyPost_ret (v := mpR ⟨g, r0, r1, r2, r3, r4, r5, r6, r7, r8, r9, r10, r11, r12⟩ 0) (by simp [results, Try.results27, go_sem, d0, d1, d2, d3, d4, d5, d6, d7, d8, d9, d10, d11, d12, d13]) rfl ⟨by rw [HT.out, Hm.out], ?_⟩
    iterate 14 refine below_set (Nat.le_refl _) _ _ ?_
    exact hB4
  | false =>
    rw [hR] at Heq
    have HT := Lib.hid (mpTold_no hR)
    clear hR
    go_wp2_with fail
    refine Heq.out.mono ?_
    rintro e w' ⟨rfl, rfl⟩
    go_wp2
    refine bodyPost_ret (v := mpR mp0 2) (by simp [results, Try.results27, go_sem, mp0, d0, d1, d2, d3, d4, d5, d6, d7, d8, d9, d10, d11, d12, d13]) rfl ⟨by rw [HT.out], ?_⟩
    iterate 14 refine below_set (Nat.le_refl _) _ _ ?_
    exact hB4

theorem mparse_any (A : Option Addr) (n c : Nat) (zs : List Int) (w : World) (hr : Row w A n (cellsOf .u8 zs)) (hB : Bytes zs) :
    Calls Try.prog 27 #[.slice A n c] w (Ret w (mpTold zs)) := by
  by_cases h : n = 32
  · exact mparse_32 A n c zs w hr hB h
  · rw [mpTold_no (mpRight_len (by rw [hr.len]; exact h))]
    exact mparse_len A n c w h

end Go.Proofs.Ytmpicokeenodbaa
