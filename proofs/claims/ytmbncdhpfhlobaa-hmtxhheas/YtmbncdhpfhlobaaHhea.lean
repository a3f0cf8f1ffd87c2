/- What hmtx.Hhea's own methods and the document's Hhea answer, as contracts over this seat's translation. -/
import Derived.Test.YtmbncdhpfhlobaaWrBox
import Derived.Test.YtmbncdhpfhlobaaLocaRef2
namespace Go.Proofs.Ytmbncdhpfhlobaa
open Go.RowKit
set_option linter.unusedVariables false

/-- Sixteen numbers, and how many are told whole. -/
structure Hh where
  f0 : Int
  f1 : Int
  f2 : Int
  f3 : Int
  f4 : Int
  f5 : Int
  f6 : Int
  f7 : Int
  f8 : Int
  f9 : Int
  f10 : Int
  f11 : Int
  f12 : Int
  f13 : Int
  f14 : Int
  f15 : Int
  lg : Int
  deriving DecidableEq

def Hh.front (h : Hh) : List Int := [h.f0, h.f1, h.f2, h.f3, h.f4, h.f5, h.f6, h.f7, h.f8, h.f9, h.f10, h.f11, h.f12, h.f13, h.f14, h.f15]
abbrev hhC (h : Hh) : Array Value := #[.int .u16 h.f0, .int .u16 h.f1, .int .u16 h.f2, .int .u16 h.f3, .int .u16 h.f4, .int .u16 h.f5, .int .u16 h.f6, .int .u16 h.f7, .int .u16 h.f8, .int .u16 h.f9, .int .u16 h.f10, .int .u16 h.f11, .int .u16 h.f12, .int .u16 h.f13, .int .u16 h.f14, .int .u16 h.f15, .int .u16 h.lg]
abbrev hfC (h : Hh) : Array Value := #[.int .u16 h.f0, .int .u16 h.f1, .int .u16 h.f2, .int .u16 h.f3, .int .u16 h.f4, .int .u16 h.f5, .int .u16 h.f6, .int .u16 h.f7, .int .u16 h.f8, .int .u16 h.f9, .int .u16 h.f10, .int .u16 h.f11, .int .u16 h.f12, .int .u16 h.f13, .int .u16 h.f14, .int .u16 h.f15]
abbrev hhV (h : Hh) : Value := .agg (hhC h)
def u16H (l : List Int) : Prop := ∀ x ∈ l, 0 ≤ x ∧ x < 65536
def Hh.ok (h : Hh) : Prop := (0 ≤ h.lg ∧ h.lg < 65536) ∧ u16H h.front
/-- May a font have these? Its bytes. -/
def hpos (h : Hh) : Bool := decide (0 < h.lg ∧ h.f0 = 0 ∧ h.f15 = 0)
def hhL (h : Hh) : List Int := b2 1 ++ h.front.flatMap b2 ++ b2 h.lg
def hhB (h : Hh) : List Int := if hpos h = true then hhL h else []

theorem front_len (h : Hh) : h.front.length = 16 := rfl
theorem flatb2_len (l : List Int) : (l.flatMap b2).length = 2 * l.length := by
  induction l with
  | nil => rfl
  | cons x l ih => rw [List.flatMap_cons, List.length_append, ih, List.length_cons]; simp [b2]; omega
theorem hhL_len (h : Hh) : (hhL h).length = 36 := by
  unfold hhL
  rw [List.length_append, List.length_append, flatb2_len, front_len]
  rfl
theorem flatb2_snoc {l : List Int} {k : Nat} {x : Int} (h : l[k]? = some x) : (l.take (k + 1)).flatMap b2 = (l.take k).flatMap b2 ++ b2 x := by
  rw [List.take_add_one, h]
  simp

set_option maxRecDepth 100000 in
theorem hposs_any (h : Hh) (w : World) : Calls Try.prog 46 #[hhV h] w (Ret w (.bool (hpos h))) := by
  have hA : Below w.heap.size w (w.alloc (.cells (hhC h) 52)) := (Below.refl _ _).alloc (Nat.le_refl _) _
  have HA := Lib.hid hA
  clear hA
  by_cases h1 : 0 < h.lg
  · by_cases h2 : h.f0 = 0
    · by_cases h3 : h.f15 = 0
      · have HP : Hid (hpos h = true) := decide_eq_true ⟨h1, h2, h3⟩
        obtain ⟨f0, f1, f2, f3, f4, f5, f6, f7, f8, f9, f10, f11, f12, f13, f14, f15, lg⟩ := h
        simp only at h1 h2 h3 HA
        subst h2 h3
        go_enter Try.func46, Try.ntmps46
        go_wp2
        go_ret
        exact ⟨by rw [HP.out]; rfl, HA.out⟩
      · have HP : Hid (hpos h = false) := decide_eq_false (fun h => h3 h.2.2)
        obtain ⟨f0, f1, f2, f3, f4, f5, f6, f7, f8, f9, f10, f11, f12, f13, f14, f15, lg⟩ := h
        simp only at h1 h2 h3 HA
        subst h2
        have h3' : (f15 == 0) = false := by simpa using h3
        clear h3
        go_enter Try.func46, Try.ntmps46
        go_wp2
        go_ret
        exact ⟨by rw [HP.out]; rfl, HA.out⟩
    · have HP : Hid (hpos h = false) := decide_eq_false (fun h => h2 h.2.1)
      obtain ⟨f0, f1, f2, f3, f4, f5, f6, f7, f8, f9, f10, f11, f12, f13, f14, f15, lg⟩ := h
      simp only at h1 h2 HA
      have h2' : (f0 == 0) = false := by simpa using h2
      clear h2
      go_enter Try.func46, Try.ntmps46
      go_wp2
      go_ret
      exact ⟨by rw [HP.out]; rfl, HA.out⟩
  · have HP : Hid (hpos h = false) := decide_eq_false (fun h => h1 h.1)
    obtain ⟨f0, f1, f2, f3, f4, f5, f6, f7, f8, f9, f10, f11, f12, f13, f14, f15, lg⟩ := h
    simp only at h1 HA
    go_enter Try.func46, Try.ntmps46
    go_wp2
    go_ret
    exact ⟨by rw [HP.out]; rfl, HA.out⟩

set_option maxRecDepth 100000 in
theorem hbytes_none (h : Hh) (w : World) (h0 : hpos h = false) : Calls Try.prog 25 #[hhV h] w (RetB w []) := by
  have hA : Below w.heap.size w (w.alloc (.cells (hhC h) 52)) := (Below.refl _ _).alloc (Nat.le_refl _) _
  have Hp := Lib.hid (hposs_any h)
  have H0 := Lib.hid h0
  clear h0
  obtain ⟨f0, f1, f2, f3, f4, f5, f6, f7, f8, f9, f10, f11, f12, f13, f14, f15, lg⟩ := h
  simp only [hhC] at hA
  go_enter Try.func25, Try.ntmps25
  go_wp2_with fail
  generalize w.alloc _ = V at *
  refine (Hp.out V).mono ?_
  rintro e w1 ⟨rfl, hb1⟩
  rw [H0.out]
  go_wp2
  go_ret
  exact ⟨none, 0, 0, rfl, Own.nil _ _ _ _, hA.trans (hb1.mono hA.size)⟩

set_option maxRecDepth 100000 in
set_option maxHeartbeats 4000000 in
theorem hbytes_any (h : Hh) (w : World) (hm : h.ok) (h0 : hpos h = true) : Calls Try.prog 25 #[hhV h] w (RetB w (hhL h)) := by
  have hA : Below w.heap.size w (w.alloc (.cells (hhC h) 52)) := (Below.refl _ _).alloc (Nat.le_refl _) _
  have hk := heap_alloc_new w (.cells (hhC h) 52)
  have hL : hhL h = b2 1 ++ h.front.flatMap b2 ++ b2 h.lg := rfl
  have HL := Lib.hid hL
  have hr := hm.2
  obtain ⟨⟨g0, g1⟩, _⟩ := hm
  have HR := Lib.hid hr
  have Hp := Lib.hid (hposs_any h)
  have H0 := Lib.hid h0
  have Hlen := Lib.hid (hhL_len h)
  generalize hrest : h.front = rs at *
  have Hrs := Lib.hid hrest
  clear hL hr hrest h0
  obtain ⟨f0, f1, f2, f3, f4, f5, f6, f7, f8, f9, f10, f11, f12, f13, f14, f15, lg⟩ := h
  simp only [hhC] at hA hk g0 g1 HL
  go_enter Try.func25, Try.ntmps25
  go_wp2_with fail
  generalize w.alloc _ = V at *
  refine (Hp.out V).mono ?_
  rintro e w1 ⟨rfl, hb1⟩
  rw [H0.out]
  have hk1 := kept_block hk hb1
  have hB1 := hA.trans (hb1.mono hA.size)
  have hs : StB w (w1.alloc (.cells #[.slice none 0 0] 79)) w1.heap.size [] w.heap.size #[.int .u16 f0, .int .u16 f1, .int .u16 f2, .int .u16 f3, .int .u16 f4, .int .u16 f5, .int .u16 f6, .int .u16 f7, .int .u16 f8, .int .u16 f9, .int .u16 f10, .int .u16 f11, .int .u16 f12, .int .u16 f13, .int .u16 f14, .int .u16 f15, .int .u16 lg] 52 := ⟨(wr_new w1).mono hB1.size, hB1.alloc hB1.size _, kept_alloc hk1 _, by decide, by decide⟩
  clear hk hA hb1 hk1 hB1
  go_wp2_with fail
  generalize w1.heap.size = b at *
  refine (wu16_any _ _ _ 1 _ hs.wr_ (by simp) (by omega) (by omega)).mono ?_
  rintro e w2 ⟨rfl, h2, t2⟩
  have hs2 := hs.turned h2 t2
  clear hs h2 t2
  rw [List.nil_append] at hs2
  have c0 := hs2.cell 0 _ rfl
  have c1 := hs2.cell 1 _ rfl
  have c2 := hs2.cell 2 _ rfl
  have c3 := hs2.cell 3 _ rfl
  have c4 := hs2.cell 4 _ rfl
  have c5 := hs2.cell 5 _ rfl
  have c6 := hs2.cell 6 _ rfl
  have c7 := hs2.cell 7 _ rfl
  have c8 := hs2.cell 8 _ rfl
  have c9 := hs2.cell 9 _ rfl
  have c10 := hs2.cell 10 _ rfl
  have c11 := hs2.cell 11 _ rfl
  have c12 := hs2.cell 12 _ rfl
  have c13 := hs2.cell 13 _ rfl
  have c14 := hs2.cell 14 _ rfl
  have c15 := hs2.cell 15 _ rfl
  have c16 := hs2.cell 16 _ rfl
  have HS := Lib.hid hs2
  clear hs2
  go_wp2
  clear c0 c1 c2 c3 c4 c5 c6 c7 c8 c9 c10 c11 c12 c13 c14 c15 c16
  go_loopw [12] (fun i wr => ∃ k : Nat, k ≤ 16 ∧ i = .int .i64 k ∧ StB w wr b (b2 1 ++ (rs.take k).flatMap b2) w.heap.size #[.int .u16 f0, .int .u16 f1, .int .u16 f2, .int .u16 f3, .int .u16 f4, .int .u16 f5, .int .u16 f6, .int .u16 f7, .int .u16 f8, .int .u16 f9, .int .u16 f10, .int .u16 f11, .int .u16 f12, .int .u16 f13, .int .u16 f14, .int .u16 f15, .int .u16 lg] 52) (fun i _ => 16 - (intOf i).toNat)
  case atStart => exact ⟨0, Nat.zero_le _, rfl, by simpa using HS.out⟩
  case round =>
    clear HS
    obtain ⟨k, hk, rfl, hs⟩ := hrel
    by_cases hlt : k < 16
    · have hlen : (b2 1 ++ (rs.take k).flatMap b2).length ≤ 100 := by
        rw [List.length_append, flatb2_len, List.length_take]
        simp [b2]
        omega
      obtain ⟨x, hx⟩ := get_some (zs := rs) (k := k) (by rw [← Hrs.out]; exact hlt)
      obtain ⟨x0, x1⟩ := HR.out x (List.mem_of_getElem? hx)
      have hx2 := flatb2_snoc hx
      have hix := run_index_arr (P := Try.prog) wr 50 28 16 #[.int .u16 f0, .int .u16 f1, .int .u16 f2, .int .u16 f3, .int .u16 f4, .int .u16 f5, .int .u16 f6, .int .u16 f7, .int .u16 f8, .int .u16 f9, .int .u16 f10, .int .u16 f11, .int .u16 f12, .int .u16 f13, .int .u16 f14, .int .u16 f15] k (.int .u16 x) Try.underlying50 (by simp [go_sem]) (by simp [go_sem]) hlt (by
        have h := cellsOf_get (k := .u16) hx
        rw [← Hrs.out] at h
        simpa [Hh.front, cellsOf] using h)
      have Hx := Lib.hid hx2
      have Hlen := Lib.hid hlen
      clear hx hx2 hlen
      go_wp2_with fail
      refine (wu16_any _ _ _ _ _ hs.wr_ (by have := Hlen.out; omega) x0 x1).mono ?_
      rintro e w3 ⟨rfl, h3, t3⟩
      have hs3 := hs.turned h3 t3
      rw [List.append_assoc, ← Hx.out] at hs3
      clear t3 h3 hs hix
      go_wp2
      go_roundw
      case rel => exact ⟨k + 1, by omega, by go_num, hs3⟩
      case measure => simp [intOf]; omega
    · have hE : rs.take k = rs := by rw [← Hrs.out]; exact List.take_of_length_le (by simp [Hh.front]; omega)
      rw [hE] at hs
      have hlen : (b2 1 ++ rs.flatMap b2).length ≤ 100 := by
        rw [List.length_append, flatb2_len, ← Hrs.out]
        simp [b2, Hh.front]
      have Hl2 := Lib.hid hlen
      have c16 := hs.cell 16 _ rfl
      clear hE hlen
      go_wp2_with fail
      refine (wu16_any _ _ _ lg _ hs.wr_ (by have := Hl2.out; omega) g0 g1).mono ?_
      rintro e w3 ⟨rfl, h3, t3⟩
      have hs3 := hs.turned h3 t3
      rw [← HL.out] at hs3
      clear t3 h3 hs c16
      go_wp2_with fail
      refine (done_any _ _ _ _ hs3.wr_ (by rw [Hlen.out]; omega)).mono ?_
      rintro e w5 ⟨A5, n5, c5, rfl, hown, b5⟩
      have hz := hs3.size
      have hb := hs3.bel
      go_wp2
      go_ret
      exact ⟨A5, n5, c5, rfl, hown.mono hz, hb.trans (b5.mono hz)⟩

theorem hbytes_all (h : Hh) (w : World) (hm : h.ok) : Calls Try.prog 25 #[hhV h] w (RetB w (hhB h)) := by
  unfold hhB
  cases h0 : hpos h with
  | true => rw [if_pos rfl]; exact hbytes_any h w hm h0
  | false => rw [if_neg (by decide)]; exact hbytes_none h w h0

set_option maxRecDepth 100000 in
set_option maxHeartbeats 4000000 in
theorem rhhea_any (h : Hh) (w : World) (hm : h.ok) : Calls Try.prog 27 #[.agg (hfC h), .int .u16 h.lg] w (RetB w (hhL h)) := by
  have hA : Below w.heap.size w (w.alloc (.cells (hfC h) 50)) := (Below.refl _ _).alloc (Nat.le_refl _) _
  have hk := heap_alloc_new w (.cells (hfC h) 50)
  have hL : hhL h = b2 1 ++ h.front.flatMap b2 ++ b2 h.lg := rfl
  have HL := Lib.hid hL
  have hr := hm.2
  obtain ⟨⟨g0, g1⟩, _⟩ := hm
  have HR := Lib.hid hr
  generalize hrest : h.front = rs at *
  have Hrs := Lib.hid hrest
  clear hL hr hrest
  obtain ⟨f0, f1, f2, f3, f4, f5, f6, f7, f8, f9, f10, f11, f12, f13, f14, f15, lg⟩ := h
  simp only [hfC] at hA hk g0 g1 HL
  go_enter Try.func27, Try.ntmps27
  go_wp2_with fail
  generalize w.alloc _ = V at *
  refine (b2_any 1 _ (by omega) (by omega)).mono ?_
  rintro e w1 ⟨A1, n1, c1, rfl, o1, hb1⟩
  have hk1 := kept_block hk hb1
  have hB1 := hA.trans (hb1.mono hA.size)
  have o1' := o1.mono hA.size
  clear hk hA hb1 o1
  have c0 : w1.cell? ⟨w.heap.size, 0, none⟩ = some (.int .u16 f0) := cell_of_row w1 _ 0 _ _ _ hk1
  have c1 : w1.cell? ⟨w.heap.size, 1, none⟩ = some (.int .u16 f1) := cell_of_row w1 _ 1 _ _ _ hk1
  have c2 : w1.cell? ⟨w.heap.size, 2, none⟩ = some (.int .u16 f2) := cell_of_row w1 _ 2 _ _ _ hk1
  have c3 : w1.cell? ⟨w.heap.size, 3, none⟩ = some (.int .u16 f3) := cell_of_row w1 _ 3 _ _ _ hk1
  have c4 : w1.cell? ⟨w.heap.size, 4, none⟩ = some (.int .u16 f4) := cell_of_row w1 _ 4 _ _ _ hk1
  have c5 : w1.cell? ⟨w.heap.size, 5, none⟩ = some (.int .u16 f5) := cell_of_row w1 _ 5 _ _ _ hk1
  have c6 : w1.cell? ⟨w.heap.size, 6, none⟩ = some (.int .u16 f6) := cell_of_row w1 _ 6 _ _ _ hk1
  have c7 : w1.cell? ⟨w.heap.size, 7, none⟩ = some (.int .u16 f7) := cell_of_row w1 _ 7 _ _ _ hk1
  have c8 : w1.cell? ⟨w.heap.size, 8, none⟩ = some (.int .u16 f8) := cell_of_row w1 _ 8 _ _ _ hk1
  have c9 : w1.cell? ⟨w.heap.size, 9, none⟩ = some (.int .u16 f9) := cell_of_row w1 _ 9 _ _ _ hk1
  have c10 : w1.cell? ⟨w.heap.size, 10, none⟩ = some (.int .u16 f10) := cell_of_row w1 _ 10 _ _ _ hk1
  have c11 : w1.cell? ⟨w.heap.size, 11, none⟩ = some (.int .u16 f11) := cell_of_row w1 _ 11 _ _ _ hk1
  have c12 : w1.cell? ⟨w.heap.size, 12, none⟩ = some (.int .u16 f12) := cell_of_row w1 _ 12 _ _ _ hk1
  have c13 : w1.cell? ⟨w.heap.size, 13, none⟩ = some (.int .u16 f13) := cell_of_row w1 _ 13 _ _ _ hk1
  have c14 : w1.cell? ⟨w.heap.size, 14, none⟩ = some (.int .u16 f14) := cell_of_row w1 _ 14 _ _ _ hk1
  have c15 : w1.cell? ⟨w.heap.size, 15, none⟩ = some (.int .u16 f15) := cell_of_row w1 _ 15 _ _ _ hk1
  clear hk1
  go_wp2
  clear c0 c1 c2 c3 c4 c5 c6 c7 c8 c9 c10 c11 c12 c13 c14 c15
  go_loopw [5, 10] (fun v i wr => ∃ (k : Nat) (A2 : Option Addr) (n2 c2 : Nat), k ≤ 16 ∧ i = .int .i64 k ∧ v = .slice A2 n2 c2 ∧ OwnB wr w.heap.size A2 n2 c2 (b2 1 ++ (rs.take k).flatMap b2) ∧ Below w.heap.size w wr) (fun _ i _ => 16 - (intOf i).toNat)
  case atStart => exact ⟨0, A1, n1, c1, Nat.zero_le _, rfl, rfl, by simpa using o1', hB1⟩
  case round =>
    clear o1' hB1
    obtain ⟨k, A2, n2, c2, hk, rfl, rfl, hown, hbel⟩ := hrel
    have hn2 : n2 ≤ 100 := by
      have h := hown.len
      rw [List.length_append, flatb2_len, List.length_take] at h
      simp [b2] at h
      omega
    have HL2 := Lib.hid hown.len
    by_cases hlt : k < 16
    · obtain ⟨x, hx⟩ := get_some (zs := rs) (k := k) (by rw [← Hrs.out]; exact hlt)
      obtain ⟨x0, x1⟩ := HR.out x (List.mem_of_getElem? hx)
      have hx2 := flatb2_snoc hx
      have hix := run_index_arr (P := Try.prog) wr 50 28 16 #[.int .u16 f0, .int .u16 f1, .int .u16 f2, .int .u16 f3, .int .u16 f4, .int .u16 f5, .int .u16 f6, .int .u16 f7, .int .u16 f8, .int .u16 f9, .int .u16 f10, .int .u16 f11, .int .u16 f12, .int .u16 f13, .int .u16 f14, .int .u16 f15] k (.int .u16 x) Try.underlying50 (by simp [go_sem]) (by simp [go_sem]) hlt (by
        have h := cellsOf_get (k := .u16) hx
        rw [← Hrs.out] at h
        simpa [Hh.front, cellsOf] using h)
      have Hx := Lib.hid hx2
      clear hx hx2
      go_wp2_with fail
      refine (b2_any x _ (by omega) (by omega)).mono ?_
      rintro e w3 ⟨A3, n3, c3, rfl, o3, hb3⟩
      have hown3 := hown.below hb3
      have hbel3 := hbel.trans (hb3.mono hbel.size)
      clear hown hbel hb3 hix
      go_wp2_with fail
      with_reducible refine (join2_any w3 _ A2 A3 n2 c2 n3 c3 _ _ rfl hown3.row o3.row (by have := HL2.out; simp [b2] at *; omega)).mono ?_
      rintro e w4 ⟨A4, n4, c4, rfl, o4, hb4⟩
      rw [List.append_assoc, ← Hx.out] at o4
      have hown4 := o4.mono hbel3.size
      have hbel4 := hbel3.trans (hb4.mono hbel3.size)
      clear o3 o4 hown3 hbel3 hb4
      go_wp2
      go_roundw
      case rel => exact ⟨k + 1, A4, n4, c4, by omega, by go_num, rfl, hown4, hbel4⟩
      case measure => simp [intOf]; omega
    · have hE : rs.take k = rs := by rw [← Hrs.out]; exact List.take_of_length_le (by simp [Hh.front]; omega)
      rw [hE] at hown HL2
      clear hE
      go_wp2_with fail
      refine (b2_any lg _ (by omega) (by omega)).mono ?_
      rintro e w3 ⟨A3, n3, c3, rfl, o3, hb3⟩
      have hown3 := hown.below hb3
      have hbel3 := hbel.trans (hb3.mono hbel.size)
      clear hown hbel hb3
      go_wp2_with fail
      with_reducible refine (join2_any w3 _ A2 A3 n2 c2 n3 c3 _ _ rfl hown3.row o3.row (by have := HL2.out; simp [b2] at *; omega)).mono ?_
      rintro e w4 ⟨A4, n4, c4, rfl, o4, hb4⟩
      rw [← HL.out] at o4
      go_wp2
      go_ret
      exact ⟨A4, n4, c4, rfl, o4.mono hbel3.size, hbel3.trans (hb4.mono hbel3.size)⟩

end Go.Proofs.Ytmbncdhpfhlobaa
