/- What the document's Zeroed and Same of tables answer, as contracts over this seat's translation. -/
import Derived.Test.YtlkidnacfljpkaaParse
import Derived.Test.YtlkidnacfljpkaaGot
import Derived.Deep.RegionHeld3
import Derived.Deep.DeepCutAuto
namespace Go.Proofs.Ytlkidnacfljpkaa
open Go.RowKit
set_option linter.unusedVariables false

theorem join_one {A : Option Addr} {n c : Nat} {x : List Int} : joined [⟨A, n, c, x⟩] = x := by simp [joined]
theorem join_three' {A B C : Option Addr} {n1 n2 n3 c1 c2 c3 : Nat} {x y z : List Int} : joined [⟨A, n1, c1, x⟩, ⟨B, n2, c2, y⟩, ⟨C, n3, c3, z⟩] = x ++ (y ++ z) := by simp [joined]

theorem rzeroed_no (t : Tab) (w : World) (h : t.ok w) (hb : adjB t.tag.toList t.zs = false) : Calls Try.prog 12 #[tabV t] w (RetB w t.zs) := by
  have hA : Below w.heap.size w (w.alloc (.cells #[.string t.tag, .slice t.A t.n t.c] 36)) := (Below.refl _ _).alloc (Nat.le_refl _) _
  have hl := h.len
  have hg := (Got.nil (w.alloc (.cells #[.string t.tag, .slice t.A t.n t.c] 36))).put (c := t.c) (h.1.below hA)
  have hn := h.2.2
  obtain ⟨tg, A, n, c, zs⟩ := t
  simp only at hA hg hb hl hn
  have hor : (tg.toList == [104, 101, 97, 100]) = false ∨ (tg.toList == [104, 101, 97, 100]) = true ∧ decide (12 ≤ (n : Int)) = false := by
    unfold adjB at hb
    simp only [decide_eq_false_iff_not] at hb
    by_cases e : tg.toList = headL
    · refine .inr ⟨by rw [e]; rfl, ?_⟩
      rw [decide_eq_false_iff_not]
      intro h12
      exact hb ⟨e, by omega⟩
    · refine .inl ?_
      rw [beq_eq_false_iff_ne]
      exact e
  have HL := Lib.hid hl
  have hsz : w.heap.size + 1 = (w.alloc (.cells #[.string tg, .slice A n c] 36)).heap.size := by simp
  have Hsz := Lib.hid hsz
  clear h hb hl hsz
  rcases hor with e1 | ⟨e1, e2⟩
  all_goals
    go_enter Try.func12, Try.ntmps12
    go_wp2_with fail
    generalize w.alloc _ = V at *
    refine (joinN_any V _ [⟨A, n, c, zs⟩] 1 _ rfl Hsz.out rfl hg (by omega) (by rw [join_one, HL.out]; omega)).mono ?_
    rintro e w1 ⟨A1, n1, c1, rfl, ho, hb1⟩
    rw [join_one] at ho
    go_wp2
    go_ret
    exact ⟨A1, n1, c1, rfl, ho.mono hA.size, hA.trans (hb1.mono hA.size)⟩

theorem kept_cell {V0 W w' : World} {B b o : Nat} {v : Value} (_ : Below B V0 W.drew) (hb : Below W.drew.heap.size W.drew w') (hc : W.cell? ⟨b, o, none⟩ = some v) : w'.cell? ⟨b, o, none⟩ = some v :=
  (World.cell?_of_block (w := W.drew) (a := ⟨b, o, none⟩) (hb.block b (World.block_lt_of_cell? W _ hc))).trans hc

theorem sl3_ok {w : World} {A D : Option Addr} {n c c' : Nat} {zs : List Int} {b : Nat} (h : Row w A n (cellsOf .u8 zs)) (h12 : 12 ≤ n) (hD : 0 < n - 12 → D = A.map (·.add 12)) (hz : Row w (some ⟨b, 0, none⟩) 4 (cellsOf .u8 (List.replicate 4 0))) :
    ∀ p ∈ [(⟨A, 8, c, zs.take 8⟩ : BsV), ⟨some ⟨b, 0, none⟩, 4, 4, List.replicate 4 0⟩, ⟨D, n - 12, c', zs.drop 12⟩], p.ok w := by
  intro p hp
  simp only [List.mem_cons, List.not_mem_nil, or_false] at hp
  rcases hp with rfl | rfl | rfl
  · have := h.take (k := 8) (by omega)
    rw [cellsOf_take] at this
    exact this
  · exact hz
  · have := h.drop 12
    rw [cellsOf_drop] at this
    rcases Nat.eq_zero_or_pos (n - 12) with h0 | h0
    · have hl := h.len
      show Row w D (n - 12) (cellsOf .u8 (zs.drop 12))
      rw [h0, List.drop_of_length_le (by omega)]
      exact Row.empty _ _
    · show Row w D (n - 12) (cellsOf .u8 (zs.drop 12))
      rw [hD h0]
      exact this

set_option maxHeartbeats 2000000 in
theorem rzeroed_yes (t : Tab) (w : World) (h : t.ok w) (hc : t.n ≤ t.c) (hb : adjB t.tag.toList t.zs = true) : Calls Try.prog 12 #[tabV t] w (RetB w (zeroedL t.zs 8 4)) := by
  have hA : Below w.heap.size w (w.alloc (.cells #[.string t.tag, .slice t.A t.n t.c] 36)) := (Below.refl _ _).alloc (Nat.le_refl _) _
  have hk := heap_alloc_new w (.cells #[.string t.tag, .slice t.A t.n t.c] 36)
  have hl := h.len
  have hr := h.1.below hA
  have hn := h.2.2
  obtain ⟨tg, A, n, c, zs⟩ := t
  simp only at hA hb hl hn hr hk hc
  have hsz : w.heap.size + 1 = (w.alloc (.cells #[.string tg, .slice A n c] 36)).heap.size := by simp
  have h12 : tg.toList = headL ∧ 12 ≤ n := by unfold adjB at hb; simp at hb; exact ⟨hb.1, by omega⟩
  have e1 : (tg.toList == [104, 101, 97, 100]) = true := by rw [h12.1]; rfl
  have e2 : decide (12 ≤ (n : Int)) = true := by simp; omega
  obtain ⟨fg, foff, rfl, _⟩ := hr.2 (show 0 < n by omega)
  have c1 : (8 : Int) ≤ (c : Int) := by omega
  have c2 : (12 : Int) ≤ (n : Int) := by omega
  have c3 : (n : Int) ≤ (c : Int) := by omega
  have hmk := fun W => make_bytes 4 4 rfl (by omega) W
  have HL := Lib.hid hl
  have h12' := h12.2
  have Hsz := Lib.hid hsz
  clear h hb hl h12 hsz
  by_cases hc12 : c = 12
  · subst hc12
    obtain rfl : n = 12 := by omega
    clear c1 c2 c3
    go_enter Try.func12, Try.ntmps12
    go_upto_region 2 with fail
    generalize w.alloc _ = V at *
    have r1 : V.cell? ⟨w.heap.size, 1, none⟩ = some (.slice (some ⟨fg, foff, none⟩) 12 12) := cell_of_row V _ 1 _ _ _ hk
    have hA2 : Below V.heap.size V (V.alloc (.cells (cellsOf .u8 [0, 0, 0, 0]).toArray 5)) := (Below.refl _ _).alloc (Nat.le_refl _) _
    have hz := (row_lit V .u8 5 [0, 0, 0, 0] 4 rfl).drew
    have hr2 := (hr.below hA2).drew
    have hB2 := (hA.trans (hA2.mono hA.size)).drew
    have hJ := joinN_any (V.alloc (.cells (cellsOf .u8 [0, 0, 0, 0]).toArray 5)).drew (V.heap.size + 1) [⟨some ⟨fg, foff, none⟩, 8, 12, zs.take 8⟩, ⟨some ⟨V.heap.size, 0, none⟩, 4, 4, List.replicate 4 0⟩, ⟨some ⟨fg, foff, none⟩, 12 - 12, 0, zs.drop 12⟩] 3 _ rfl (by simp) rfl (sl3_ok hr2 h12' (fun h => absurd h (by omega)) hz) (by omega) (by rw [join_three']; simp; have := HL.out; omega)
    rw [join_three'] at hJ
    have HJ := Lib.hid hJ
    have HB2 := Lib.hid hB2
    clear hk hJ hz hr2 hA2 hB2
    go_region_held3 (fun w' => w'.cell? ⟨w.heap.size, 1, none⟩ = some (.slice (some ⟨fg, foff, none⟩) 12 12))
      (first | exact r1 | exact Lib.cell?_alloc_some _ r1 | exact Lib.cell?_alloc_some _ (Lib.cell?_alloc_some _ r1) | exact kept_cell HB2.out hb (Lib.cell?_alloc_some _ r1))
      (first | (go_at_call 17; refine HJ.out.mono ?_; rintro e w2 ⟨A2, n2, k2, rfl, ho, hb⟩))
    have HO := Lib.hid (ho.mono HB2.out.size)
    have HBB := Lib.hid (HB2.out.trans (Below.mono hb HB2.out.size))
    clear ho hb
    go_wp2
    go_ret
    exact ⟨A2, n2, k2, rfl, HO.out, HBB.out⟩
  · have c4 : (12 : Int) < (c : Int) := by omega
    have c5 : ((c : Int) - 12 == 0) = false := by simp; omega
    go_enter Try.func12, Try.ntmps12
    go_upto_region 2 with fail
    generalize w.alloc _ = V at *
    have r1 : V.cell? ⟨w.heap.size, 1, none⟩ = some (.slice (some ⟨fg, foff, none⟩) n c) := cell_of_row V _ 1 _ _ _ hk
    have hA2 : Below V.heap.size V (V.alloc (.cells (cellsOf .u8 [0, 0, 0, 0]).toArray 5)) := (Below.refl _ _).alloc (Nat.le_refl _) _
    have hz := (row_lit V .u8 5 [0, 0, 0, 0] 4 rfl).drew
    have hr2 := (hr.below hA2).drew
    have hB2 := (hA.trans (hA2.mono hA.size)).drew
    have hJ := joinN_any (V.alloc (.cells (cellsOf .u8 [0, 0, 0, 0]).toArray 5)).drew (V.heap.size + 1) [⟨some ⟨fg, foff, none⟩, 8, c, zs.take 8⟩, ⟨some ⟨V.heap.size, 0, none⟩, 4, 4, List.replicate 4 0⟩, ⟨some ⟨fg, foff + 12, none⟩, n - 12, c - 12, zs.drop 12⟩] 3 _ rfl (by simp) rfl (sl3_ok hr2 h12' (fun _ => by simp [Addr.add_lit]) hz) (by omega) (by rw [join_three']; simp; have := HL.out; omega)
    rw [join_three'] at hJ
    have HJ := Lib.hid hJ
    have HB2 := Lib.hid hB2
    clear hk hJ hz hr2 hA2 hB2
    go_region_held3 (fun w' => w'.cell? ⟨w.heap.size, 1, none⟩ = some (.slice (some ⟨fg, foff, none⟩) n c))
      (first | exact r1 | exact Lib.cell?_alloc_some _ r1 | exact Lib.cell?_alloc_some _ (Lib.cell?_alloc_some _ r1) | exact kept_cell HB2.out hb (Lib.cell?_alloc_some _ r1))
      (first | (go_at_call 17; refine HJ.out.mono ?_; rintro e w2 ⟨A2, n2, k2, rfl, ho, hb⟩))
    have HO := Lib.hid (ho.mono HB2.out.size)
    have HBB := Lib.hid (HB2.out.trans (Below.mono hb HB2.out.size))
    clear ho hb
    go_wp2
    go_ret
    exact ⟨A2, n2, k2, rfl, HO.out, HBB.out⟩

theorem rzeroed_any (t : Tab) (w : World) (h : t.ok w) (hc : t.n ≤ t.c) : Calls Try.prog 12 #[tabV t] w (RetB w (stillL t.tag.toList t.zs)) := by
  unfold stillL
  cases hb : adjB t.tag.toList t.zs with
  | true => rw [if_pos rfl]; exact rzeroed_yes t w h hc hb
  | false => rw [if_neg (by decide)]; exact rzeroed_no t w h hb

end Go.Proofs.Ytlkidnacfljpkaa
