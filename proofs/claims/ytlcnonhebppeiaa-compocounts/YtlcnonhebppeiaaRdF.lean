/- A Reader whose bytes lie ahead of a block: asking it for a byte keeps them there. -/
import Derived.Test.YtlcnonhebppeiaaSimP
namespace Go.Proofs.Ytlcnonhebppeiaa
open Go.RowKit
set_option linter.unusedVariables false

/-- A Reader's bytes lie ahead of block U. -/
def Far (w : World) (b U : Nat) : Prop := ∀ A n c v1 v2, w.heap[b]? = some (.cells #[.slice A n c, v1, v2] 151 (0, 0)) → ∀ g, blockOf A = some g → g < U
def Fars (w w' : World) (b : Nat) : Prop := ∀ U, Far w b U → Far w' b U
theorem far_of {w w' : World} {b n c n' c' : Nat} {A A' : Option Addr} {v1 v2 v1' v2' : Value} (hb : w.heap[b]? = some (.cells #[.slice A n c, v1, v2] 151 (0, 0))) (hb' : w'.heap[b]? = some (.cells #[.slice A' n' c', v1', v2'] 151 (0, 0))) (hA : ∀ g, blockOf A' = some g → blockOf A = some g) : Fars w w' b := by
  intro U h A2 n2 c2 u1 u2 h2 g hg
  rw [hb'] at h2
  simp only [Option.some.injEq, Obj.cells.injEq, Array.mk.injEq, List.cons.injEq, Value.slice.injEq, and_true] at h2
  obtain ⟨⟨⟨rfl, _⟩, _⟩, _⟩ := h2
  exact h A n c v1 v2 hb g (hA g hg)
theorem Far.keep {w w' : World} {b U : Nat} (h : Far w b U) (hk : w'.heap[b]? = w.heap[b]?) : Far w' b U := fun A n c v1 v2 hh => h A n c v1 v2 (by rw [← hk]; exact hh)
theorem far_size {w : World} {B b : Nat} {zs : List Int} {a : Int} {bad : Bool} (h : Rd w B b zs a bad) : Far w b w.heap.size := by
  obtain ⟨A, n, c, hb, h1, h2, h3, h4⟩ := h
  intro A2 n2 c2 u1 u2 hh g hg
  rw [hb] at hh
  simp only [Option.some.injEq, Obj.cells.injEq, Array.mk.injEq, List.cons.injEq, Value.slice.injEq, and_true] at hh
  obtain ⟨⟨⟨rfl, _⟩, _⟩, _⟩ := hh
  obtain ⟨_, cur, hc⟩ := h4 g hg
  exact lt_of_block hc
theorem farQ_size {w : World} {B b i : Nat} {zs : List Int} (h : RdQ w B b zs i) : Far w b w.heap.size := by
  rcases h with ⟨_, h⟩ | ⟨_, a, _, _, h⟩ <;> exact far_size h
theorem Rd.keepF {w w' : World} {B b U : Nat} {zs : List Int} {a : Int} {bad : Bool} (h : Rd w B b zs a bad) (hf : Far w b U) (hs : w.heap.size ≤ w'.heap.size)
    (hk : ∀ g, g < w.heap.size → (g = b ∨ g < U) → w'.heap[g]? = w.heap[g]?) : Rd w' B b zs a bad := by
  obtain ⟨A, n, c, hb, h1, h2, h3, h4⟩ := h
  have hA := hf A n c _ _ hb
  refine ⟨A, n, c, by rw [hk b (lt_of_block hb) (.inl rfl)]; exact hb, h1, h2.keep hs (fun g e hg => hk g hg (.inr (hA g e))), h3, fun g e => ⟨(h4 g e).1, ?_⟩⟩
  obtain ⟨cur, hc⟩ := (h4 g e).2
  exact ⟨cur, by rw [hk g (lt_of_block hc) (.inr (hA g e))]; exact hc⟩
theorem RdQ.keepF {w w' : World} {B b U i : Nat} {zs : List Int} (h : RdQ w B b zs i) (hf : Far w b U) (hs : w.heap.size ≤ w'.heap.size)
    (hk : ∀ g, g < w.heap.size → (g = b ∨ g < U) → w'.heap[g]? = w.heap[g]?) : RdQ w' B b zs i := by
  rcases h with ⟨hi, h⟩ | ⟨hi, a, a0, a1, h⟩
  · exact .inl ⟨hi, h.keepF hf hs hk⟩
  · exact .inr ⟨hi, a, a0, a1, h.keepF hf hs hk⟩

set_option maxHeartbeats 400000 in
theorem nextF_ok (B b m : Nat) (zs : List Int) (a : Int) (bad : Bool) (w : World) (h : Rd w B b zs a bad) (hm : m ≤ zs.length) (hl : zs.length ≤ 140737488351232) (ha0 : 0 ≤ a) (ha1 : a ≤ 1000000000000000) :
    Calls Try.prog 103 #[.pointer (some ⟨b, 0, none⟩), .int .i64 m] w fun e w' => RetNext w B b (zs.take m) (zs.drop m) (a + m) bad e w' ∧ Fars w w' b := by
  obtain ⟨A, n, c, hb, h1, h2, h3, h4⟩ := h
  have Hn := Lib.hid h2.len
  have hmn : m ≤ n := by have := Hn.out; omega
  have hnl : n ≤ 140737488351232 := by have := Hn.out; omega
  have c0 : w.cell? ⟨b, 0, none⟩ = some (.slice A n c) := cell_of_row w b 0 _ 151 (0, 0) hb
  have c1 : w.cell? ⟨b, 1, none⟩ = some (.int .i64 a) := cell_of_row w b 1 _ 151 (0, 0) hb
  have f0 : ∀ o, w.frozen? ⟨b, o, none⟩ = false := fun o => by simp [World.frozen?, hb]
  have Hb := Lib.hid hb
  have H4 := Lib.hid h4
  clear hb hm hl h4
  go_enter Try.func103, Try.ntmps103
  go_wp2
  all_goals go_ret
  · have h : c = m := by assumption
    exact ⟨rd_next Hb.out h1 H4.out (grown_set (grown_set (World.grownBy.refl w _) _ _) _ _) (set_block (set_block Hb.out 0 _) 1 _) (fun g e => e) (by rw [← cellsOf_take]; exact h2.take hmn)
      (by rw [List.drop_of_length_le (by have := Hn.out; omega), show n - m = 0 by omega]; exact Row.empty _ _) (by omega), far_of Hb.out (set_block (set_block Hb.out 0 _) 1 _) (fun g e => e)⟩
  · exact ⟨rd_next Hb.out h1 H4.out (grown_set (grown_set (World.grownBy.refl w _) _ _) _ _) (set_block (set_block Hb.out 0 _) 1 _) (fun g e => by rw [← blockOf_add A m]; exact e) (by rw [← cellsOf_take]; exact h2.take hmn)
      (by rw [← cellsOf_drop]; exact h2.drop m) (by omega), far_of Hb.out (set_block (set_block Hb.out 0 _) 1 _) (fun g e => by rw [← blockOf_add A m]; exact e)⟩

set_option maxHeartbeats 400000 in
theorem nextF_bad (B b : Nat) (m : Int) (zs : List Int) (a : Int) (bad : Bool) (w : World) (h : Rd w B b zs a bad) (hm : m < 0 ∨ (zs.length : Int) < m) :
    Calls Try.prog 103 #[.pointer (some ⟨b, 0, none⟩), .int .i64 m] w fun e w' => RetNext w B b [] [] a true e w' ∧ Fars w w' b := by
  obtain ⟨A, n, c, hb, h1, h2, h3, h4⟩ := h
  have Hn := Lib.hid h2.len
  have c0 : w.cell? ⟨b, 0, none⟩ = some (.slice A n c) := cell_of_row w b 0 _ 151 (0, 0) hb
  have c1 : w.cell? ⟨b, 1, none⟩ = some (.int .i64 a) := cell_of_row w b 1 _ 151 (0, 0) hb
  have c2 : w.cell? ⟨b, 2, none⟩ = some (.bool bad) := cell_of_row w b 2 _ 151 (0, 0) hb
  have f0 : ∀ o, w.frozen? ⟨b, o, none⟩ = false := fun o => by simp [World.frozen?, hb]
  have hm' : m < 0 ∨ (n : Int) < m := by have := Hn.out; omega
  have Hb := Lib.hid hb
  clear hb hm h4
  have fin : RetNext w B b [] [] a true (.returned (.slice none 0 0)) ((w.setCell ⟨b, 0, none⟩ (.slice none 0 0)).setCell ⟨b, 2, none⟩ (.bool true)) ∧ Fars w ((w.setCell ⟨b, 0, none⟩ (.slice none 0 0)).setCell ⟨b, 2, none⟩ (.bool true)) b :=
    ⟨⟨none, 0, 0, rfl, Row.empty _ _, fun g e => by simp [blockOf] at e, ⟨none, 0, 0, set_block (set_block Hb.out 0 _) 2 _, h1, Row.empty _ _, Nat.le_refl _, fun g e => by simp [blockOf] at e⟩, grown_set (grown_set (World.grownBy.refl w _) _ _) _ _⟩,
      far_of Hb.out (set_block (set_block Hb.out 0 (.slice none 0 0)) 2 (.bool true)) (fun g e => by simp [blockOf] at e)⟩
  have Fin := Lib.hid fin
  clear fin
  by_cases h0 : m < 0
  · go_enter Try.func103, Try.ntmps103
    go_wp2
    go_ret
    exact Fin.out
  · have h5 : (n : Int) < m := by omega
    clear hm'
    go_enter Try.func103, Try.ntmps103
    go_wp2
    go_ret
    exact Fin.out

set_option maxHeartbeats 400000 in
theorem numberF_ok (B b m : Nat) (zs : List Int) (a : Int) (bad : Bool) (w : World) (h : Rd w B b zs a bad) (hB : Bytes zs) (hm : m ≤ zs.length) (hm4 : m ≤ 4) (hl : zs.length ≤ 140737488351232) (ha0 : 0 ≤ a) (ha1 : a ≤ 1000000000000000) :
    Calls Try.prog 101 #[.pointer (some ⟨b, 0, none⟩), .int .i64 m] w fun e w' => RetNum w B b (.int .u32 (be (zs.take m))) (zs.drop m) (a + m) bad e w' ∧ Fars w w' b := by
  go_enter Try.func101, Try.ntmps101
  go_wp2_with fail
  refine (nextF_ok B b m zs a bad w h hm hl ha0 ha1).mono ?_
  rintro e w1 ⟨⟨A, n, c, rfl, hrow, hblk, hrd, hg⟩, hfar⟩
  have Hfar := Lib.hid hfar
  have Hn : Hid (n = m) := by have := hrow.len; rw [List.length_take] at this; exact (by omega : n = m)
  have hn4 : n ≤ 4 := by have := Hn.out; omega
  have HB : Hid (Bytes (zs.take m)) := fun x hx => hB x (List.mem_of_mem_take hx)
  clear hm hl hB hblk h hfar
  generalize hys : zs.take m = ys at *
  have Hys := Lib.hid hys
  clear hys
  have Hlen := Lib.hid hrow.len
  go_wp2
  go_loop [5, 12] (fun v i => ∃ k : Nat, k ≤ n ∧ i = .int .i64 k ∧ v = .int .u32 (be (ys.take k))) (fun _ i => n - (intOf i).toNat)
  case atStart => exact ⟨0, Nat.zero_le _, rfl, rfl⟩
  case round =>
    obtain ⟨k, hk, rfl, rfl⟩ := hrel
    by_cases hlt : k < n
    · obtain ⟨x, ex⟩ := get_some (zs := ys) (k := k) (by have := Hlen.out; omega)
      obtain ⟨g, off, rfl, hg', hc⟩ := hrow.at (cellsOf_get (k := .u8) ex)
      have hx := HB.out x (List.mem_of_getElem? ex)
      obtain ⟨x0, x1⟩ := hx
      have HS : Hid (be (ys.take (k + 1)) = be (ys.take k) * 256 + x) := by rw [List.take_add_one, ex]; exact be_snoc _ _
      have hb := be_le (ys.take k) (fun y hy => HB.out y (List.mem_of_mem_take hy))
      have hv1 : be (ys.take k) < 16777216 := by
        refine Int.lt_of_lt_of_le hb.2 ?_
        have : (ys.take k).length ≤ 3 := by rw [List.length_take]; omega
        rcases h3 : (ys.take k).length with _ | _ | _ | _ | q <;> simp_all <;> omega
      have hv0 := hb.1
      clear ex hb
      have HO : Hid (bits .or .u32 (be (ys.take k) * 256) x = be (ys.take (k + 1))) := by rw [HS.out]; exact or_byte _ _ hv0 hv1 x0 x1
      go_wp2
      go_round
      case rel => exact ⟨k + 1, by omega, by go_num, by rw [HO.out]⟩
      case measure => simp [intOf]; omega
    · have HE : Hid (ys.take k = ys) := List.take_of_length_le (by have := Hlen.out; omega)
      go_wp2
      go_ret
      refine ⟨⟨?_, hrd, hg⟩, Hfar.out⟩
      rw [Hys.out, HE.out]
      rfl

set_option maxHeartbeats 400000 in
theorem numberF_bad (B b : Nat) (m : Int) (zs : List Int) (a : Int) (bad : Bool) (w : World) (h : Rd w B b zs a bad) (hm : m < 0 ∨ (zs.length : Int) < m) :
    Calls Try.prog 101 #[.pointer (some ⟨b, 0, none⟩), .int .i64 m] w fun e w' => RetNum w B b (.int .u32 0) [] a true e w' ∧ Fars w w' b := by
  go_enter Try.func101, Try.ntmps101
  go_wp2_with fail
  refine (nextF_bad B b m zs a bad w h hm).mono ?_
  rintro e w1 ⟨⟨A, n, c, rfl, hrow, hblk, hrd, hg⟩, hfar⟩
  have hn : n = 0 := hrow.1.symm
  subst hn
  have Hfar := Lib.hid hfar
  clear hblk h hrow hm hfar
  go_wp2
  refine wp_loop_rounds 1 ?_
  rw [rounds_succ]
  go_wp2
  go_ret
  exact ⟨⟨rfl, hrd, hg⟩, Hfar.out⟩

section
variable (B b : Nat) (zs : List Int) (a : Int) (bad : Bool) (w : World) (h : Rd w B b zs a bad) (hB : Bytes zs) (hl : zs.length ≤ 140737488351232) (ha0 : 0 ≤ a) (ha1 : a ≤ 1000000000000000)
include h hB hl ha0 ha1
theorem numberF_any (m : Nat) (hm4 : m ≤ 4) :
    Calls Try.prog 101 #[.pointer (some ⟨b, 0, none⟩), .int .i64 m] w fun e w' => RetNum w B b (.int .u32 (num zs m)) (rest zs m) (gone zs a m) (badn zs bad m) e w' ∧ Fars w w' b := by
  by_cases hm : m ≤ zs.length
  · have := numberF_ok B b m zs a bad w h hB hm hm4 hl ha0 ha1
    simpa only [num, told, rest, gone, badn, if_pos hm] using this
  · have := numberF_bad B b m zs a bad w h (.inr (by omega))
    simpa only [num, told, rest, gone, badn, if_neg hm, show be [] = 0 from rfl] using this
theorem u8F_any : Calls Try.prog 106 #[.pointer (some ⟨b, 0, none⟩)] w fun e w' => RetNum w B b (.int .u8 (num zs 1)) (rest zs 1) (gone zs a 1) (badn zs bad 1) e w' ∧ Fars w w' b := by
  have H := Lib.hid (numberF_any B b zs a bad w h hB hl ha0 ha1 1 (by omega))
  obtain ⟨n0, n1⟩ := num_lt hB 1 1 (by omega)
  clear h hB hl ha0 ha1
  simp only [Int.pow_succ, Int.pow_zero, Int.one_mul] at n1
  go_enter Try.func106, Try.ntmps106
  go_wp2_with fail
  refine H.out.mono ?_
  rintro e w1 ⟨⟨rfl, hr⟩, hf⟩
  go_wp2
  go_ret
  exact ⟨⟨rfl, hr⟩, hf⟩
end
theorem rdqF_u8 {w : World} {B b : Nat} {zs : List Int} {i : Nat} (h : RdQ w B b zs i) (hB : Bytes zs) (hl : zs.length ≤ 140737488351232) : Calls Try.prog 106 #[.pointer (some ⟨b, 0, none⟩)] w fun e w' => RetQ w B b (.int .u8 (n1at zs i)) zs (i + 1) e w' ∧ Fars w w' b := by
  rcases h with ⟨hi, h⟩ | ⟨hi, a, a0, a1, h⟩
  · exact (u8F_any B b _ _ _ w h (drop_bytes hB _) (by rw [List.length_drop]; omega) (by omega) (by omega)).mono fun e w' ⟨⟨he, hr, hg⟩, hf⟩ => ⟨⟨he, rdq_good hi hr, hg⟩, hf⟩
  · refine (u8F_any B b _ _ _ w h (fun x hx => by cases hx) (by simp) a0 (by omega)).mono fun e w' ⟨⟨he, hr, hg⟩, hf⟩ => ⟨⟨?_, rdq_bad (by omega) hi a0 a1 hr, hg⟩, hf⟩
    unfold n1at
    rw [drop_past hi]
    exact he

end Go.Proofs.Ytlcnonhebppeiaa
