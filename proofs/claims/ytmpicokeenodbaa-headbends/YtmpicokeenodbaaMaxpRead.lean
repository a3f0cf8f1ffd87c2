/- What maxp.read answers, as a contract over this seat's translation. -/
import Derived.Test.YtmpicokeenodbaaMaxp
import Derived.Test.YtmpicokeenodbaaRdBox
namespace Go.Proofs.Ytmpicokeenodbaa
open Go.RowKit
set_option linter.unusedVariables false

/-- All noughts. -/
abbrev mpZ : Array Value := #[.int .u16 0, .int .u16 0, .int .u16 0, .int .u16 0, .int .u16 0, .int .u16 0, .int .u16 0, .int .u16 0, .int .u16 0, .int .u16 0, .int .u16 0, .int .u16 0, .int .u16 0, .int .u16 0]

/-- What is read of thirty-two bytes. -/
def mpOf (zs : List Int) : Mp := ⟨n2at zs 4, n2at zs 6, n2at zs 8, n2at zs 10, n2at zs 12, n2at zs 14, n2at zs 16, n2at zs 18, n2at zs 20, n2at zs 22, n2at zs 24, n2at zs 26, n2at zs 28, n2at zs 30⟩

/-- The cells when k numbers have been read. -/
def mpPart (zs : List Int) (k : Nat) : List Value := .int .u16 (n2at zs 4) :: (List.range 13).map fun j => .int .u16 (if j < k then n2at zs (6 + 2 * j) else 0)

theorem mpPart_len (zs : List Int) (k : Nat) : (mpPart zs k).length = 14 := by simp [mpPart]
theorem mpPart_at (zs : List Int) (k : Nat) (hk : k < 13) : (mpPart zs k)[1 + k]? = some (.int .u16 0) := by
  unfold mpPart
  rw [Nat.add_comm, List.getElem?_cons_succ, List.getElem?_map, List.getElem?_range hk]
  simp
theorem mpPart_set (zs : List Int) (k : Nat) (hk : k < 13) : (mpPart zs k).toArray.setIfInBounds (1 + k) (.int .u16 (n2at zs (6 + 2 * k))) = (mpPart zs (k + 1)).toArray := by
  rw [List.setIfInBounds_toArray]
  congr 1
  unfold mpPart
  rw [Nat.add_comm 1 k, List.set_cons_succ]
  congr 1
  apply List.ext_getElem?
  intro j
  rw [List.getElem?_set]
  by_cases hj : j < 13
  · rw [List.getElem?_map, List.getElem?_map, List.getElem?_range hj]
    by_cases e : k = j
    · subst e
      simp [hj]
    · rw [if_neg e]
      simp only [Option.map_some]
      congr 2
      by_cases h1 : j < k
      · rw [if_pos h1, if_pos (by omega)]
      · rw [if_neg h1, if_neg (by omega)]
  · rw [List.getElem?_eq_none (by simp; omega), List.getElem?_eq_none (by simp; omega)]
    split
    · split
      · rename_i h; simp at h; omega
      · rfl
    · rfl

set_option maxRecDepth 100000 in
set_option maxHeartbeats 4000000 in
theorem mread_any (B b : Nat) (zs : List Int) (w : World) (h : Rd w B b zs 0 false) (hB : Bytes zs) (hl : zs.length = 32) :
    Calls Try.prog 46 #[.pointer (some ⟨b, 0, none⟩)] w (fun e w' => e = .returned (mpV (mpOf zs)) ∧ w.grownBy w' (some b)) := by
  have HB := Lib.hid hB
  have HL := Lib.hid hl
  have h0 := rs_new w mpZ mpZ 53 B b zs h (by decide)
  simp only [mpZ] at h0
  clear hB hl h
  go_enter Try.func46, Try.ntmps46
  go_wp2_with fail
  generalize (w.alloc _).alloc _ = V at *
  refine (u32_any B b _ _ _ V h0.rd (drop_bytes HB.out 0) (by rw [List.length_drop]; have := HL.out; omega) (by omega) (by omega)).mono ?_
  rintro e w1 ⟨rfl, hrd1, hg1⟩
  have h1 : RS _ _ _ _ _ 4 _ _ _ _ _ := h0.ask (m := 4) (by have := HL.out; omega) hrd1 hg1
  clear hrd1 hg1 h0
  go_wp2_with fail
  refine (u16_any B b _ _ _ w1 h1.rd (drop_bytes HB.out _) (by rw [List.length_drop]; have := HL.out; omega) (by omega) (by omega)).mono ?_
  rintro e w2 ⟨rfl, hrd2, hg2⟩
  have h2 : RS _ _ _ _ _ 6 _ _ _ _ _ := h1.ask (m := 2) (by have := HL.out; omega) hrd2 hg2
  clear hrd2 hg2 h1
  have c0 := h2.cell2 0 _ rfl
  have f0 := h2.thaw2
  have h3 := h2.set2 0 (.int .u16 (n2at zs 4))
  have H3 : Hid (RS w (w2.setCell ⟨w.heap.size + 1, 0, none⟩ (.int .u16 (num (List.drop 4 zs) 2))) B b zs (6 + 2 * 0) w.heap.size mpZ (w.heap.size + 1) (mpPart zs 0).toArray 53) := h3
  clear h2 h3
  go_wp2
  clear c0 f0
  go_loopw [10] (fun i wr => ∃ k : Nat, k ≤ 13 ∧ i = .int .i64 k ∧ RS w wr B b zs (6 + 2 * k) w.heap.size mpZ (w.heap.size + 1) (mpPart zs k).toArray 53) (fun i _ => 13 - (intOf i).toNat)
  case atStart => exact ⟨0, Nat.zero_le _, rfl, H3.out⟩
  case round =>
    clear H3
    obtain ⟨k, hk, rfl, hs⟩ := hrel
    by_cases hlt : k < 13
    · have hk0 : (0 : Int) ≤ (k : Int) := by omega
      have hk1 : (k : Int) < 13 := by omega
      go_wp2_with fail
      refine (u16_any B b _ _ _ wr hs.rd (drop_bytes HB.out _) (by rw [List.length_drop]; have := HL.out; omega) (by omega) (by omega)).mono ?_
      rintro e w3 ⟨rfl, hrd3, hg3⟩
      have h4 := hs.ask (m := 2) (by have := HL.out; omega) hrd3 hg3
      rw [show 6 + 2 * k + 2 = 6 + 2 * (k + 1) by omega] at h4
      clear hrd3 hg3 hs
      have ck := h4.cell2 (1 + k) _ (by rw [List.getElem?_toArray]; exact mpPart_at zs k hlt)
      have f0 := h4.thaw2
      have h5 := h4.set2 (1 + k) (.int .u16 (n2at zs (6 + 2 * k)))
      rw [mpPart_set zs k hlt] at h5
      have H5 := Lib.hid h5
      clear h4 h5
      go_wp2
      go_roundw
      case rel => exact ⟨k + 1, by omega, by go_num, H5.out⟩
      case measure => simp [intOf]; omega
    · obtain rfl : k = 13 := by omega
      have hs' : RS w wr B b zs 32 w.heap.size mpZ (w.heap.size + 1) (mpC (mpOf zs)) 53 := hs
      clear hs
      generalize hm : mpOf zs = m at hs'
      have Hm := Lib.hid hm
      clear hm
      obtain ⟨g, r0, r1, r2, r3, r4, r5, r6, r7, r8, r9, r10, r11, r12⟩ := m
      have c0 := hs'.cell2 0 (.int .u16 g) rfl
      have c1 := hs'.cell2 1 (.int .u16 r0) rfl
      have c2 := hs'.cell2 2 (.int .u16 r1) rfl
      have c3 := hs'.cell2 3 (.int .u16 r2) rfl
      have c4 := hs'.cell2 4 (.int .u16 r3) rfl
      have c5 := hs'.cell2 5 (.int .u16 r4) rfl
      have c6 := hs'.cell2 6 (.int .u16 r5) rfl
      have c7 := hs'.cell2 7 (.int .u16 r6) rfl
      have c8 := hs'.cell2 8 (.int .u16 r7) rfl
      have c9 := hs'.cell2 9 (.int .u16 r8) rfl
      have c10 := hs'.cell2 10 (.int .u16 r9) rfl
      have c11 := hs'.cell2 11 (.int .u16 r10) rfl
      have c12 := hs'.cell2 12 (.int .u16 r11) rfl
      have c13 := hs'.cell2 13 (.int .u16 r12) rfl
      have d0 := hs'.cell1 0 (.int .u16 0) rfl
      have d1 := hs'.cell1 1 (.int .u16 0) rfl
      have d2 := hs'.cell1 2 (.int .u16 0) rfl
      have d3 := hs'.cell1 3 (.int .u16 0) rfl
      have d4 := hs'.cell1 4 (.int .u16 0) rfl
      have d5 := hs'.cell1 5 (.int .u16 0) rfl
      have d6 := hs'.cell1 6 (.int .u16 0) rfl
      have d7 := hs'.cell1 7 (.int .u16 0) rfl
      have d8 := hs'.cell1 8 (.int .u16 0) rfl
      have d9 := hs'.cell1 9 (.int .u16 0) rfl
      have d10 := hs'.cell1 10 (.int .u16 0) rfl
      have d11 := hs'.cell1 11 (.int .u16 0) rfl
      have d12 := hs'.cell1 12 (.int .u16 0) rfl
      have d13 := hs'.cell1 13 (.int .u16 0) rfl
      have f1 := hs'.thaw1
      have hg := hs'.gr
      clear hs'
      go_wp2
      refine bodyPost_ret (v := mpV ⟨g, r0, r1, r2, r3, r4, r5, r6, r7, r8, r9, r10, r11, r12⟩) (by simp [results, Try.results46, go_sem, d0, d1, d2, d3, d4, d5, d6, d7, d8, d9, d10, d11, d12, d13]) rfl ⟨by rw [Hm.out], ?_⟩
      iterate 14 refine grown_new (Nat.le_refl _) _ _ ?_
      exact hg

end Go.Proofs.Ytmpicokeenodbaa
