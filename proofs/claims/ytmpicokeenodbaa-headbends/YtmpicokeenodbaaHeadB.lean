/- What head.Bytes answers. -/
import Derived.Test.YtmpicokeenodbaaHead
namespace Go.Proofs.Ytmpicokeenodbaa
open Go.RowKit
set_option linter.unusedVariables false

theorem hdPre_eq (h : Hd) : [] ++ b4 65536 ++ b4 h.rv ++ b4 h.ad ++ b4 1594834165 ++ b2 h.fl ++ b2 h.un ++ b8 h.cr ++ b8 h.mo = hdPre h := rfl

/-- A new Writer behind a struct that was boxed first, calls between. -/
theorem stB_late {w W : World} {cs : Array Value} {t : TypeId} (h8 : t ≠ 5) (hw : t ≠ 62) (hk : W.heap[w.heap.size]? = some (.cells cs t (0, 0))) (hb : Below w.heap.size w W) : StB w (W.alloc (.cells #[.slice none 0 0] 62)) W.heap.size [] w.heap.size cs t :=
  ⟨(wr_new W).mono hb.size, hb.alloc hb.size _, (Below.heap_alloc _ _ _ (lt_of_block hk)).trans hk, h8, hw⟩

set_option maxRecDepth 100000 in
set_option maxHeartbeats 4000000 in
theorem hbytes_any (h : Hd) (w : World) (ho : h.ok) (h0 : hdRight h = true) : Calls Try.prog 13 #[hdV h] w (RetB w (hdL h)) := by
  have hk := heap_alloc_new w (.cells (hdC h) 28)
  have hA : Below w.heap.size w (w.alloc (.cells (hdC h) 28)) := (Below.refl _ _).alloc (Nat.le_refl _) _
  have HR := Lib.hid (fun W => hright_any h W)
  rw [h0] at HR
  have HF := Lib.hid (fun W => hformat_any h W)
  have HL := Lib.hid (show hdL h = hdPre h ++ h.box.flatMap s2 ++ b2 h.st ++ b2 h.lo ++ b2 (h.hi % 65536) ++ b2 (hdLong h.lg) ++ b2 0 from rfl)
  have HP := Lib.hid (hdPre_eq h)
  have HPl := Lib.hid (hdPre_len h)
  have HX := Lib.hid ho.box
  have hlg : 0 ≤ hdLong h.lg ∧ hdLong h.lg < 65536 := by unfold hdLong; split <;> omega
  obtain ⟨⟨rv0, rv1⟩, ⟨ad0, ad1⟩, ⟨fl0, fl1⟩, ⟨un0, un1⟩, ⟨cr0, cr1⟩, ⟨mo0, mo1⟩, _, ⟨st0, st1⟩, ⟨lo0, lo1⟩, ⟨hi0, hi1⟩⟩ := ho
  generalize hbx : h.box = bx at *
  have Hbx := Lib.hid hbx
  generalize hdPre h = pre at *
  clear hbx h0
  obtain ⟨rv, ad, fl, un, cr, mo, x0, x1, x2, x3, st, lo, hi, lg⟩ := h
  simp only [hdC] at hk hA rv0 rv1 ad0 ad1 fl0 fl1 un0 un1 cr0 cr1 mo0 mo1 st0 st1 lo0 lo1 hi0 hi1 HL HP HF hlg
  obtain ⟨lg0, lg1⟩ := hlg
  go_enter Try.func13, Try.ntmps13
  go_wp2_with fail
  generalize w.alloc _ = V at *
  refine (HR.out _).mono ?_
  rintro e w1 ⟨rfl, hb1⟩
  have hk1 := kept_block hk hb1
  have hB1 := hA.trans (hb1.mono hA.size)
  have hs := (stB_late (by decide) (by decide) hk1 hB1).drew
  clear hk hA hb1 hk1 hB1
  go_wp2_with fail
  go_region_held (fun w' => w'.cell? ⟨w.heap.size, 0, none⟩ = some (.int .u32 rv) ∧ w'.cell? ⟨w.heap.size, 1, none⟩ = some (.int .u32 ad))
    (first | exact ⟨hs.cell 0 _ rfl, hs.cell 1 _ rfl⟩)
    (first
      | (go_at_call 31; refine (wu32_any _ _ _ _ _ hs.wr_ (by simp [b4, b2]) (by omega) (by omega)).mono ?_; rintro e w2 ⟨rfl, h2, t2⟩; replace hs := hs.turned h2 t2; clear t2 h2))
  replace hs := hs.drew
  go_wp2_with fail
  go_region_held (fun w' => w'.cell? ⟨w.heap.size, 2, none⟩ = some (.int .u16 fl) ∧ w'.cell? ⟨w.heap.size, 3, none⟩ = some (.int .u16 un))
    (first | exact ⟨hs.cell 2 _ rfl, hs.cell 3 _ rfl⟩)
    (first
      | (go_at_call 32; refine (wu16_any _ _ _ _ _ hs.wr_ (by simp [b4, b2]) (by omega) (by omega)).mono ?_; rintro e w2 ⟨rfl, h2, t2⟩; replace hs := hs.turned h2 t2; clear t2 h2))
  have c4 := hs.cell 4 _ rfl
  go_wp2_with fail
  refine (wtime_any hs cr cr0 cr1 (by simp [b4, b2])).mono ?_
  rintro e w2 ⟨rfl, h2⟩
  clear c4 hs
  have c5 := h2.cell 5 _ rfl
  go_wp2_with fail
  refine (wtime_any h2 mo mo0 mo1 (by simp [b8, b4, b2])).mono ?_
  rintro e w3 ⟨rfl, h3⟩
  clear c5 h2
  have HS : Hid (StB w w3 w1.heap.size pre w.heap.size #[.int .u32 rv, .int .u32 ad, .int .u16 fl, .int .u16 un, .int .u64 cr, .int .u64 mo, .int .i16 x0, .int .i16 x1, .int .i16 x2, .int .i16 x3, .int .u16 st, .int .u16 lo, .int .i16 hi, .bool lg] 28) := by rw [HP.out] at h3; exact h3
  have c6 := h3.cell 6 _ rfl
  have c7 := h3.cell 7 _ rfl
  have c8 := h3.cell 8 _ rfl
  have c9 := h3.cell 9 _ rfl
  clear h3
  go_wp2
  clear c6 c7 c8 c9
  go_loopw [31] (fun i wr => ∃ k : Nat, k ≤ 4 ∧ i = .int .i64 k ∧ StB w wr w1.heap.size (pre ++ (bx.take k).flatMap s2) w.heap.size #[.int .u32 rv, .int .u32 ad, .int .u16 fl, .int .u16 un, .int .u64 cr, .int .u64 mo, .int .i16 x0, .int .i16 x1, .int .i16 x2, .int .i16 x3, .int .u16 st, .int .u16 lo, .int .i16 hi, .bool lg] 28) (fun i _ => 4 - (intOf i).toNat)
  case atStart => exact ⟨0, Nat.zero_le _, rfl, by simpa using HS.out⟩
  case round =>
    clear HS
    obtain ⟨k, hk, rfl, hs⟩ := hrel
    by_cases hlt : k < 4
    · have hlen : (pre ++ (bx.take k).flatMap s2).length ≤ 100 := by
        rw [List.length_append, flat_s2_len, List.length_take, HPl.out]
        omega
      obtain ⟨x, hx⟩ := get_some (zs := bx) (k := k) (by rw [← Hbx.out]; exact hlt)
      have hx2 := flat_s2_snoc hx
      have hix := run_index_arr (P := Try.prog) wr 26 25 4 #[.int .i16 x0, .int .i16 x1, .int .i16 x2, .int .i16 x3] k (.int .i16 x) Try.underlying26 (by simp [go_sem]) (by simp [go_sem]) hlt (by
        have h := cellsOf_get (k := .i16) hx
        rw [← Hbx.out] at h
        simpa [Hd.box, cellsOf] using h)
      have Hx := Lib.hid hx2
      have Hlen := Lib.hid hlen
      clear hx hx2 hlen
      go_wp2_with fail
      refine (wi16_any _ _ _ x _ hs.wr_ (by have := Hlen.out; omega)).mono ?_
      rintro e w4 ⟨rfl, h4, t4⟩
      have hs4 := hs.turned h4 t4
      rw [List.append_assoc, ← Hx.out] at hs4
      clear t4 h4 hs hix
      go_wp2
      go_roundw
      case rel => exact ⟨k + 1, by omega, by go_num, hs4⟩
      case measure => simp [intOf]; omega
    · have hE : bx.take k = bx := by rw [← Hbx.out]; exact List.take_of_length_le (by simp [Hd.box]; omega)
      rw [hE] at hs
      have hlen : (pre ++ bx.flatMap s2).length ≤ 44 := by
        rw [List.length_append, flat_s2_len, HPl.out, ← Hbx.out]
        simp [Hd.box]
      replace hs := hs.drew
      generalize pre ++ bx.flatMap s2 = front at *
      clear hE
      go_wp2_with fail
      go_region_held (fun w' => w'.cell? ⟨w.heap.size, 10, none⟩ = some (.int .u16 st) ∧ w'.cell? ⟨w.heap.size, 11, none⟩ = some (.int .u16 lo) ∧ w'.cell? ⟨w.heap.size, 12, none⟩ = some (.int .i16 hi))
        (first | exact ⟨hs.cell 10 _ rfl, hs.cell 11 _ rfl, hs.cell 12 _ rfl⟩)
        (first
          | (go_at_call 32; refine (wu16_any _ _ _ _ _ hs.wr_ (by first | omega | (simp [b2]; omega)) (by omega) (by omega)).mono ?_; rintro e w2 ⟨rfl, h2, t2⟩; replace hs := hs.turned h2 t2; clear t2 h2)
          | (go_at_call 34; refine (wi16_any _ _ _ _ _ hs.wr_ (by first | omega | (simp [b2]; omega))).mono ?_; rintro e w2 ⟨rfl, h2, t2⟩; replace hs := hs.turned h2 t2; clear t2 h2))
      obtain ⟨c0, c1, c2, c3, c4, c5, c6, c7, c8, c9, c10, c11, c12, c13⟩ := cells14 hs.box
      go_wp2_with fail
      refine (HF.out _).mono ?_
      rintro e w5 ⟨rfl, hb5⟩
      clear c0 c1 c2 c3 c4 c5 c6 c7 c8 c9 c10 c11 c12 c13
      replace hs := hs.below hb5
      clear hb5
      go_wp2_with fail
      refine (wu16_any _ _ _ _ _ hs.wr_ (by first | omega | (simp [b2]; omega)) lg0 lg1).mono ?_
      rintro e w6 ⟨rfl, h6, t6⟩
      replace hs := hs.turned h6 t6
      clear h6 t6
      go_wp2_with fail
      refine (wu16_any _ _ _ 0 _ hs.wr_ (by first | omega | (simp [b2]; omega)) (by omega) (by omega)).mono ?_
      rintro e w7 ⟨rfl, h7, t7⟩
      replace hs := hs.turned h7 t7
      clear h7 t7
      rw [← HL.out] at hs
      have HLl := Lib.hid (hdL_len ⟨rv, ad, fl, un, cr, mo, x0, x1, x2, x3, st, lo, hi, lg⟩)
      go_wp2_with fail
      refine (done_any _ _ _ _ hs.wr_ (by have := HLl.out; omega)).mono ?_
      rintro e w8 ⟨A8, n8, c8, rfl, hown, b8⟩
      have hz := hs.size
      have hb := hs.bel
      go_wp2
      go_ret
      exact ⟨A8, n8, c8, rfl, hown.mono hz, hb.trans (b8.mono hz)⟩

end Go.Proofs.Ytmpicokeenodbaa
