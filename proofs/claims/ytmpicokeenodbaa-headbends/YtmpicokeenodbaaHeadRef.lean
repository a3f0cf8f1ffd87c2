/- What the document's own head (B8, Bytes, Right) and the law's own, answer. -/
import Derived.Test.YtmpicokeenodbaaHead
import Derived.Test.YtmpicokeenodbaaGot
import Derived.Deep.RegionHeld3
import Derived.Deep.DeepCutAuto
namespace Go.Proofs.Ytmpicokeenodbaa
open Go.RowKit
set_option linter.unusedVariables false

abbrev rhC (h : Hd) : Array Value := #[.int .u32 h.rv, .int .u32 h.ad, .int .i64 h.fl, .int .i64 h.un, .int .u64 h.cr, .int .u64 h.mo, .int .i64 h.x0, .int .i64 h.x1, .int .i64 h.x2, .int .i64 h.x3, .int .i64 h.st, .int .i64 h.lo, .int .i64 h.hi, .bool h.lg]
abbrev rhV (h : Hd) : Value := .agg (rhC h)

theorem b8_any (n : Int) (w : World) (h0 : 0 ≤ n) (h1 : n < 18446744073709551616) : Calls Try.prog 41 #[.int .u64 n] w (RetB w (b8 n)) := by
  go_enter Try.func41, Try.ntmps41
  go_wp2_with fail
  refine (b4_any (n / 4294967296) _ (by omega) (by omega)).mono ?_
  rintro e w1 ⟨A1, n1, c1, rfl, o1, hb1⟩
  have hg := (Got.nil w).add (c := c1) hb1 o1
  go_wp2_with fail
  refine (b4_any (n % 4294967296) _ (by omega) (by omega)).mono ?_
  rintro e w2 ⟨A2, n2, c2, rfl, o2, hb2⟩
  replace hg := hg.add (c := c2) hb2 o2
  have hB := hb1.trans (hb2.mono hb1.size)
  clear o1 o2 hb1 hb2
  go_wp2_with fail
  refine (joinN_any w2 _ _ 2 _ rfl rfl rfl hg (by omega) (by simp [joined, b4, b2])).mono ?_
  rintro e w3 ⟨A3, n3, c3, rfl, o3, hb3⟩
  rw [show joined ([] ++ [⟨A1, n1, c1, b4 (n / 4294967296)⟩] ++ [⟨A2, n2, c2, b4 (n % 4294967296)⟩]) = b8 n by simp [joined, b8]] at o3
  go_wp2
  go_ret
  exact ⟨A3, n3, c3, rfl, o3.mono hB.size, hB.trans (hb3.mono hB.size)⟩

theorem first6 {w : World} {b t : Nat} {v0 v1 v2 v3 v4 v5 v6 v7 v8 v9 v10 v11 v12 v13 : Value} (h : w.heap[b]? = some (.cells #[v0, v1, v2, v3, v4, v5, v6, v7, v8, v9, v10, v11, v12, v13] t (0, 0))) :
    w.cell? ⟨b, 0, none⟩ = some v0 ∧ w.cell? ⟨b, 1, none⟩ = some v1 ∧ w.cell? ⟨b, 2, none⟩ = some v2 ∧ w.cell? ⟨b, 3, none⟩ = some v3 ∧ w.cell? ⟨b, 4, none⟩ = some v4 ∧ w.cell? ⟨b, 5, none⟩ = some v5 :=
  ⟨cell_of_row w b 0 _ t (0, 0) h, cell_of_row w b 1 _ t (0, 0) h, cell_of_row w b 2 _ t (0, 0) h, cell_of_row w b 3 _ t (0, 0) h, cell_of_row w b 4 _ t (0, 0) h, cell_of_row w b 5 _ t (0, 0) h⟩
theorem last3 {w : World} {b t : Nat} {v0 v1 v2 v3 v4 v5 v6 v7 v8 v9 v10 v11 v12 v13 : Value} (h : w.heap[b]? = some (.cells #[v0, v1, v2, v3, v4, v5, v6, v7, v8, v9, v10, v11, v12, v13] t (0, 0))) :
    w.cell? ⟨b, 10, none⟩ = some v10 ∧ w.cell? ⟨b, 11, none⟩ = some v11 ∧ w.cell? ⟨b, 12, none⟩ = some v12 :=
  ⟨cell_of_row w b 10 _ t (0, 0) h, cell_of_row w b 11 _ t (0, 0) h, cell_of_row w b 12 _ t (0, 0) h⟩

set_option maxRecDepth 100000 in
set_option maxHeartbeats 4000000 in
theorem rbytes5_any (h : Hd) (w : World) (ho : h.ok) : Calls Try.prog 17 #[rhV h] w (RetB w (hdL h)) := by
  have hk := heap_alloc_new w (.cells (rhC h) 39)
  have hA : Below w.heap.size w (w.alloc (.cells (rhC h) 39)) := (Below.refl _ _).alloc (Nat.le_refl _) _
  have HL := Lib.hid (show hdL h = hdPre h ++ h.box.flatMap s2 ++ b2 h.st ++ b2 h.lo ++ b2 (h.hi % 65536) ++ b2 (hdLong h.lg) ++ b2 0 from rfl)
  have HP := Lib.hid (show hdPre h = b4 65536 ++ b4 h.rv ++ b4 h.ad ++ b4 1594834165 ++ b2 h.fl ++ b2 h.un ++ b8 h.cr ++ b8 h.mo from rfl)
  have HPl := Lib.hid (hdPre_len h)
  have HX := Lib.hid ho.box
  obtain ⟨⟨rv0, rv1⟩, ⟨ad0, ad1⟩, ⟨fl0, fl1⟩, ⟨un0, un1⟩, ⟨cr0, cr1⟩, ⟨mo0, mo1⟩, hbox, ⟨st0, st1⟩, ⟨lo0, lo1⟩, ⟨hi0, hi1⟩⟩ := ho
  generalize hbx : h.box = bx at *
  have Hbx := Lib.hid hbx
  generalize hdPre h = pre at *
  clear hbx hbox
  obtain ⟨rv, ad, fl, un, cr, mo, x0, x1, x2, x3, st, lo, hi, lg⟩ := h
  simp only [rhC] at hk hA rv0 rv1 ad0 ad1 fl0 fl1 un0 un1 cr0 cr1 mo0 mo1 st0 st1 lo0 lo1 hi0 hi1 HL HP
  cases lg
  all_goals
    go_enter Try.func17, Try.ntmps17
    go_upto_region 4 with fail
    generalize w.alloc _ = V at *
    replace hk : V.drew.heap[w.heap.size]? = _ := hk
    have hB := hA.drew
    clear hA
    have hg := Got.nil V.drew
    go_region_held3 (fun w' => w'.cell? ⟨w.heap.size, 0, none⟩ = some (.int .u32 rv) ∧ w'.cell? ⟨w.heap.size, 1, none⟩ = some (.int .u32 ad) ∧ w'.cell? ⟨w.heap.size, 2, none⟩ = some (.int .i64 fl) ∧ w'.cell? ⟨w.heap.size, 3, none⟩ = some (.int .i64 un) ∧ w'.cell? ⟨w.heap.size, 4, none⟩ = some (.int .u64 cr) ∧ w'.cell? ⟨w.heap.size, 5, none⟩ = some (.int .u64 mo))
      (first | exact first6 hk | exact first6 (kept_alloc hk _))
      (first
        | (go_at_call 24; refine (b4_any _ _ (by omega) (by omega)).mono ?_; rintro e w2 ⟨A, n, c, rfl, o, hb⟩; replace hg := hg.add (c := c) hb o; replace hk := kept_block hk hb; replace hB := hB.trans (hb.mono hB.size); clear o hb)
        | (go_at_call 40; refine (b2_any _ _ (by omega) (by omega)).mono ?_; rintro e w2 ⟨A, n, c, rfl, o, hb⟩; replace hg := hg.add (c := c) hb o; replace hk := kept_block hk hb; replace hB := hB.trans (hb.mono hB.size); clear o hb)
        | (go_at_call 41; refine (b8_any _ _ (by omega) (by omega)).mono ?_; rintro e w2 ⟨A, n, c, rfl, o, hb⟩; replace hg := hg.add (c := c) hb o; replace hk := kept_block hk hb; replace hB := hB.trans (hb.mono hB.size); clear o hb)
        | (go_at_call 21; refine (joinN_any _ _ _ 8 _ rfl rfl rfl hg (by omega) (by simp [joined, b4, b2, b8])).mono ?_; rintro e w2 ⟨A, n, c, rfl, o, hb⟩; simp only [joined, List.nil_append, List.cons_append, List.flatMap_cons, List.flatMap_nil, List.append_nil, ← List.append_assoc] at o; rw [← HP.out] at o; have O := Lib.hid (o.mono hB.size); clear hg; replace hk := kept_block hk hb; replace hB := hB.trans (hb.mono hB.size); clear o hb))
    have HB := Lib.hid hB
    have HK := Lib.hid hk
    obtain ⟨c0, c1, c2, c3, c4, c5, c6, c7, c8, c9, c10, c11, c12, c13⟩ := cells14 hk
    clear hk hB
    go_wp2
    clear c0 c1 c2 c3 c4 c5 c6 c7 c8 c9 c10 c11 c12 c13
    go_loopw [4, 33] (fun v i wr => ∃ (k : Nat) (A : Option Addr) (n c : Nat), k ≤ 4 ∧ i = .int .i64 k ∧ v = .slice A n c ∧ OwnB wr w.heap.size A n c (pre ++ (bx.take k).flatMap s2) ∧ wr.heap[w.heap.size]? = w2.heap[w.heap.size]? ∧ Below w.heap.size w wr) (fun _ i _ => 4 - (intOf i).toNat)
    case atStart => exact ⟨0, A, n, c, Nat.zero_le _, rfl, rfl, by simpa using O.out, rfl, HB.out⟩
    case round =>
      clear O HB
      obtain ⟨k, A, n, c, hk4, rfl, rfl, hown, hk, hB⟩ := hrel
      rw [HK.out] at hk
      by_cases hlt : k < 4
      · obtain ⟨x, hx⟩ := get_some (zs := bx) (k := k) (by rw [← Hbx.out]; exact hlt)
        obtain ⟨xl, xu⟩ := HX.out x (List.mem_of_getElem? hx)
        have hx2 := flat_s2_snoc hx
        have hlen : (pre ++ (bx.take k).flatMap s2).length ≤ 100 := by
          rw [List.length_append, flat_s2_len, List.length_take, HPl.out]
          omega
        have hix := run_index_arr (P := Try.prog) wr 37 3 4 #[.int .i64 x0, .int .i64 x1, .int .i64 x2, .int .i64 x3] k (.int .i64 x) Try.underlying37 (by simp [go_sem]) (by simp [go_sem]) hlt (by
          have h := cellsOf_get (k := .i64) hx
          rw [← Hbx.out] at h
          simpa [Hd.box, cellsOf] using h)
        have Hx := Lib.hid hx2
        have Hlen := Lib.hid hlen
        have hg := (Got.nil wr).put (c := c) hown.row
        clear hx hx2 hlen hown
        go_wp2_with fail
        clear hix
        refine (s2_any x _ xl xu).mono ?_
        rintro e w4 ⟨A4, n4, c4, rfl, o, hb⟩
        replace hg := hg.add (c := c4) hb o
        replace hk := kept_block hk hb
        replace hB := hB.trans (hb.mono hB.size)
        clear o hb
        go_wp2_with fail
        refine (joinN_any w4 _ _ 2 _ rfl rfl rfl hg (by omega) (by have := Hlen.out; simp [joined, b2]; simp at this; omega)).mono ?_
        rintro e w5 ⟨A5, n5, c5, rfl, o, hb⟩
        simp only [joined, List.nil_append, List.cons_append, List.flatMap_cons, List.flatMap_nil, List.append_nil] at o
        have O := Lib.hid (o.mono hB.size)
        clear hg
        replace hk := kept_block hk hb
        replace hB := hB.trans (hb.mono hB.size)
        clear o hb
        go_wp2
        go_roundw
        case rel => exact ⟨k + 1, A5, n5, c5, by omega, by go_num, rfl, by rw [Hx.out, ← List.append_assoc]; exact O.out, by rw [HK.out]; exact hk, hB⟩
        case measure => simp [intOf]; omega
      · have hE : bx.take k = bx := by rw [← Hbx.out]; exact List.take_of_length_le (by simp [Hd.box]; omega)
        rw [hE] at hown
        have hlen : (pre ++ bx.flatMap s2).length ≤ 44 := by
          rw [List.length_append, flat_s2_len, HPl.out, ← Hbx.out]
          simp [Hd.box]
        generalize pre ++ bx.flatMap s2 = front at *
        have hg := ((Got.nil wr).put (c := c) hown.row).drew
        replace hk : wr.drew.heap[w.heap.size]? = _ := hk
        replace hB := hB.drew
        have Hlen := Lib.hid hlen
        clear hE hlen hown
        go_upto_region 10 with fail
        go_region_held3 (fun w' => w'.cell? ⟨w.heap.size, 10, none⟩ = some (.int .i64 st) ∧ w'.cell? ⟨w.heap.size, 11, none⟩ = some (.int .i64 lo) ∧ w'.cell? ⟨w.heap.size, 12, none⟩ = some (.int .i64 hi))
          (first | exact last3 hk | exact last3 (kept_alloc hk _))
          (first
          | (go_at_call 40; refine (b2_any _ _ (by omega) (by omega)).mono ?_; rintro e w2 ⟨A, n, c, rfl, o, hb⟩; replace hg := hg.add (c := c) hb o; replace hk := kept_block hk hb; replace hB := hB.trans (hb.mono hB.size); clear o hb)
          | (go_at_call 42; refine (s2_any _ _ (by omega) (by omega)).mono ?_; rintro e w2 ⟨A, n, c, rfl, o, hb⟩; replace hg := hg.add (c := c) hb o; replace hk := kept_block hk hb; replace hB := hB.trans (hb.mono hB.size); clear o hb)
          | (go_at_call 21; refine (joinN_any _ _ _ 6 _ rfl rfl rfl hg (by omega) (by have := Hlen.out; simp [joined, b2]; omega)).mono ?_; rintro e w2 ⟨A, n, c, rfl, o, hb⟩; simp only [joined, List.nil_append, List.cons_append, List.flatMap_cons, List.flatMap_nil, List.append_nil, ← List.append_assoc] at o; have O := Lib.hid (o.mono hB.size); clear hg; replace hk := kept_block hk hb; replace hB := hB.trans (hb.mono hB.size); clear o hb))
        go_wp2
        go_ret
        exact ⟨A, n, c, rfl, by rw [HL.out]; exact O.out, hB⟩

end Go.Proofs.Ytmpicokeenodbaa
