/- What the laws' own function answers: a Head as the document has it. -/
import Derived.Test.YtmpicokeenodbaaHeadRef
import Derived.Test.YtmpicokeenodbaaRdBox
namespace Go.Proofs.Ytmpicokeenodbaa
open Go.RowKit
set_option linter.unusedVariables false


/-- The cells when k numbers of the box are there. -/
def rhPart (h : Hd) (k : Nat) : List Value :=
  [.int .u32 h.rv, .int .u32 h.ad, .int .i64 h.fl, .int .i64 h.un, .int .u64 h.cr, .int .u64 h.mo] ++ ([.int .i64 (if 0 < k then h.x0 else 0), .int .i64 (if 1 < k then h.x1 else 0), .int .i64 (if 2 < k then h.x2 else 0), .int .i64 (if 3 < k then h.x3 else 0)] ++ [.int .i64 h.st, .int .i64 h.lo, .int .i64 h.hi, .bool h.lg])
theorem rhPart_at (h : Hd) (k : Nat) (hk : k < 4) : (rhPart h k)[6 + k]? = some (.int .i64 0) := by
  match k, hk with
  | 0, _ => rfl
  | 1, _ => rfl
  | 2, _ => rfl
  | 3, _ => rfl
theorem rhPart_set (h : Hd) (k : Nat) (hk : k < 4) (x : Int) (hx : h.box[k]? = some x) : (rhPart h k).toArray.setIfInBounds (6 + k) (.int .i64 x) = (rhPart h (k + 1)).toArray := by
  match k, hk with
  | 0, _ => simp [Hd.box] at hx; subst hx; rfl
  | 1, _ => simp [Hd.box] at hx; subst hx; rfl
  | 2, _ => simp [Hd.box] at hx; subst hx; rfl
  | 3, _ => simp [Hd.box] at hx; subst hx; rfl

abbrev rhZ : Array Value := #[.int .u32 0, .int .u32 0, .int .i64 0, .int .i64 0, .int .u64 0, .int .u64 0, .int .i64 0, .int .i64 0, .int .i64 0, .int .i64 0, .int .i64 0, .int .i64 0, .int .i64 0, .bool false]

/-- Three blocks, one behind the other, over an older world. -/
structure Three (w wr : World) (c1 : Array Value) (t1 : TypeId) (c2 : Array Value) (c3 : Array Value) (t2 : TypeId) : Prop where
  k1 : wr.heap[w.heap.size]? = some (.cells c1 t1 (0, 0))
  k2 : wr.heap[w.heap.size + 1]? = some (.cells c2 t2 (0, 0))
  k3 : wr.heap[w.heap.size + 2]? = some (.cells c3 t2 (0, 0))
  bel : Below w.heap.size w wr

theorem Three.set {w wr : World} {c1 c2 c3 : Array Value} {t1 t2 : TypeId} (h : Three w wr c1 t1 c2 c3 t2) (j : Nat) (v : Value) : Three w (wr.setCell ⟨w.heap.size + 2, j, none⟩ v) c1 t1 c2 (c3.setIfInBounds j v) t2 :=
  ⟨(Below.heap_setCell wr _ v _ (show w.heap.size ≠ w.heap.size + 2 by omega)).trans h.k1, (Below.heap_setCell wr _ v _ (show w.heap.size + 1 ≠ w.heap.size + 2 by omega)).trans h.k2, set_block h.k3 j v, below_set (by omega) j v h.bel⟩

theorem three_new (w : World) (c1 c2 c3 : Array Value) (t1 t2 : TypeId) : Three w (((w.alloc (.cells c1 t1)).alloc (.cells c2 t2)).alloc (.cells c3 t2)) c1 t1 c2 c3 t2 := by
  have h2 := heap_alloc_new (w.alloc (.cells c1 t1)) (.cells c2 t2)
  have h3 := heap_alloc_new ((w.alloc (.cells c1 t1)).alloc (.cells c2 t2)) (.cells c3 t2)
  rw [show (w.alloc (.cells c1 t1)).heap.size = w.heap.size + 1 by simp] at h2
  rw [show ((w.alloc (.cells c1 t1)).alloc (.cells c2 t2)).heap.size = w.heap.size + 2 by simp] at h3
  exact ⟨kept_alloc (kept_alloc (heap_alloc_new w _) _) _, kept_alloc h2 _, h3, (((Below.refl _ _).alloc (Nat.le_refl _) _).alloc (by simp) _).alloc (by simp; omega) _⟩

set_option maxRecDepth 100000 in
set_option maxHeartbeats 4000000 in
theorem own_any (h : Hd) (w : World) (ho : h.ok) : Calls Try.prog 18 #[hdV h] w (Ret w (rhV h)) := by
  have h0 := three_new w (hdC h) rhZ (rhPart h 0).toArray 28 39
  have HS := Lib.hid (fun k hk x hx => rhPart_set h k hk x hx)
  have HA := Lib.hid (fun k hk => rhPart_at h k hk)
  have H4 := Lib.hid (show (rhPart h 4).toArray = rhC h from rfl)
  have HX := Lib.hid ho.box
  obtain ⟨⟨rv0, rv1⟩, ⟨ad0, ad1⟩, ⟨fl0, fl1⟩, ⟨un0, un1⟩, ⟨cr0, cr1⟩, ⟨mo0, mo1⟩, hbox, ⟨st0, st1⟩, ⟨lo0, lo1⟩, ⟨hi0, hi1⟩⟩ := ho
  generalize hbx : h.box = bx at *
  have Hbx := Lib.hid hbx
  have HP0 := Lib.hid (show (rhPart h 0).toArray = #[.int .u32 h.rv, .int .u32 h.ad, .int .i64 h.fl, .int .i64 h.un, .int .u64 h.cr, .int .u64 h.mo, .int .i64 0, .int .i64 0, .int .i64 0, .int .i64 0, .int .i64 h.st, .int .i64 h.lo, .int .i64 h.hi, .bool h.lg] from rfl)
  generalize rhPart h = rp at *
  rw [HP0.out] at h0
  clear hbx hbox
  obtain ⟨rv, ad, fl, un, cr, mo, x0, x1, x2, x3, st, lo, hi, lg⟩ := h
  simp only [hdC, rhC, rhZ] at h0 H4 fl0 fl1 un0 un1 st0 st1 lo0 lo1 hi0 hi1 HP0
  go_enter Try.func18, Try.ntmps18
  go_upto_region 2 with fail
  generalize ((w.alloc _).alloc _).alloc _ = V at *
  obtain ⟨c0, c1, c2, c3, c4, c5, c6, c7, c8, c9, c10, c11, c12, c13⟩ := cells14 h0.k1
  have H0 := Lib.hid h0
  clear h0
  go_wp2
  clear c0 c1 c2 c3 c4 c5 c6 c7 c8 c9 c10 c11 c12 c13
  go_loopw [34] (fun i wr => ∃ (k : Nat), k ≤ 4 ∧ i = .int .i64 k ∧ Three w wr #[.int .u32 rv, .int .u32 ad, .int .u16 fl, .int .u16 un, .int .u64 cr, .int .u64 mo, .int .i16 x0, .int .i16 x1, .int .i16 x2, .int .i16 x3, .int .u16 st, .int .u16 lo, .int .i16 hi, .bool lg] 28 #[.int .u32 0, .int .u32 0, .int .i64 0, .int .i64 0, .int .u64 0, .int .u64 0, .int .i64 0, .int .i64 0, .int .i64 0, .int .i64 0, .int .i64 0, .int .i64 0, .int .i64 0, .bool false] (rp k).toArray 39) (fun i _ => 4 - (intOf i).toNat)
  case atStart => exact ⟨0, Nat.zero_le _, rfl, by rw [HP0.out]; exact H0.out⟩
  case round =>
    clear H0
    obtain ⟨k, hk4, rfl, hs⟩ := hrel
    by_cases hlt : k < 4
    · obtain ⟨x, hx⟩ := get_some (zs := bx) (k := k) (by rw [← Hbx.out]; exact hlt)
      obtain ⟨xl, xu⟩ := HX.out x (List.mem_of_getElem? hx)
      have hix := run_index_arr (P := Try.prog) wr 26 25 4 #[.int .i16 x0, .int .i16 x1, .int .i16 x2, .int .i16 x3] k (.int .i16 x) Try.underlying26 (by simp [go_sem]) (by simp [go_sem]) hlt (by
        have h := cellsOf_get (k := .i16) hx
        rw [← Hbx.out] at h
        simpa [Hd.box, cellsOf] using h)
      have ck : wr.cell? ⟨w.heap.size + 2, 6 + k, none⟩ = some (.int .i64 0) := (cell_of_row wr _ (6 + k) _ _ _ hs.k3).trans (by rw [List.getElem?_toArray]; exact HA.out k hlt)
      have f0 := thawed hs.k3
      have hs2 := hs.set (6 + k) (.int .i64 x)
      rw [HS.out k hlt x hx] at hs2
      have H2 := Lib.hid hs2
      have hk0 : (0 : Int) ≤ (k : Int) := by omega
      have hk1 : (k : Int) < 4 := by omega
      clear hs hs2 hx
      go_wp2
      go_roundw
      case rel => exact ⟨k + 1, by omega, by go_num, H2.out⟩
      case measure => simp [intOf]; omega
    · obtain rfl : k = 4 := by omega
      rw [H4.out] at hs
      obtain ⟨c0, c1, c2, c3, c4, c5, c6, c7, c8, c9, c10, c11, c12, c13⟩ := cells14 hs.k3
      obtain ⟨d0, d1, d2, d3, d4, d5, d6, d7, d8, d9, d10, d11, d12, d13⟩ := cells14 hs.k2
      have f2 := thawed hs.k2
      have hB := hs.bel
      clear hs
      go_wp2
      refine bodyPost_ret (v := rhV ⟨rv, ad, fl, un, cr, mo, x0, x1, x2, x3, st, lo, hi, lg⟩) (by simp [results, Try.results18, go_sem, d0, d1, d2, d3, d4, d5, d6, d7, d8, d9, d10, d11, d12, d13]) rfl ⟨rfl, ?_⟩
      iterate 14 refine below_set (by omega) _ _ ?_
      exact hB

end Go.Proofs.Ytmpicokeenodbaa
