/- What dot.All answers, as a contract over this seat's translation. -/
import Derived.Test.YtpkejjbjhibbkaaDot
import Derived.Test.YtpkejjbjhibbkaaStructs
namespace Go.Proofs.Ytpkejjbjhibbkaa
open Go.RowKit
set_option linter.unusedVariables false

/-- A point: where it is, and whether it is on the curve. -/
abbrev Pt := Int × Int × Bool
def encPt (p : Pt) : List Value := [.int .i64 p.1, .int .i64 p.2.1, .bool p.2.2]
theorem encPt_len (p : Pt) : (encPt p).length = 3 := rfl
theorem encPt_one (p : Pt) : ∀ u ∈ encPt p, u.oneCell' = true := by intro u hu; simp [encPt] at hu; rcases hu with rfl | rfl | rfl <;> rfl
theorem Try.ptinfo : (Try.prog.info? 65).map (fun i => (i.zero, i.size, i.bytes)) = some (some (.agg #[.int .i64 0, .int .i64 0, .bool false]), 3, 24) := by kernel_rfl

/-- Not too far out. -/
def Near (n : Int) : Prop := -2199023255552 ≤ n ∧ n ≤ 2199023255552
def NearP (p : Pt) : Prop := Near p.1 ∧ Near p.2.1

/-- A point, moved. -/
def moveP (a b c d dx dy : Int) (p : Pt) : Pt := (rnd (a * p.1 + c * p.2.1) + dx, rnd (b * p.1 + d * p.2.1) + dy, p.2.2)

/-- How the result looks behind k rounds. -/
def allK (a b c d dx dy : Int) (l : List Pt) (k : Nat) : List Pt := (l.take k).map (moveP a b c d dx dy) ++ List.replicate (l.length - k) (0, 0, false)

theorem allK_len (a b c d dx dy : Int) (l : List Pt) (k : Nat) (hk : k ≤ l.length) : (allK a b c d dx dy l k).length = l.length := by simp [allK]; omega
theorem allK_set (a b c d dx dy : Int) (l : List Pt) (k : Nat) (p : Pt) (hp : l[k]? = some p) : (allK a b c d dx dy l k).set k (moveP a b c d dx dy p) = allK a b c d dx dy l (k + 1) := by
  have hk : k < l.length := (List.getElem?_eq_some_iff.1 hp).1
  unfold allK
  rw [show l.length - k = (l.length - (k + 1)) + 1 by omega, List.replicate_succ, List.set_append_right _ _ (by simp; omega), List.length_map, List.length_take, Nat.min_eq_left (by omega), Nat.sub_self, List.set_cons_zero, List.take_add_one, hp]
  simp

theorem rnd_bd (a c x y : Int) (a0 : -32768 ≤ a) (a1 : a ≤ 32767) (c0 : -32768 ≤ c) (c1 : c ≤ 32767) (hx : Near x) (hy : Near y) : -17592186044416 ≤ rnd (a * x + c * y) ∧ rnd (a * x + c * y) ≤ 17592186044416 := by
  have := mul_bd a x a0 a1 hx.1 hx.2
  have := mul_bd c y c0 c1 hy.1 hy.2
  unfold rnd
  omega

set_option maxRecDepth 100000 in
set_option maxHeartbeats 2000000 in
theorem all_any (A : Option Addr) (n cap : Nat) (l : List Pt) (a b c d dx dy : Int) (w : World) (hr : RowS encPt 3 w A n l) (hn : n ≤ 1000000000000) (hl : ∀ p ∈ l, NearP p) (a0 : -32768 ≤ a) (a1 : a ≤ 32767) (b0 : -32768 ≤ b) (b1 : b ≤ 32767) (c0 : -32768 ≤ c) (c1 : c ≤ 32767) (d0 : -32768 ≤ d) (d1 : d ≤ 32767)
    (hdx : Near dx) (hdy : Near dy) : Calls Try.prog 40 #[.slice A n cap, mxV a b c d, .int .i64 dx, .int .i64 dy] w (RetS 65 encPt 3 w (l.map (moveP a b c d dx dy))) := by
  obtain ⟨i0, hi, hz0, hz1, hz2⟩ := info_parts Try.ptinfo
  obtain ⟨u0, u1⟩ := hdx
  obtain ⟨v0, v1⟩ := hdy
  have Hn := Lib.hid hr.len
  have HL := Lib.hid hl
  clear hl
  go_enter Try.func40, Try.ntmps40
  go_wp2_with (at_make; refine wpList_make_S rfl (.tmp 13) (.tmp 13) _ rfl 65 encPt 3 encPt_len (by omega) w.heap.size i0 _ (0, 0, false) 24 Try.underlying75 hi hz0 hz1 rfl hz2 _ _ n rfl rfl rfl rfl (by omega) (by omega) (by simp) ?_; intro w1 hown1 hg1)
  have hb1 : Below w.heap.size w w1 := ((Below.refl _ w).alloc (Nat.le_refl _) _).grown hg1 (by simp) (fun k e => by cases e)
  have hmx : w1.heap[w.heap.size]? = some (.cells #[.int .i16 a, .int .i16 b, .int .i16 c, .int .i16 d] 63 (0, 0)) := (hg1.block w.heap.size (by simp) (by simp)).trans (heap_alloc_new w _)
  simp only [show (w.alloc (.cells #[.int .i16 a, .int .i16 b, .int .i16 c, .int .i16 d] 63)).heap.size = w.heap.size + 1 by simp] at *
  clear hg1
  rw [show List.replicate n ((0, 0, false) : Pt) = allK a b c d dx dy l 0 by simp [allK, Hn.out]] at hown1
  go_loopw [17] (fun i wr => ∃ k : Nat, k ≤ n ∧ i = .int .i64 k ∧ OwnS 65 encPt 3 wr w.heap.size (some ⟨w.heap.size + 1, 0, none⟩) n n (allK a b c d dx dy l k) ∧ wr.heap[w.heap.size]? = some (.cells #[.int .i16 a, .int .i16 b, .int .i16 c, .int .i16 d] 63 (0, 0)) ∧ Below w.heap.size w wr) (fun i _ => n - (intOf i).toNat)
  case atStart => exact ⟨0, Nat.zero_le _, rfl, hown1, hmx, hb1⟩
  case round =>
    clear hown1 hmx hb1
    obtain ⟨k, hk, rfl, hown, hmx, hbel⟩ := hrel
    by_cases hlt : k < n
    · obtain ⟨p, hp⟩ : ∃ p, l[k]? = some p := ⟨l[k]'(by have := Hn.out; omega), List.getElem?_eq_getElem (by have := Hn.out; omega)⟩
      obtain ⟨g, off, rfl, hg, hc⟩ := (hr.below hbel).at encPt_len (by omega) hp
      have hq0 : wr.cell? ⟨g, off + k * 3, none⟩ = some (.int .i64 p.1) := hc 0 _ rfl
      have hq1 : wr.cell? ⟨g, off + k * 3 + 1, none⟩ = some (.int .i64 p.2.1) := hc 1 _ rfl
      have hq2 : wr.cell? ⟨g, off + k * 3 + 2, none⟩ = some (.bool p.2.2) := hc 2 _ rfl
      have Hp := Lib.hid hp
      obtain ⟨⟨x0, x1⟩, ⟨y0, y1⟩⟩ := HL.out p (List.mem_of_getElem? hp)
      obtain ⟨x, y, on⟩ := p
      simp only at hq0 hq1 hq2 x0 x1 y0 y1
      clear hp hc
      have m0 : wr.cell? ⟨w.heap.size, 0, none⟩ = some (.int .i16 a) := cell_of_row wr _ 0 _ _ _ hmx
      have m1 : wr.cell? ⟨w.heap.size, 1, none⟩ = some (.int .i16 b) := cell_of_row wr _ 1 _ _ _ hmx
      have m2 : wr.cell? ⟨w.heap.size, 2, none⟩ = some (.int .i16 c) := cell_of_row wr _ 2 _ _ _ hmx
      have m3 : wr.cell? ⟨w.heap.size, 3, none⟩ = some (.int .i16 d) := cell_of_row wr _ 3 _ _ _ hmx
      have Hmx := Lib.hid hmx
      clear hmx
      have hsz := hbel.size
      have hlm : w.heap.size < wr.heap.size := lt_of_block Hmx.out
      go_wp2_with fail
      refine (apply_any a b c d x y on _ a0 a1 b0 b1 c0 c1 d0 d1 x0 x1 y0 y1).mono ?_
      rintro e w2 ⟨rfl, hb2⟩
      obtain ⟨g1, g2⟩ := rnd_bd a c x y a0 a1 c0 c1 ⟨x0, x1⟩ ⟨y0, y1⟩
      obtain ⟨g3, g4⟩ := rnd_bd b d x y b0 b1 d0 d1 ⟨x0, x1⟩ ⟨y0, y1⟩
      go_wp2_with fail
      refine (move_any _ _ on dx dy _ (by omega) (by omega) (by omega) (by omega) (by omega) (by omega) (by omega) (by omega)).mono ?_
      rintro e w3 ⟨rfl, hb3⟩
      have hA : Below wr.heap.size wr (wr.alloc (.cells #[.int .i64 x, .int .i64 y, .bool on] 65)) := (Below.refl _ _).alloc (Nat.le_refl _) _
      have hb : Below wr.heap.size wr w3 := hA.trans ((hb2.trans (hb3.mono hb2.size)).mono hA.size)
      have hown3 := hown.below hb
      have hmx3 := (hb.block _ hlm).trans Hmx.out
      have hbel3 := hbel.trans (hb.mono hsz)
      clear hA hb hb2 hb3 hown hbel m0 m1 m2 m3 hq0 hq1 hq2 Hmx
      obtain ⟨z, hz⟩ : ∃ z, (allK a b c d dx dy l k)[k]? = some z := ⟨_, List.getElem?_eq_getElem (by rw [allK_len _ _ _ _ _ _ _ _ (by have := Hn.out; omega)]; have := Hn.out; omega)⟩
      obtain ⟨g', off', e', hg', hc'⟩ := (hown3.row encPt_len).at encPt_len (by omega) hz
      simp only [Option.some.injEq, Addr.mk.injEq, and_true] at e'
      obtain ⟨rfl, rfl⟩ := e'
      have r0 : w3.cell? ⟨w.heap.size + 1, k * 3, none⟩ = some (.int .i64 z.1) := by have := hc' 0 _ rfl; rwa [Nat.zero_add] at this
      have r1 : w3.cell? ⟨w.heap.size + 1, k * 3 + 1, none⟩ = some (.int .i64 z.2.1) := by have := hc' 1 _ rfl; rwa [Nat.zero_add] at this
      have r2 : w3.cell? ⟨w.heap.size + 1, k * 3 + 2, none⟩ = some (.bool z.2.2) := by have := hc' 2 _ rfl; rwa [Nat.zero_add] at this
      clear hc' hz
      have f0 := hown3.thaw
      have hst := ownS_store encPt_len hown3 hlt (moveP a b c d dx dy (x, y, on))
      rw [allK_set _ _ _ _ _ _ _ _ _ Hp.out] at hst
      have hst' := (setCells_block (g := w.heap.size + 1) (q := w.heap.size) (by omega) (encPt (moveP a b c d dx dy (x, y, on))) w3 (k * 3)).trans hmx3
      have hst'' := setCells_below (g := w.heap.size + 1) (by omega) (encPt (moveP a b c d dx dy (x, y, on))) w3 (k * 3) hbel3
      have S1 := Lib.hid hst
      have S2 := Lib.hid hst'
      have S3 := Lib.hid hst''
      clear hst hst' hst'' hown3 hmx3 hbel3
      go_wp2
      go_roundw
      case rel => exact ⟨k + 1, by omega, by go_num, S1.out, S2.out, S3.out⟩
      case measure => simp [intOf]; omega
    · have hE : allK a b c d dx dy l k = l.map (moveP a b c d dx dy) := by
        have := Hn.out
        unfold allK
        rw [List.take_of_length_le (by omega), show l.length - k = 0 by omega]
        simp
      rw [hE] at hown
      clear hE hmx
      go_wp2
      go_ret
      exact ⟨_, _, _, rfl, hown, hbel⟩

end Go.Proofs.Ytpkejjbjhibbkaa
