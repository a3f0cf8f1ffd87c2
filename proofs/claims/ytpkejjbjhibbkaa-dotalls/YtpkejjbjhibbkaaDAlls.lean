/- The law DotAlls. -/
import Derived.Test.YtpkejjbjhibbkaaDotAll
import Derived.Test.YtpkejjbjhibbkaaDRounds
import Derived.Test.YtpkejjbjhibbkaaPtsOpen
import Derived.Test.YtpkejjbjhibbkaaGrow
import Derived.Deep.RegionWith
import Derived.Deep.RegionHeld3
import Derived.Lib.SliceRun
import Derived.Deep.DeepCutAuto
namespace Go.Proofs.Ytpkejjbjhibbkaa
open Go.RowKit
set_option linter.unusedVariables false

/-- A point that isn't too far out. -/
def smallP (p : Pt) : Pt := (p.1.tmod 1099511627776, p.2.1.tmod 1099511627776, p.2.2)
def first20 (l : List Pt) : List Pt := (l.take 20).map smallP

theorem smallP_near (p : Pt) : NearP (smallP p) := by
  have h1 := tm_bd p.1 1099511627776 (by omega)
  have h2 := tm_bd p.2.1 1099511627776 (by omega)
  unfold NearP Near smallP
  simp only
  omega

theorem first20_snoc (l : List Pt) (k : Nat) (p : Pt) (hp : l[k]? = some p) (hk : k < 20) : first20 (l.take k) ++ [smallP p] = first20 (l.take (k + 1)) := by
  have h : k < l.length := (List.getElem?_eq_some_iff.1 hp).1
  unfold first20
  rw [List.take_take, List.take_take, Nat.min_eq_right (by omega), Nat.min_eq_right (by omega), List.take_add_one, hp]
  simp
theorem first20_same (l : List Pt) (k : Nat) (hk : 20 ≤ k) : first20 (l.take k) = first20 (l.take (k + 1)) := by
  unfold first20
  rw [List.take_take, List.take_take, Nat.min_eq_left (by omega), Nat.min_eq_left (by omega)]

set_option maxRecDepth 100000 in
set_option maxHeartbeats 4000000 in
theorem law_DotAlls (A : Option Addr) (n cap : Nat) (l : List Pt) (a b c d dx dy : Int) (w : World) (hr : RowS encPt 3 w A n l) (hn : n ≤ 9223372036854775807) (a0 : -32768 ≤ a) (a1 : a ≤ 32767) (b0 : -32768 ≤ b) (b1 : b ≤ 32767) (c0 : -32768 ≤ c) (c1 : c ≤ 32767) (d0 : -32768 ≤ d) (d1 : d ≤ 32767) :
    Calls Try.prog 11 #[.slice A n cap, mxV a b c d, .int .i64 dx, .int .i64 dy] w fun e w' => e = .returned (.bool true) ∧ Below w.heap.size w w' := by
  obtain ⟨i0, hi, hz0, hz1, hz2⟩ := info_parts Try.ptinfo
  obtain ⟨u0, u1⟩ := tm_bd dx 1099511627776 (by omega)
  obtain ⟨v0, v1⟩ := tm_bd dy 1099511627776 (by omega)
  have ku := fun W => small_any dx W
  have kv := fun W => small_any dy W
  generalize dx.tmod 1099511627776 = dx' at u0 u1 ku
  generalize dy.tmod 1099511627776 = dy' at v0 v1 kv
  have KU := Lib.hid ku
  have KV := Lib.hid kv
  clear ku kv
  have Hn := Lib.hid hr.len
  go_enter Try.func11, Try.ntmps11
  go_wp2_with fail
  refine (awake4_any _).mono ?_
  rintro e w' ⟨rfl, rfl⟩
  go_wp2_with fail
  refine (KU.out _).mono ?_
  rintro e w' ⟨rfl, rfl⟩
  go_wp2_with fail
  refine (KV.out _).mono ?_
  rintro e w' ⟨rfl, rfl⟩
  clear KU KV
  have hmx : (w.alloc (.cells #[.int .i16 a, .int .i16 b, .int .i16 c, .int .i16 d] 63)).heap[w.heap.size]? = some (.cells #[.int .i16 a, .int .i16 b, .int .i16 c, .int .i16 d] 63 (0, 0)) := heap_alloc_new w _
  have hb0 : Below w.heap.size w (w.alloc (.cells #[.int .i16 a, .int .i16 b, .int .i16 c, .int .i16 d] 63)) := (Below.refl _ w).alloc (Nat.le_refl _) _
  have Hmx := Lib.hid hmx
  have Hb0 := Lib.hid hb0
  clear hmx hb0
  go_wp2
  go_loopw [9, 24] (fun v i wr => ∃ (k : Nat) (A2 : Option Addr) (n2 c2 : Nat), k ≤ n ∧ i = .int .i64 k ∧ v = .slice A2 n2 c2 ∧ OwnS 65 encPt 3 wr w.heap.size A2 n2 c2 (first20 (l.take k)) ∧ wr.heap[w.heap.size]? = some (.cells #[.int .i16 a, .int .i16 b, .int .i16 c, .int .i16 d] 63 (0, 0)) ∧ Below w.heap.size w wr) (fun _ i _ => n - (intOf i).toNat)
  case atStart => exact ⟨0, none, 0, 0, Nat.zero_le _, rfl, rfl, by simpa [first20] using OwnS.nil _ _ _ _ _, Hmx.out, Hb0.out⟩
  case round =>
    clear Hmx Hb0
    obtain ⟨k, A2, n2, c2, hk, rfl, rfl, hown, hmx, hbel⟩ := hrel
    have hn2 : n2 ≤ 20 := by have := hown.len; simp [first20] at this; omega
    by_cases hlt : k < n
    · obtain ⟨p, hp⟩ : ∃ p, l[k]? = some p := ⟨l[k]'(by have := Hn.out; omega), List.getElem?_eq_getElem (by have := Hn.out; omega)⟩
      obtain ⟨g, off, rfl, hg, hc⟩ := (hr.below hbel).at encPt_len (by omega) hp
      have hq0 : wr.cell? ⟨g, off + k * 3, none⟩ = some (.int .i64 p.1) := hc 0 _ rfl
      have hq1 : wr.cell? ⟨g, off + k * 3 + 1, none⟩ = some (.int .i64 p.2.1) := hc 1 _ rfl
      have hq2 : wr.cell? ⟨g, off + k * 3 + 2, none⟩ = some (.bool p.2.2) := hc 2 _ rfl
      have Hp := Lib.hid hp
      have Hmx := Lib.hid hmx
      have hlm : w.heap.size < wr.heap.size := lt_of_block hmx
      have hsz := hbel.size
      clear hp hc hmx
      by_cases h20 : k < 20
      · have HS := Lib.hid (first20_snoc l k p Hp.out h20)
        have kx := fun W => small_any p.1 W
        have ky := fun W => small_any p.2.1 W
        obtain ⟨x, y, on⟩ := p
        simp only at hq0 hq1 hq2 kx ky
        have KX := Lib.hid kx
        have KY := Lib.hid ky
        clear kx ky
        go_wp2_with fail
        have hk0 : (wr.alloc (.cells #[.int .i64 x, .int .i64 y, .bool on] 65)).heap[wr.heap.size]? = some (.cells #[.int .i64 x, .int .i64 y, .bool on] 65 (0, 0)) := heap_alloc_new _ _
        have hown' := hown.alloc (.cells #[.int .i64 x, .int .i64 y, .bool on] 65)
        have hbel' := hbel.alloc hsz (.cells #[.int .i64 x, .int .i64 y, .bool on] 65)
        have hsz' : (wr.alloc (.cells #[.int .i64 x, .int .i64 y, .bool on] 65)).heap.size = wr.heap.size + 1 := by simp
        generalize hV : wr.alloc (.cells #[.int .i64 x, .int .i64 y, .bool on] 65) = V at *
        have z0 : V.cell? ⟨wr.heap.size, 0, none⟩ = some (.int .i64 x) := cell_of_row V _ 0 _ _ _ hk0
        have z1 : V.cell? ⟨wr.heap.size, 1, none⟩ = some (.int .i64 y) := cell_of_row V _ 1 _ _ _ hk0
        have z2 : V.cell? ⟨wr.heap.size, 2, none⟩ = some (.bool on) := cell_of_row V _ 2 _ _ _ hk0
        have HV := Lib.hid hV
        have Hsz := Lib.hid hsz'
        clear hV hk0 hq0 hq1 hq2 hsz'
        have hVs : w.heap.size ≤ V.heap.size := by have := Hsz.out; omega
        have hne : some wr.heap.size ≠ blockOf A2 := fun e => by have := (hown.from_ _ e.symm).2; omega
        have hneA : some w.heap.size = blockOf A2 → False := fun e => by
          rcases hown.shape with ⟨rfl, _⟩ | ⟨gg, cur, rfl, _, _, hh, _⟩
          · simp [blockOf] at e
          · simp [blockOf] at e
            rw [← e, Hmx.out] at hh
            simp at hh
        have kk : ∀ (o : Obj) (w3 : World), ((V.alloc o).drew).grownBy w3 (blockOf A2) → w3.cell? ⟨wr.heap.size, 0, none⟩ = some (.int .i64 x) ∧ w3.cell? ⟨wr.heap.size, 1, none⟩ = some (.int .i64 y) ∧ w3.cell? ⟨wr.heap.size, 2, none⟩ = some (.bool on) := fun o w3 hg =>
          ⟨hg.cell (a := ⟨wr.heap.size, 0, none⟩) (Lib.cell?_alloc_some (W := V) o z0) hne, hg.cell (a := ⟨wr.heap.size, 1, none⟩) (Lib.cell?_alloc_some (W := V) o z1) hne, hg.cell (a := ⟨wr.heap.size, 2, none⟩) (Lib.cell?_alloc_some (W := V) o z2) hne⟩
        have KK := Lib.hid kk
        clear kk
        go_region_held3 (fun w' => w'.cell? ⟨wr.heap.size, 0, none⟩ = some (.int .i64 x) ∧ w'.cell? ⟨wr.heap.size, 1, none⟩ = some (.int .i64 y) ∧ w'.cell? ⟨wr.heap.size, 2, none⟩ = some (.bool on))
          (first | exact ⟨z0, z1, z2⟩ | exact KK.out _ _ hg3 | go_keep)
          (first
          | (go_at_call 34; first
            | (with_reducible refine (KX.out _).mono ?_); rintro e w' ⟨rfl, rfl⟩
            | (with_reducible refine (KY.out _).mono ?_); rintro e w' ⟨rfl, rfl⟩)
          | (refine step_append_rowS rfl (.tmp 31) (.tmp 41) _ rfl 65 encPt 3 encPt_len (by omega) encPt_one w.heap.size i0 _ 24 Try.underlying75 hi hz0 hz1 rfl hz2 A2 n2 c2 _ rfl (hown'.alloc _).drew (some ⟨V.heap.size, 0, none⟩) 1 1 [smallP (x, y, on)] rfl (rowS_vals encPt_len V 65 [smallP (x, y, on)] _ rfl 1 rfl).drew (by omega) (by omega) (by simp; omega) ?_; intro A3 c3 w3 hown3 hg3))
        rw [HS.out] at hown3
        have hmx3 : w3.heap[w.heap.size]? = some (.cells #[.int .i16 a, .int .i16 b, .int .i16 c, .int .i16 d] 63 (0, 0)) := by
          refine (hg3.block w.heap.size (by have := Hsz.out; simp; omega) ?_).trans ?_
          · exact fun e => hneA e
          · rw [show ∀ W : World, W.drew.heap = W.heap from fun _ => rfl, Below.heap_alloc _ _ _ (by have := Hsz.out; omega), ← HV.out, Below.heap_alloc _ _ _ hlm]
            exact Hmx.out
        have hbel3 : Below w.heap.size w w3 := ((hbel'.alloc hVs _).drew).grown hg3 (by simp; omega) (fun q e => (hown.from_ q e).1)
        clear hg3 hown hown' hbel hbel' KX KY KK z0 z1 z2 Hmx
        go_wp2
        go_roundw
        case rel => exact ⟨k + 1, A3, n2 + 1, c3, by omega, by go_num, rfl, hown3, hmx3, hbel3⟩
        case measure => simp [intOf]; omega
      · rw [first20_same l k (by omega)] at hown
        have hown4 := hown.alloc (.cells #[.int .i64 p.1, .int .i64 p.2.1, .bool p.2.2] 65)
        have hbel4 := hbel.alloc hsz (.cells #[.int .i64 p.1, .int .i64 p.2.1, .bool p.2.2] 65)
        have hmx4 := (Below.heap_alloc wr (.cells #[.int .i64 p.1, .int .i64 p.2.1, .bool p.2.2] 65) w.heap.size hlm).trans Hmx.out
        have HA := Lib.hid hown4
        have HB := Lib.hid hbel4
        have HC := Lib.hid hmx4
        clear hown4 hbel4 hmx4 hown hbel Hmx
        go_wp2
        go_roundw
        case rel => exact ⟨k + 1, A2, n2, c2, by omega, by go_num, rfl, HA.out, HC.out, HB.out⟩
        case measure => simp [intOf]; omega
    · rw [show l.take k = l from List.take_of_length_le (by have := Hn.out; omega)] at hown
      have hsz := hbel.size
      go_upto_region 12 with (at_builtin; refine wpList_append_rowS rfl (.tmp 44) (.tmp 45) _ rfl 65 encPt 3 encPt_len (by omega) encPt_one w.heap.size i0 _ 24 Try.underlying75 hi hz0 hz1 rfl hz2 (some ⟨wr.heap.size, 0, none⟩) 0 0 [] rfl (ownS_lit wr w.heap.size 65 encPt 3 encPt_len [] #[] rfl 0 rfl hsz (by simp only [maxLen]; omega)) A2 n2 c2 (first20 l) rfl ((hown.row encPt_len).below ((Below.refl _ _).alloc (Nat.le_refl _) _)) (by omega) (by omega) (by simp; omega) ?_; intro A5 c5 w5 hown5 hg5)
      have hA : Below wr.heap.size wr (wr.alloc (.cells #[] 65)) := (Below.refl _ _).alloc (Nat.le_refl _) _
      have hb5 : Below wr.heap.size wr w5 := hA.grown hg5 (by simp) (fun q e => by simp [blockOf] at e; omega)
      have hlm : w.heap.size < wr.heap.size := lt_of_block hmx
      have hmx5 := (hb5.block _ hlm).trans hmx
      have hO := hown.below hb5
      have hbel5 := hbel.trans (hb5.mono hsz)
      have hfar : ∀ gg, blockOf A5 = some gg → gg ≠ w.heap.size := fun gg e => by
        rcases hown5.shape with ⟨rfl, _⟩ | ⟨gg', cur, rfl, _, _, hh, _⟩
        · simp [blockOf] at e
        · simp [blockOf] at e
          rintro rfl
          rw [e, hmx5] at hh
          simp at hh
      clear hg5 hA hmx hown hbel hr hb5
      simp only [List.nil_append, Nat.zero_add] at hown5
      have hl5 := hown5.len
      have hs5 := hbel5.size
      have hlm5 : w.heap.size < w5.heap.size := lt_of_block hmx5
      generalize hL : first20 l = L at *
      have hnear : ∀ p ∈ L, NearP p := by
        rw [← hL]
        intro p hp
        unfold first20 at hp
        obtain ⟨q, _, rfl⟩ := List.mem_map.1 hp
        exact smallP_near q
      have Hnear := Lib.hid hnear
      have Hl5 := Lib.hid hl5
      clear hL hnear hl5
      have m0 : w5.cell? ⟨w.heap.size, 0, none⟩ = some (.int .i16 a) := cell_of_row w5 _ 0 _ _ _ hmx5
      have m1 : w5.cell? ⟨w.heap.size, 1, none⟩ = some (.int .i16 b) := cell_of_row w5 _ 1 _ _ _ hmx5
      have m2 : w5.cell? ⟨w.heap.size, 2, none⟩ = some (.int .i16 c) := cell_of_row w5 _ 2 _ _ _ hmx5
      have m3 : w5.cell? ⟨w.heap.size, 3, none⟩ = some (.int .i16 d) := cell_of_row w5 _ 3 _ _ _ hmx5
      have Hmx5 := Lib.hid hmx5
      clear hmx5
      go_wp2_with fail
      refine (all_any A2 n2 c2 L a b c d dx' dy' _ (hO.row encPt_len) (by omega) Hnear.out a0 a1 b0 b1 c0 c1 d0 d1 ⟨by omega, by omega⟩ ⟨by omega, by omega⟩).mono ?_
      rintro e w6 ⟨A6, n6, c6, rfl, hown6, hb6⟩
      obtain rfl : n6 = n2 := by have := hown6.len; rw [List.length_map, Hl5.out] at this; exact this.symm
      have hmx6 := (hb6.block _ hlm5).trans Hmx5.out
      have hO6 := (hO.below hb6).row encPt_len
      have hW6 := (hown5.below hb6).row encPt_len
      have hR6 := hown6.row encPt_len
      have hbel6 := hbel5.trans (hb6.mono hs5)
      have hs6 := hb6.size
      clear hb6 hO hown5 hown6 hbel5 m0 m1 m2 m3 Hmx5 hfar
      have hne : ((n6 : Int) != (n6 : Int)) = false := by simp
      go_wp2
      clear hne
      go_loopw [59] (fun i wz => ∃ k : Nat, k ≤ n6 ∧ i = .int .i64 k ∧ Below w6.heap.size w6 wz) (fun i _ => n6 - (intOf i).toNat)
      case atStart => exact ⟨0, Nat.zero_le _, rfl, Below.refl _ _⟩
      case round =>
        obtain ⟨j, hj, rfl, hbz⟩ := hrel
        by_cases hjn : j < n6
        · obtain ⟨p, hp⟩ : ∃ p, L[j]? = some p := ⟨L[j]'(by have := Hl5.out; omega), List.getElem?_eq_getElem (by have := Hl5.out; omega)⟩
          obtain ⟨g1, o1, rfl, hg1, q1⟩ := (hW6.below hbz).at encPt_len (by omega) hp
          obtain ⟨g2, o2, rfl, hg2, q2⟩ := (hO6.below hbz).at encPt_len (by omega) hp
          obtain ⟨g3, o3, rfl, hg3, q3⟩ := (hR6.below hbz).at encPt_len (by omega) (j := j) (x := moveP a b c d dx' dy' p) (by rw [List.getElem?_map, hp]; rfl)
          obtain ⟨⟨x0, x1⟩, ⟨y0, y1⟩⟩ := Hnear.out p (List.mem_of_getElem? hp)
          obtain ⟨x, y, on⟩ := p
          simp only at x0 x1 y0 y1
          have s0 : wr.cell? ⟨g1, o1 + j * 3, none⟩ = some (.int .i64 x) := q1 0 _ rfl
          have s1 : wr.cell? ⟨g1, o1 + j * 3 + 1, none⟩ = some (.int .i64 y) := q1 1 _ rfl
          have s2 : wr.cell? ⟨g1, o1 + j * 3 + 2, none⟩ = some (.bool on) := q1 2 _ rfl
          have t0 : wr.cell? ⟨g2, o2 + j * 3, none⟩ = some (.int .i64 x) := q2 0 _ rfl
          have t1 : wr.cell? ⟨g2, o2 + j * 3 + 1, none⟩ = some (.int .i64 y) := q2 1 _ rfl
          have t2 : wr.cell? ⟨g2, o2 + j * 3 + 2, none⟩ = some (.bool on) := q2 2 _ rfl
          have r0 : wr.cell? ⟨g3, o3 + j * 3, none⟩ = some (.int .i64 (rnd (a * x + c * y) + dx')) := q3 0 _ rfl
          have r1 : wr.cell? ⟨g3, o3 + j * 3 + 1, none⟩ = some (.int .i64 (rnd (b * x + d * y) + dy')) := q3 1 _ rfl
          have r2 : wr.cell? ⟨g3, o3 + j * 3 + 2, none⟩ = some (.bool on) := q3 2 _ rfl
          have hmz := (hbz.block _ (by omega)).trans hmx6
          have m0 : wr.cell? ⟨w.heap.size, 0, none⟩ = some (.int .i16 a) := cell_of_row wr _ 0 _ _ _ hmz
          have m1 : wr.cell? ⟨w.heap.size, 1, none⟩ = some (.int .i16 b) := cell_of_row wr _ 1 _ _ _ hmz
          have m2 : wr.cell? ⟨w.heap.size, 2, none⟩ = some (.int .i16 c) := cell_of_row wr _ 2 _ _ _ hmz
          have m3 : wr.cell? ⟨w.heap.size, 3, none⟩ = some (.int .i16 d) := cell_of_row wr _ 3 _ _ _ hmz
          have hs := hbz.size
          have hbz' := hbz.alloc hs (.cells #[.int .i64 x, .int .i64 y, .bool on] 65)
          have Hmx6 := Lib.hid hmx6
          have Hbz' := Lib.hid hbz'
          obtain ⟨e1, e2⟩ := rnd_bd a c x y a0 a1 c0 c1 ⟨x0, x1⟩ ⟨y0, y1⟩
          obtain ⟨e3, e4⟩ := rnd_bd b d x y b0 b1 d0 d1 ⟨x0, x1⟩ ⟨y0, y1⟩
          have k1 := fun W => apply_any a b c d x y on W a0 a1 b0 b1 c0 c1 d0 d1 x0 x1 y0 y1
          have k2 := fun W => move_any (rnd (a * x + c * y)) (rnd (b * x + d * y)) on dx' dy' W (by omega) (by omega) (by omega) (by omega) (by omega) (by omega) (by omega) (by omega)
          have K1 := Lib.hid k1
          have K2 := Lib.hid k2
          clear k1 k2 hmz hmx6 hp q1 q2 q3 hbz hbz'
          go_wp2_with fail
          have hnew := heap_alloc_new wr (.cells #[.int .i64 x, .int .i64 y, .bool on] 65)
          generalize hV : wr.alloc (.cells #[.int .i64 x, .int .i64 y, .bool on] 65) = V at hnew ⊢
          have cv : ∀ (ad : Addr) (u : Value), wr.cell? ad = some u → V.cell? ad = some u := fun ad u h => by rw [← hV]; exact Lib.cell?_alloc_some _ h
          have T0 := gw_cell (cv _ _ t0)
          have T1 := gw_cell (cv _ _ t1)
          have T2 := gw_cell (cv _ _ t2)
          have R0 := gw_cell (cv _ _ r0)
          have R1 := gw_cell (cv _ _ r1)
          have R2 := gw_cell (cv _ _ r2)
          have M0 := gw_cell (cv _ _ m0)
          have M1 := gw_cell (cv _ _ m1)
          have M2 := gw_cell (cv _ _ m2)
          have M3 := gw_cell (cv _ _ m3)
          have P0 := gw_cell (show V.cell? ⟨wr.heap.size, 0, none⟩ = some (.int .i64 x) from cell_of_row V _ 0 _ _ _ hnew)
          have P1 := gw_cell (show V.cell? ⟨wr.heap.size, 1, none⟩ = some (.int .i64 y) from cell_of_row V _ 1 _ _ _ hnew)
          have P2 := gw_cell (show V.cell? ⟨wr.heap.size, 2, none⟩ = some (.bool on) from cell_of_row V _ 2 _ _ _ hnew)
          have HV := Lib.hid hV
          clear hV cv t0 t1 t2 r0 r1 r2 m0 m1 m2 m3 s0 s1 s2 hnew
          have j0 : (0 : Int) ≤ (j : Int) := by omega
          have j1 : (j : Int) < (n6 : Int) := by omega
          refine region_below (by kernel_rfl) (by kernel_rfl) ?_
          repeat (quiet_step (first
            | (go_at_call 35; exact calls_gw (K1.out _))
            | (go_at_call 36; exact calls_gw (K2.out _))))
          refine wpQuiet_nil ?_
          rintro _ ⟨p, rfl⟩
          clear K1 K2 T0 T1 T2 R0 R1 R2 M0 M1 M2 M3 P0 P1 P2
          go_wp2
          go_roundw
          case rel => exact ⟨j + 1, by omega, by go_num, by have h := Hbz'.out; rw [HV.out] at h; exact h.trans ((gw_below V _ _).mono h.size)⟩
          case measure => simp [intOf]; omega
        · clear hmx6
          go_wp2
          go_ret
          exact ⟨rfl, hbel6.trans (hbz.mono (by omega))⟩

end Go.Proofs.Ytpkejjbjhibbkaa
