/- The law SegParses. -/
import Derived.Test.YthkaeimpflggjaaSegV
import Derived.Test.YthkaeimpflggjaaLSegA
namespace Go.Proofs.Ythkaeimpflggjaa
open Go.RowKit
set_option linter.unusedVariables false

/-- A table's bytes, a map in a box, and codes. -/
structure LPS (w wr : World) (Ac : Option Addr) (nc : Nat) (zs : List Int) (bx : Nat) (A2 : Option Addr) (N c2 : Nat) (g : Nat) (A1 : Option Addr) (n1 : Nat) (z1 : List Int) : Prop where
  row : Row wr Ac nc (cellsOf .u8 zs)
  box : wr.heap[bx]? = some (.cells #[.slice A2 N c2] 59 (0, 0))
  map : SMap wr A2 N zs g
  cod : Row wr A1 n1 (cellsOf .i32 z1)
  bel : Below w.heap.size w wr
theorem LPS.below {w wr w' : World} {Ac : Option Addr} {nc : Nat} {zs : List Int} {bx : Nat} {A2 : Option Addr} {N c2 : Nat} {g : Nat} {A1 : Option Addr} {n1 : Nat} {z1 : List Int} (h : LPS w wr Ac nc zs bx A2 N c2 g A1 n1 z1) (hb : Below wr.heap.size wr w') : LPS w w' Ac nc zs bx A2 N c2 g A1 n1 z1 :=
  ⟨h.row.below hb, kept_block h.box hb, h.map.below hb, h.cod.below hb, h.bel.trans (hb.mono h.bel.size)⟩
theorem LPS.cell {w wr : World} {Ac : Option Addr} {nc : Nat} {zs : List Int} {bx : Nat} {A2 : Option Addr} {N c2 : Nat} {g : Nat} {A1 : Option Addr} {n1 : Nat} {z1 : List Int} (h : LPS w wr Ac nc zs bx A2 N c2 g A1 n1 z1) : wr.cell? ⟨bx, 0, none⟩ = some (.slice A2 N c2) := cell_of_row _ _ 0 _ _ _ h.box

theorem i32_wfS {z1 : List Int} (h : Wf .i32 z1) {j : Nat} {x : Int} (hx : z1[j]? = some x) : -2147483648 ≤ x ∧ x ≤ 2147483647 := bounds_i32 (h x (List.mem_of_getElem? hx))

set_option maxRecDepth 100000 in
set_option maxHeartbeats 4000000 in
theorem law_SegParses (A0 : Option Addr) (n0 c0 : Nat) (z0 : List Int) (A1 : Option Addr) (n1 c1 : Nat) (z1 : List Int) (w : World) (hr0 : Row w A0 n0 (cellsOf .u8 z0)) (hB0 : Bytes z0) (hn0 : n0 ≤ 9223372036854775807)
    (hr1 : Row w A1 n1 (cellsOf .i32 z1)) (hW1 : Wf .i32 z1) (hn1 : n1 ≤ 9223372036854775807) :
    Calls Try.prog 7 #[.slice A0 n0 c0, .slice A1 n1 c1] w (True_ w) := by
  go_enter Try.func7, Try.ntmps7
  go_wp2_with fail
  with_reducible refine (awake09_any w).mono ?_
  rintro e w0 ⟨rfl, hb0⟩
  go_wp2_with fail
  refine (cut_any _ _ _ z0 300 _ (hr0.below hb0) hn0 (by omega)).mono ?_
  rintro e w1 ⟨Ac, nc, cc, rfl, hown, hb1'⟩
  have hb1 : Below w.heap.size w w1 := hb0.trans (hb1'.mono hb0.size)
  have hB1 : Bytes (z0.take (300 : Int).toNat) := cut_bytes hB0 _
  have hl1 : nc ≤ 300 := by have := hown.len; rw [List.length_take] at this; simp at this; omega
  have hrow := hown.row
  have hcap := hown.cap
  have hcod := hr1.below hb1
  clear hb1' hb0 hr0 hB0 hn0 hown hr1
  generalize z0.take (300 : Int).toNat = zs at *
  have HB := Lib.hid hB1
  have HW := Lib.hid hW1
  have HP := Lib.hid (sparse_any Ac nc cc zs w1 hrow hB1 (by omega) hcap)
  clear hB1 hW1
  go_wp2_with fail
  with_reducible refine HP.out.mono ?_
  rintro e w2 ⟨hb2, ⟨hf, rfl⟩ | ⟨hf, A2, c2, g2, rfl, hown2, hnum2⟩⟩
  · have hA2 : Below w2.heap.size w2 (w2.alloc (.cells #[.slice none 0 0] 59)) := (Below.refl _ _).alloc (Nat.le_refl _) _
    have hb3 := hb2.trans (hA2.mono hb2.size)
    have hs : LPS w (w2.alloc (.cells #[.slice none 0 0] 59)) Ac nc zs w2.heap.size none 0 0 0 A1 n1 z1 :=
      ⟨hrow.below hb3, heap_alloc_new w2 _, SMap.nil _ _ HB.out, hcod.below hb3, hb1.trans (hb3.mono hb1.size)⟩
    have HR := Lib.hid (rright9_any Ac nc cc zs _ hs.row HB.out (by omega) hcap)
    have ev : sRV zs = 0 := by unfold sRV; rw [hf]; rfl
    rw [hf, ev] at HR
    unfold smV
    clear hA2 hb3 hb2 hrow hcod HP hb1 hf ev
    go_wp2_with fail
    with_reducible refine HR.out.mono ?_
    rintro e w3 ⟨rfl, hb3⟩
    have hs3 := hs.below hb3
    have k3 := hs3.cell
    have HGr := Lib.hid (fun W => ssegments_any none 0 0 W)
    unfold smV at HGr
    clear hs HR hb3
    go_wp2_with fail
    with_reducible refine (HGr.out _).mono ?_
    rintro e w4 ⟨rfl, hb4⟩
    have hs4 := hs3.below hb4
    have k4 := hs4.cell
    have HL := Lib.hid (slook_any none 0 0 zs 0 65 _ hs4.map (by omega) (by omega) (by omega))
    unfold smV at HL
    rw [show lookS zs 0 65 0 0 = 0 from rfl] at HL
    clear hs3 hb4 k3 HGr
    go_wp2_with fail
    with_reducible refine HL.out.mono ?_
    rintro e w5 ⟨rfl, hb5⟩
    have hs5 := hs4.below hb5
    go_wp2
    go_ret
    exact ⟨rfl, hs5.bel⟩
  · have hN : sN zs ≤ 32767 := by have := sRight_facts HB.out hf; omega
    have hm := SMap.of HB.out hf hown2 hnum2
    have ev : sRV zs = (sN zs : Int) := by unfold sRV; rw [hf]; rfl
    have hA2 : Below w2.heap.size w2 (w2.alloc (.cells #[.slice A2 (sN zs) c2] 59)) := (Below.refl _ _).alloc (Nat.le_refl _) _
    have hb3 := hb2.trans (hA2.mono hb2.size)
    have hs : LPS w (w2.alloc (.cells #[.slice A2 (sN zs) c2] 59)) Ac nc zs w2.heap.size A2 (sN zs) c2 g2 A1 n1 z1 :=
      ⟨hrow.below hb3, heap_alloc_new w2 _, hm.below hA2, hcod.below hb3, hb1.trans (hb3.mono hb1.size)⟩
    have HR := Lib.hid (rright9_any Ac nc cc zs _ hs.row HB.out (by omega) hcap)
    rw [hf, ev] at HR
    have Hn1 := Lib.hid hcod.len
    unfold smV
    clear hA2 hb3 hb2 hrow hcod HP hb1 hf ev hm hown2 hnum2
    generalize sN zs = N at *
    have HLk : Hid (∀ (W : World) (code : Int), LPS w W Ac nc zs w2.heap.size A2 N c2 g2 A1 n1 z1 → -2147483648 ≤ code → code ≤ 2147483647 → Calls Try.prog 30 #[.agg #[.slice A2 N c2], .int .i32 code] W (Ret W (.int .u16 (lookS zs N code 0 N)))) := fun W code h a b => slook_any A2 N c2 zs g2 code W h.map (by omega) a b
    have HRk : Hid (∀ (W : World) (code : Int), LPS w W Ac nc zs w2.heap.size A2 N c2 g2 A1 n1 z1 → -2147483648 ≤ code → code ≤ 2147483647 → Calls Try.prog 32 #[.slice Ac nc cc, .int .i64 N, .int .i64 code] W (Ret W (.int .i64 (lookS zs N code 0 N)))) := fun W code h a b => rlook9_any Ac nc cc zs N code W h.row HB.out (by omega) (by omega) a b
    go_wp2_with fail
    with_reducible refine HR.out.mono ?_
    rintro e w3 ⟨rfl, hb3⟩
    have hs3 := hs.below hb3
    have k3 := hs3.cell
    have HGr := Lib.hid (fun W => ssegments_any A2 N c2 W)
    unfold smV at HGr
    have hne : ((N : Int) != (N : Int)) = false := by simp
    clear hs HR hb3
    go_wp2_with fail
    with_reducible refine (HGr.out _).mono ?_
    rintro e w4 ⟨rfl, hb4⟩
    have hs4 := hs3.below hb4
    clear hs3 hb4 k3 HGr
    generalize w2.heap.size = bx at *
    go_wp2
    clear hne
    go_loopw [50] (fun i wr => ∃ k : Nat, k ≤ n1 ∧ i = .int .i64 k ∧ LPS w wr Ac nc zs bx A2 N c2 g2 A1 n1 z1) (fun i _ => n1 - (intOf i).toNat)
    case atStart => exact ⟨0, Nat.zero_le _, rfl, hs4⟩
    case round =>
      clear hs4
      obtain ⟨k, hk, rfl, hs⟩ := hrel
      by_cases hlt : k < n1
      · obtain ⟨x, hx⟩ := getP (l := z1) (j := k) (by have := Hn1.out; omega)
        obtain ⟨g, off, rfl, hg, hcx⟩ := hs.cod.at (j := k) (u := .int .i32 x) (cellsOf_get hx)
        obtain ⟨x0, x1⟩ := i32_wfS HW.out hx
        clear hx
        by_cases h20 : k < 20
        · have k0 := hs.cell
          obtain ⟨v0, v1⟩ := lookS_lt zs N x N 0
          have H1 := Lib.hid (HLk.out _ x hs x0 x1)
          have hnv : (lookS zs N x 0 N != lookS zs N x 0 N) = false := by simp
          go_wp2_with fail
          with_reducible refine H1.out.mono ?_
          rintro e w5 ⟨rfl, hb5⟩
          have hs5 := hs.below hb5
          have H2 := Lib.hid (HRk.out _ x hs5 x0 x1)
          clear hs hb5 H1 k0 hcx
          go_wp2_with fail
          with_reducible refine H2.out.mono ?_
          rintro e w6 ⟨rfl, hb6⟩
          have hs6 := hs5.below hb6
          clear hs5 hb6 H2
          generalize lookS zs N x 0 N = v at *
          go_wp2
          go_roundw
          case rel => exact ⟨k + 1, by omega, by go_num, hs6⟩
          case measure => simp [intOf]; omega
        · go_wp2
          go_roundw
          case rel => exact ⟨k + 1, by omega, by go_num, hs⟩
          case measure => simp [intOf]; omega
      · go_wp2
        go_loopw [70] (fun i wr => ∃ k : Nat, k ≤ 600 ∧ i = .int .i32 k ∧ LPS w wr Ac nc zs bx A2 N c2 g2 A1 n1 z1) (fun i _ => 600 - (intOf i).toNat)
        case atStart => exact ⟨0, Nat.zero_le _, rfl, hs⟩
        case round =>
          clear hs hlt hk
          obtain ⟨j, hj, rfl, hs⟩ := hrel
          by_cases hlt : j < 600
          · have k0 := hs.cell
            obtain ⟨v0, v1⟩ := lookS_lt zs N (j : Int) N 0
            have H1 := Lib.hid (HLk.out _ (j : Int) hs (by omega) (by omega))
            have hnv : (lookS zs N (j : Int) 0 N != lookS zs N (j : Int) 0 N) = false := by simp
            go_wp2_with fail
            with_reducible refine H1.out.mono ?_
            rintro e w5 ⟨rfl, hb5⟩
            have hs5 := hs.below hb5
            have H2 := Lib.hid (HRk.out _ (j : Int) hs5 (by omega) (by omega))
            clear hs hb5 H1 k0
            go_wp2_with fail
            with_reducible refine H2.out.mono ?_
            rintro e w6 ⟨rfl, hb6⟩
            have hs6 := hs5.below hb6
            clear hs5 hb6 H2
            generalize lookS zs N (j : Int) 0 N = v at *
            go_wp2
            go_roundw
            case rel => exact ⟨j + 1, by omega, by go_num, hs6⟩
            case measure => simp [intOf]; omega
          · go_wp2
            go_ret
            exact ⟨rfl, hs.bel⟩

end Go.Proofs.Ythkaeimpflggjaa
