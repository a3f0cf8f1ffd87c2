/- The document's example; the law GroupParses. -/
import Derived.Test.YtboholphcpfmlaaGrpT
import Derived.Test.YtboholphcpfmlaaGrpR
import Derived.Test.YtboholphcpfmlaaLaw01
namespace Go.Proofs.Ytboholphcpfmlaa
open Go.RowKit
set_option linter.unusedVariables false

/-- A map of groups in memory: of a table, or of none. -/
structure GMap (w : World) (A : Option Addr) (n : Nat) (l : List Rn) : Prop where
  row : RowS encG 3 w A n l
  ok : rnOK 1114111 (-1) l
  fit : ∀ x ∈ l, 0 ≤ x.a ∧ x.b ≤ 1114111 ∧ 0 ≤ x.g ∧ x.a ≤ x.b ∧ x.g + (x.b - x.a) ≤ 65535

theorem GMap.below {w w' : World} {A : Option Addr} {n : Nat} {l : List Rn} (h : GMap w A n l) (hb : Below w.heap.size w w') : GMap w' A n l := ⟨h.row.below hb, h.ok, h.fit⟩
theorem GMap.nil (w : World) : GMap w none 0 [] := ⟨RowS.empty _ _, trivial, fun x hx => by simp at hx⟩
theorem GMap.of {w : World} {zs : List Int} {A : Option Addr} {B c : Nat} (hB : Bytes zs) (hR : gRight zs = true) (h : OwnS 96 encG 3 w B A (gN zs) c (grps zs (gN zs))) : GMap w A (gN zs) (grps zs (gN zs)) := by
  have hk : gOkK zs (gN zs) = true := by unfold gRight at hR; simp at hR; exact hR.2
  exact ⟨h.row encG_len, grps_ok hB hk, grps_fit hB hk⟩
theorem GMap.look {w : World} {A : Option Addr} {n c : Nat} {l : List Rn} (h : GMap w A n l) (hn : n ≤ 1000000) (code : Int) (c0 : -2147483648 ≤ code) (c1 : code ≤ 2147483647) :
    Calls Try.prog 37 #[gmV A n c, .int .i32 code] w (Ret w (.int .u16 (lookR l code))) := glook_any A n c l code w h.row hn h.ok h.fit c0 c1
theorem GMap.find {w : World} {A : Option Addr} {n : Nat} {l : List Rn} (h : GMap w A n l) (code : Int) : findG code l = lookR l code := findG_look l (-1) h.ok (fun x hx => by have := h.fit x hx; omega)

def ex10 : List Pr := [⟨65, 3⟩, ⟨66, 4⟩, ⟨128512, 5⟩]
theorem ex10_g : PrG ex10 := by intro p hp; simp [ex10] at hp; rcases hp with rfl | rfl | rfl <;> simp

theorem ret_true {w w' : World} {b : Bool} (h : b = true) (hb : Below w.heap.size w w') : True_ w (.returned (.bool b)) w' := by
  subst h
  exact ⟨rfl, hb⟩

set_option maxRecDepth 100000 in
set_option maxHeartbeats 2000000 in
theorem awake10_any (w : World) : Calls Try.prog 31 #[] w (True_ w) := by
  have hA : Below w.heap.size w (w.alloc (.cells #[.int .i32 65, .int .u16 3, .int .i32 66, .int .u16 4, .int .i32 128512, .int .u16 5] 42)) := (Below.refl _ _).alloc (Nat.le_refl _) _
  have hrow : RowS encP 2 (w.alloc (.cells #[.int .i32 65, .int .u16 3, .int .i32 66, .int .u16 4, .int .i32 128512, .int .u16 5] 42)) (some ⟨w.heap.size, 0, none⟩) 3 ex10 := rowS_vals encP_len w 42 ex10 _ rfl 3 rfl
  have hris : risesF 1114111 (-1) ex10 = true := by decide
  obtain ⟨e0, e1, e2, e3, e4, e5⟩ := gOut_right ex10_g hris (by decide)
  have en : (runsF folG ex10).length = 2 := by decide
  have el : lookR (runsF folG ex10) 128512 = 5 := by decide
  rw [en] at e2 e5
  have HG := Lib.hid (gbuild_any (some ⟨w.heap.size, 0, none⟩) 3 3 ex10 _ hrow (by omega) ex10_g)
  clear hrow hris e0
  generalize gOut ex10 = zs at *
  go_enter Try.func31, Try.ntmps31
  go_wp2_with fail
  with_reducible refine HG.out.mono ?_
  rintro e w1 ⟨A1, n1, c1, rfl, hown1, hb1⟩
  have hl1 := hown1.len
  have hbw := hA.trans (hb1.mono hA.size)
  have HP := Lib.hid (gparse_any A1 n1 c1 zs w1 hown1.row e4 (by omega) hown1.cap)
  clear HG hA hb1 hown1
  go_wp2_with fail
  with_reducible refine HP.out.mono ?_
  rintro e w2 ⟨hb2, ⟨hf, _⟩ | ⟨_, A2, c2, rfl, hown2⟩⟩
  · rw [e1] at hf; cases hf
  have hm := GMap.of e4 e1 hown2
  rw [e3] at hm
  rw [e2] at hm ⊢
  have hbw2 := hbw.trans (hb2.mono hbw.size)
  clear HP hown2 hb2 hbw e1 e3 e4
  unfold gmV
  have hA2 : Below w2.heap.size w2 (w2.alloc (.cells #[.slice A2 2 c2] 63)) := (Below.refl _ _).alloc (Nat.le_refl _) _
  have hm2 := hm.below hA2
  have hbw3 := hbw2.trans (hA2.mono hbw2.size)
  have hk := heap_alloc_new w2 (.cells #[.slice A2 2 c2] 63)
  have k0 : (w2.alloc (.cells #[.slice A2 2 c2] 63)).cell? ⟨w2.heap.size, 0, none⟩ = some (.slice A2 2 c2) := cell_of_row _ _ 0 _ _ _ hk
  have HGr := Lib.hid (fun W => ggroups_any A2 2 c2 W)
  unfold gmV at HGr
  clear hm hA2 hbw2
  go_wp2_with fail
  with_reducible refine (HGr.out _).mono ?_
  rintro e w3 ⟨rfl, hb3⟩
  have hm3 := hm2.below hb3
  have hk3 := kept_block hk hb3
  have k3 : w3.cell? ⟨w2.heap.size, 0, none⟩ = some (.slice A2 2 c2) := cell_of_row _ _ 0 _ _ _ hk3
  have hbw4 := hbw3.trans (hb3.mono hbw3.size)
  have HL := Lib.hid (hm3.look (c := c2) (by omega) 128512 (by omega) (by omega))
  rw [el] at HL
  unfold gmV at HL
  clear hm2 hb3 hk hbw3 k0 HGr
  go_wp2_with fail
  with_reducible refine HL.out.mono ?_
  rintro e w4 ⟨rfl, hb4⟩
  have hbw5 := hbw4.trans (hb4.mono hbw4.size)
  go_wp2
  go_ret
  exact ⟨rfl, hbw5⟩

theorem lookR_lt (l : List Rn) (code : Int) : 0 ≤ lookR l code ∧ lookR l code ≤ 65535 := by
  unfold lookR
  split
  · omega
  · split <;> omega

/-- A table's bytes, a map in a box, and codes. -/
structure LP (w wr : World) (Ac : Option Addr) (nc : Nat) (zs : List Int) (bx : Nat) (A2 : Option Addr) (N c2 : Nat) (l : List Rn) (A1 : Option Addr) (n1 : Nat) (z1 : List Int) : Prop where
  row : Row wr Ac nc (cellsOf .u8 zs)
  box : wr.heap[bx]? = some (.cells #[.slice A2 N c2] 63 (0, 0))
  map : GMap wr A2 N l
  cod : Row wr A1 n1 (cellsOf .i32 z1)
  bel : Below w.heap.size w wr
theorem LP.below {w wr w' : World} {Ac : Option Addr} {nc : Nat} {zs : List Int} {bx : Nat} {A2 : Option Addr} {N c2 : Nat} {l : List Rn} {A1 : Option Addr} {n1 : Nat} {z1 : List Int} (h : LP w wr Ac nc zs bx A2 N c2 l A1 n1 z1) (hb : Below wr.heap.size wr w') : LP w w' Ac nc zs bx A2 N c2 l A1 n1 z1 :=
  ⟨h.row.below hb, kept_block h.box hb, h.map.below hb, h.cod.below hb, h.bel.trans (hb.mono h.bel.size)⟩
theorem LP.cell {w wr : World} {Ac : Option Addr} {nc : Nat} {zs : List Int} {bx : Nat} {A2 : Option Addr} {N c2 : Nat} {l : List Rn} {A1 : Option Addr} {n1 : Nat} {z1 : List Int} (h : LP w wr Ac nc zs bx A2 N c2 l A1 n1 z1) : wr.cell? ⟨bx, 0, none⟩ = some (.slice A2 N c2) := cell_of_row _ _ 0 _ _ _ h.box

theorem i32_wf {z1 : List Int} (h : Wf .i32 z1) {j : Nat} {x : Int} (hx : z1[j]? = some x) : -2147483648 ≤ x ∧ x ≤ 2147483647 := bounds_i32 (h x (List.mem_of_getElem? hx))

set_option maxRecDepth 100000 in
set_option maxHeartbeats 4000000 in
theorem law_GroupParses (A0 : Option Addr) (n0 c0 : Nat) (z0 : List Int) (A1 : Option Addr) (n1 c1 : Nat) (z1 : List Int) (w : World) (hr0 : Row w A0 n0 (cellsOf .u8 z0)) (hB0 : Bytes z0) (hn0 : n0 ≤ 9223372036854775807)
    (hr1 : Row w A1 n1 (cellsOf .i32 z1)) (hW1 : Wf .i32 z1) (hn1 : n1 ≤ 9223372036854775807) :
    Calls Try.prog 10 #[.slice A0 n0 c0, .slice A1 n1 c1] w (True_ w) := by
  go_enter Try.func10, Try.ntmps10
  go_wp2_with fail
  with_reducible refine (awake10_any w).mono ?_
  rintro e w0 ⟨rfl, hb0⟩
  go_wp2_with fail
  refine (cut_any _ _ _ z0 200 _ (hr0.below hb0) hn0 (by omega)).mono ?_
  rintro e w1 ⟨Ac, nc, cc, rfl, hown, hb1'⟩
  have hb1 : Below w.heap.size w w1 := hb0.trans (hb1'.mono hb0.size)
  have hB1 : Bytes (z0.take (200 : Int).toNat) := cut_bytes hB0 _
  have hl1 : nc ≤ 200 := by have := hown.len; rw [List.length_take] at this; simp at this; omega
  have hrow := hown.row
  have hcap := hown.cap
  have hcod := hr1.below hb1
  clear hb1' hb0 hr0 hB0 hn0 hown hr1
  generalize z0.take (200 : Int).toNat = zs at *
  have HB := Lib.hid hB1
  have HW := Lib.hid hW1
  have HP := Lib.hid (gparse_any Ac nc cc zs w1 hrow hB1 (by omega) hcap)
  clear hB1 hW1
  go_wp2_with fail
  with_reducible refine HP.out.mono ?_
  rintro e w2 ⟨hb2, ⟨hf, rfl⟩ | ⟨hf, A2, c2, rfl, hown2⟩⟩
  · have hA2 : Below w2.heap.size w2 (w2.alloc (.cells #[.slice none 0 0] 63)) := (Below.refl _ _).alloc (Nat.le_refl _) _
    have hb3 := hb2.trans (hA2.mono hb2.size)
    have hs : LP w (w2.alloc (.cells #[.slice none 0 0] 63)) Ac nc zs w2.heap.size none 0 0 [] A1 n1 z1 :=
      ⟨hrow.below hb3, heap_alloc_new w2 _, GMap.nil _, hcod.below hb3, hb1.trans (hb3.mono hb1.size)⟩
    have HR := Lib.hid (rright10_any Ac nc cc zs _ hs.row HB.out (by omega))
    have ev : gRV zs = 0 := by unfold gRV; rw [hf]; rfl
    rw [hf, ev] at HR
    unfold gmV
    clear hA2 hb3 hb2 hrow hcod HP hb1 hf ev
    go_wp2_with fail
    with_reducible refine HR.out.mono ?_
    rintro e w3 ⟨rfl, hb3⟩
    have hs3 := hs.below hb3
    have k3 := hs3.cell
    have HGr := Lib.hid (fun W => ggroups_any none 0 0 W)
    unfold gmV at HGr
    clear hs HR hb3
    go_wp2_with fail
    with_reducible refine (HGr.out _).mono ?_
    rintro e w4 ⟨rfl, hb4⟩
    have hs4 := hs3.below hb4
    have k4 := hs4.cell
    have HL := Lib.hid (hs4.map.look (c := 0) (by omega) 65 (by omega) (by omega))
    unfold gmV at HL
    rw [show lookR [] 65 = 0 from rfl] at HL
    clear hs3 hb4 k3 HGr
    go_wp2_with fail
    with_reducible refine HL.out.mono ?_
    rintro e w5 ⟨rfl, hb5⟩
    have hs5 := hs4.below hb5
    go_wp2
    go_ret
    exact ⟨rfl, hs5.bel⟩
  · have hN : gN zs ≤ 1000 := by
      have := hrow.len
      unfold gRight at hf
      simp [gFront] at hf
      have h12 := n4at_lt HB.out 12
      unfold gN
      omega
    have hm := GMap.of HB.out hf hown2
    have ev : gRV zs = (gN zs : Int) := by unfold gRV; rw [hf]; rfl
    have hA2 : Below w2.heap.size w2 (w2.alloc (.cells #[.slice A2 (gN zs) c2] 63)) := (Below.refl _ _).alloc (Nat.le_refl _) _
    have hb3 := hb2.trans (hA2.mono hb2.size)
    have hs : LP w (w2.alloc (.cells #[.slice A2 (gN zs) c2] 63)) Ac nc zs w2.heap.size A2 (gN zs) c2 (grps zs (gN zs)) A1 n1 z1 :=
      ⟨hrow.below hb3, heap_alloc_new w2 _, hm.below hA2, hcod.below hb3, hb1.trans (hb3.mono hb1.size)⟩
    have HR := Lib.hid (rright10_any Ac nc cc zs _ hs.row HB.out (by omega))
    rw [hf, ev] at HR
    have Hn1 := Lib.hid hcod.len
    unfold gmV
    clear hA2 hb3 hb2 hrow hcod HP hb1 hf ev hm hown2
    generalize gN zs = N at *
    have HLk : Hid (∀ (W : World) (code : Int), LP w W Ac nc zs w2.heap.size A2 N c2 (grps zs N) A1 n1 z1 → -2147483648 ≤ code → code ≤ 2147483647 → Calls Try.prog 37 #[.agg #[.slice A2 N c2], .int .i32 code] W (Ret W (.int .u16 (lookR (grps zs N) code)))) := fun W code h a b => h.map.look (by omega) code a b
    have HRk : Hid (∀ (W : World) (code : Int), LP w W Ac nc zs w2.heap.size A2 N c2 (grps zs N) A1 n1 z1 → -2147483648 ≤ code → code ≤ 2147483647 → Calls Try.prog 39 #[.slice Ac nc cc, .int .i64 N, .int .i64 code] W (Ret W (.int .i64 (lookR (grps zs N) code)))) := fun W code h a b => h.map.find code ▸ rlook10_any Ac nc cc zs N code W h.row HB.out (by omega) (by omega) a b
    generalize grps zs N = l at *
    go_wp2_with fail
    with_reducible refine HR.out.mono ?_
    rintro e w3 ⟨rfl, hb3⟩
    have hs3 := hs.below hb3
    have k3 := hs3.cell
    have HGr := Lib.hid (fun W => ggroups_any A2 N c2 W)
    unfold gmV at HGr
    have hne : ((N : Int) != (N : Int)) = false := by simp
    clear hs HR hb3
    go_wp2_with fail
    with_reducible refine (HGr.out _).mono ?_
    rintro e w4 ⟨rfl, hb4⟩
    have hs4 := hs3.below hb4
    clear hs3 hb4 k3 HGr
    generalize w2.heap.size = bx at *
    go_wp2
    clear hne
    go_loopw [50] (fun i wr => ∃ k : Nat, k ≤ n1 ∧ i = .int .i64 k ∧ LP w wr Ac nc zs bx A2 N c2 l A1 n1 z1) (fun i _ => n1 - (intOf i).toNat)
    case atStart => exact ⟨0, Nat.zero_le _, rfl, hs4⟩
    case round =>
      clear hs4
      obtain ⟨k, hk, rfl, hs⟩ := hrel
      by_cases hlt : k < n1
      · obtain ⟨x, hx⟩ := getP (l := z1) (j := k) (by have := Hn1.out; omega)
        obtain ⟨g, off, rfl, hg, hcx⟩ := hs.cod.at (j := k) (u := .int .i32 x) (cellsOf_get hx)
        obtain ⟨x0, x1⟩ := i32_wf HW.out hx
        clear hx
        by_cases h20 : k < 20
        · have k0 := hs.cell
          obtain ⟨v0, v1⟩ := lookR_lt l x
          have H1 := Lib.hid (HLk.out _ x hs x0 x1)
          have hnv : (lookR l x != lookR l x) = false := by simp
          go_wp2_with fail
          with_reducible refine H1.out.mono ?_
          rintro e w5 ⟨rfl, hb5⟩
          have hs5 := hs.below hb5
          have H2 := Lib.hid (HRk.out _ x hs5 x0 x1)
          clear hs hb5 H1 k0 hcx
          go_wp2_with fail
          with_reducible refine H2.out.mono ?_
          rintro e w6 ⟨rfl, hb6⟩
          have hs6 := hs5.below hb6
          clear hs5 hb6 H2
          generalize lookR l x = v at *
          go_wp2
          go_roundw
          case rel => exact ⟨k + 1, by omega, by go_num, hs6⟩
          case measure => simp [intOf]; omega
        · go_wp2
          go_roundw
          case rel => exact ⟨k + 1, by omega, by go_num, hs⟩
          case measure => simp [intOf]; omega
      · go_wp2
        go_loopw [70] (fun i wr => ∃ k : Nat, k ≤ 300 ∧ i = .int .i32 k ∧ LP w wr Ac nc zs bx A2 N c2 l A1 n1 z1) (fun i _ => 300 - (intOf i).toNat)
        case atStart => exact ⟨0, Nat.zero_le _, rfl, hs⟩
        case round =>
          clear hs hlt hk
          obtain ⟨j, hj, rfl, hs⟩ := hrel
          by_cases hlt : j < 300
          · have k0 := hs.cell
            obtain ⟨v0, v1⟩ := lookR_lt l (j : Int)
            have H1 := Lib.hid (HLk.out _ (j : Int) hs (by omega) (by omega))
            have hnv : (lookR l (j : Int) != lookR l (j : Int)) = false := by simp
            go_wp2_with fail
            with_reducible refine H1.out.mono ?_
            rintro e w5 ⟨rfl, hb5⟩
            have hs5 := hs.below hb5
            have H2 := Lib.hid (HRk.out _ (j : Int) hs5 (by omega) (by omega))
            clear hs hb5 H1 k0
            go_wp2_with fail
            with_reducible refine H2.out.mono ?_
            rintro e w6 ⟨rfl, hb6⟩
            have hs6 := hs5.below hb6
            clear hs5 hb6 H2
            generalize lookR l (j : Int) = v at *
            go_wp2
            go_roundw
            case rel => exact ⟨j + 1, by omega, by go_num, hs6⟩
            case measure => simp [intOf]; omega
          · go_wp2
            go_ret
            exact ⟨rfl, hs.bel⟩

end Go.Proofs.Ytboholphcpfmlaa
