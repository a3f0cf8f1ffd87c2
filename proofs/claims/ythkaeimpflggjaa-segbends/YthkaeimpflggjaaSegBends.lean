/- A table of segments of which a byte is turned, or that is cut off, or has more behind it, is the document's answer: the law SegBends is true. No condition. -/
import Derived.Test.YthkaeimpflggjaaRows
import Derived.WalkKit
import Derived.ProofKit
import Derived.OpenShut
import Derived.ShutString
import Derived.ChangeOld
import Derived.Below
import Derived.Lib.SmallJoins
import Derived.Test.YthkaeimpflggjaaBase2
import Derived.Test.YthkaeimpflggjaaBase3
import Derived.Test.YthkaeimpflggjaaBase4
import Derived.Test.YthkaeimpflggjaaBase6

namespace Go.Proofs.Ythkaeimpflggjaa
open Go.RowKit
set_option linter.unusedVariables false

theorem sTabR_len (l : List Pr) : (sTab ((sRuns l).map sgR)).length = 16 + 8 * ((runsF folS l).length + 1) := by
  have h : ((sRuns l).map sgR).length = (runsF folS l).length + 1 := by unfold sRuns; simp
  unfold sTab
  simp only [List.length_append, colB_len, h, sPre_len, srB_len]
  have : (b2 0).length = 2 := rfl
  omega

/-- Two slices of one row of bytes. -/
structure TwoS9 (w wr : World) (A : Option Addr) (L : Nat) (zs : List Int) (bk c j : Nat) : Prop where
  row : Row wr A L (cellsOf .u8 zs)
  box : wr.heap[bk]? = some (.cells #[.slice A L c, .slice A j c] 27 (0, 0))
  bel : Below w.heap.size w wr
theorem TwoS9.below {w wr w' : World} {A : Option Addr} {L : Nat} {zs : List Int} {bk c j : Nat} (h : TwoS9 w wr A L zs bk c j) (hb : Below wr.heap.size wr w') : TwoS9 w w' A L zs bk c j :=
  ⟨h.row.below hb, kept_block h.box hb, h.bel.trans (hb.mono h.bel.size)⟩

set_option maxRecDepth 100000 in
set_option maxHeartbeats 4000000 in
theorem law_SegBends (A0 : Option Addr) (n0 c0 : Nat) (z0 : List Int) (A1 : Option Addr) (n1 c1 : Nat) (z1 : List Int) (a2 a3 : Int) (A4 : Option Addr) (n4 c4 : Nat) (z4 : List Int) (w : World) (hr0 : Row w A0 n0 (cellsOf .u16 z0)) (hW0 : Wf .u16 z0) (hn0 : n0 ≤ 9223372036854775807)
    (hr1 : Row w A1 n1 (cellsOf .u16 z1)) (hW1 : Wf .u16 z1) (hn1 : n1 ≤ 9223372036854775807) (u0 : 0 ≤ a2) (u1 : a2 ≤ 65535) (t0 : 0 ≤ a3) (t1 : a3 ≤ 255) (hr4 : Row w A4 n4 (cellsOf .u8 z4)) (hB4 : Bytes z4) (hn4 : n4 ≤ 9223372036854775807) :
    Calls Try.prog 8 #[.slice A0 n0 c0, .slice A1 n1 c1, .int .u16 a2, .int .u8 a3, .slice A4 n4 c4] w (True_ w) := by
  go_enter Try.func8, Try.ntmps8
  go_wp2_with fail
  with_reducible refine (awake09_any w).mono ?_
  rintro e w0 ⟨rfl, hb0⟩
  have HRi := Lib.hid (rising09_any A0 n0 c0 z0 A1 n1 c1 z1 w0 (hr0.below hb0) hW0 hn0 (hr1.below hb0) hW1 hn1)
  clear hr0 hW0 hn0 hr1 hW1 hn1
  go_wp2_with fail
  with_reducible refine HRi.out.mono ?_
  rintro e w1 ⟨l, B1, B2, d1, d2, m, rfl, hT, hm40, hPG, hris⟩
  have hb1 := hb0.trans (hT.bel.mono hb0.size)
  have hlen := hT.o1.len
  have hokQ : ∀ p ∈ l, 0 ≤ p.code ∧ p.code ≤ 65534 ∧ 0 ≤ p.glyph ∧ p.glyph ≤ 65535 := fun p hp => by
    have a1 := risesF_mem hris p hp
    have a2 := hPG p hp
    omega
  have HRB := Lib.hid (rbuild9_any B2 m d2 l w1 (hT.o2.row encQ_len) (by omega) hokQ)
  have hrn := runsF_len folS l
  have hgl := sTabR_len l
  have hgb := sTab_bytes ((sRuns l).map sgR)
  have hr4' := hr4.below hb1
  clear hT HRi hris hPG hokQ hb0 hr4
  generalize sTab ((sRuns l).map sgR) = gz at *
  go_wp2_with fail
  with_reducible refine HRB.out.mono ?_
  rintro e w2 ⟨Ay, ny, cy, rfl, howny, hb2'⟩
  have hb2 := hb1.trans (hb2'.mono hb1.size)
  have hly := howny.len
  replace hr4' := hr4'.below hb2'
  clear HRB hb2' hb1
  go_wp2_with fail
  refine (cut_any _ _ _ z4 20 _ hr4' hn4 (by omega)).mono ?_
  rintro e w3 ⟨Am, nm, cm, rfl, hownm, hb3'⟩
  have hb3 := hb2.trans (hb3'.mono hb2.size)
  have hlm := hownm.len
  have hBm : Bytes (z4.take (20 : Int).toNat) := cut_bytes hB4 _
  have hlm2 : nm ≤ 20 := by rw [List.length_take] at hlm; simp at hlm; omega
  have hgt := ((Got.nil w3).put (c := cy) (howny.below hb3').row).put (c := cm) hownm.row
  have HJ := Lib.hid (joinN_any w3 _ _ 2 _ rfl rfl rfl hgt (by omega) (by simp only [joined, List.nil_append, List.cons_append, List.flatMap_cons, List.flatMap_nil, List.append_nil, List.length_append]; omega))
  simp only [joined, List.nil_append, List.cons_append, List.flatMap_cons, List.flatMap_nil, List.append_nil, List.map_cons, List.map_nil, BsV.val] at HJ
  have hBj : Bytes (gz ++ z4.take (20 : Int).toNat) := bytes_append hgb hBm
  have hLj : (gz ++ z4.take (20 : Int).toNat).length = ny + nm := by rw [List.length_append]; omega
  clear hgt hownm howny hb3' hb2 hr4' hn4 hB4 hBm hlm hgb
  generalize gz ++ z4.take (20 : Int).toNat = js at *
  go_wp2_with fail
  with_reducible refine HJ.out.mono ?_
  rintro e w4 ⟨Aj, L, cj, rfl, hownj, hb4'⟩
  have hb4 := hb3.trans (hb4'.mono hb3.size)
  have hLL := hownj.len
  have hcap := hownj.cap
  replace hownj := hownj.mono hb3.size
  clear HJ hb4' hb3
  have hL0 : 16 ≤ L := by omega
  have hL1 : L ≤ 1000 := by omega
  obtain ⟨j, hj⟩ : ∃ j : Nat, a2 % (L : Int) = (j : Int) := ⟨(a2 % (L : Int)).toNat, by have := Int.emod_nonneg a2 (show (L : Int) ≠ 0 by omega); omega⟩
  have hjL : j < L := by have := Int.emod_lt_of_pos a2 (show (0 : Int) < L by omega); omega
  rcases hownj.shape with ⟨_, _, h0, _⟩ | ⟨gj, cur, rfl, hgj, _⟩
  · omega
  obtain ⟨y, hy⟩ := getP (l := js) (j := j) (by omega)
  obtain ⟨g', off', e', _, hcy⟩ := hownj.row.at (j := j) (u := .int .u8 y) (cellsOf_get hy)
  simp only [Option.some.injEq, Addr.mk.injEq, and_true] at e'
  obtain ⟨rfl, rfl⟩ := e'
  rw [Nat.zero_add] at hcy
  have f0 := hownj.thaw
  have hv := xor_byte2 y a3
  have hBs := set_bytes hBj j hv
  have hset := hownj.set j (bits .xor .u8 y a3)
  have hbs := below_set hgj j (.int .u8 (bits .xor .u8 y a3)) hb4
  have hls : (js.set j (bits .xor .u8 y a3)).length = L := by rw [List.length_set]; omega
  have hLz : ((L : Int) == 0) = false := by simp; omega
  have hjc : (j : Int) ≤ (cj : Int) := by omega
  have hL0' : (L : Int) ≠ 0 := by omega
  have hLpos : (0 : Int) < (L : Int) := by omega
  clear hy hb4 hBj hownj
  go_wp2_with fail
  have hsv : (w4.setCell ⟨gj, j, none⟩ (.int .u8 (bits .xor .u8 y a3))).heap.size = w4.heap.size := by simp [World.setCell]
  have hA : Below (w4.setCell ⟨gj, j, none⟩ (.int .u8 (bits .xor .u8 y a3))).heap.size (w4.setCell ⟨gj, j, none⟩ (.int .u8 (bits .xor .u8 y a3))) ((w4.setCell ⟨gj, j, none⟩ (.int .u8 (bits .xor .u8 y a3))).alloc (.cells #[.slice (some ⟨gj, 0, none⟩) L cj, .slice (some ⟨gj, 0, none⟩) j cj] 27)) := (Below.refl _ _).alloc (Nat.le_refl _) _
  have hs : TwoS9 w ((w4.setCell ⟨gj, j, none⟩ (.int .u8 (bits .xor .u8 y a3))).alloc (.cells #[.slice (some ⟨gj, 0, none⟩) L cj, .slice (some ⟨gj, 0, none⟩) j cj] 27)) (some ⟨gj, 0, none⟩) L (js.set j (bits .xor .u8 y a3)) w4.heap.size cj j := by
    refine ⟨hset.row.below hA, ?_, hbs.trans (hA.mono hbs.size)⟩
    have := heap_alloc_new (w4.setCell ⟨gj, j, none⟩ (.int .u8 (bits .xor .u8 y a3))) (.cells #[.slice (some ⟨gj, 0, none⟩) L cj, .slice (some ⟨gj, 0, none⟩) j cj] 27)
    rwa [hsv] at this
  clear hset hbs hA hsv hcy f0 hv
  generalize js.set j (bits .xor .u8 y a3) = zs at *
  generalize w4.heap.size = bk at *
  have HBs := Lib.hid hBs
  clear hBs hj hLz hL0' hLpos
  go_loopw [56] (fun i wr => ∃ k : Nat, k ≤ 2 ∧ i = .int .i64 k ∧ TwoS9 w wr (some ⟨gj, 0, none⟩) L zs bk cj j) (fun i _ => 2 - (intOf i).toNat)
  case atStart => exact ⟨0, Nat.zero_le _, rfl, hs⟩
  case round =>
    clear hs
    obtain ⟨k, hk, rfl, hs⟩ := hrel
    by_cases hlt : k < 2
    · obtain ⟨nk, hkc, hnk⟩ : ∃ nk : Nat, wr.cell? ⟨bk, k, none⟩ = some (.slice (some ⟨gj, 0, none⟩) nk cj) ∧ nk ≤ L := by
        rcases (show k = 0 ∨ k = 1 by omega) with rfl | rfl
        · exact ⟨L, cell_of_row wr _ 0 _ _ _ hs.box, Nat.le_refl _⟩
        · exact ⟨j, cell_of_row wr _ 1 _ _ _ hs.box, by omega⟩
      have hrw : Row wr (some ⟨gj, 0, none⟩) nk (cellsOf .u8 (zs.take nk)) := by rw [← cellsOf_take]; exact hs.row.take hnk
      have hBt := take_bytes HBs.out nk
      have HP := Lib.hid (sparse_any (some ⟨gj, 0, none⟩) nk cj (zs.take nk) wr hrw hBt (by omega) (by omega))
      have HBt := Lib.hid hBt
      generalize zs.take nk = qs at *
      clear hBt
      go_wp2_with fail
      with_reducible refine HP.out.mono ?_
      rintro e w5 ⟨hb5, ⟨hf, rfl⟩ | ⟨hf, A2, c2, g2, rfl, hown2, hnum2⟩⟩
      · have hA2 : Below w5.heap.size w5 (w5.alloc (.cells #[.slice none 0 0] 59)) := (Below.refl _ _).alloc (Nat.le_refl _) _
        have hb6 := hb5.trans (hA2.mono hb5.size)
        have hs6 := hs.below hb6
        have HR := Lib.hid (rright9_any (some ⟨gj, 0, none⟩) nk cj qs _ (hrw.below hb6) HBt.out (by omega) (by omega))
        have ev : sRV qs = 0 := by unfold sRV; rw [hf]; rfl
        rw [hf, ev] at HR
        unfold smV
        clear hA2 hb6 hb5 hrw HP hf ev hs hkc
        go_wp2_with fail
        with_reducible refine HR.out.mono ?_
        rintro e w6 ⟨rfl, hb6⟩
        have hs7 := hs6.below hb6
        clear hs6 hb6 HR
        go_wp2
        go_loopw [83] (fun i wr => ∃ q : Nat, q ≤ 200 ∧ i = .int .i32 q ∧ TwoS9 w wr (some ⟨gj, 0, none⟩) L zs bk cj j) (fun i _ => 200 - (intOf i).toNat)
        case atStart => exact ⟨0, Nat.zero_le _, rfl, hs7⟩
        case round =>
          clear hs7
          obtain ⟨q, hq, rfl, hs⟩ := hrel
          by_cases hlq : q < 200
          · go_wp2
            go_roundw
            case rel => exact ⟨q + 1, by omega, by go_num, hs⟩
            case measure => simp [intOf]; omega
          · go_wp2
            go_roundw
            case rel => exact ⟨k + 1, by omega, by go_num, hs⟩
            case measure => simp [intOf]; omega
      · have hN := (sRight_facts HBt.out hf)
        have ev : sRV qs = (sN qs : Int) := by unfold sRV; rw [hf]; rfl
        have hA2 : Below w5.heap.size w5 (w5.alloc (.cells #[.slice A2 (sN qs) c2] 59)) := (Below.refl _ _).alloc (Nat.le_refl _) _
        have hb6 := hb5.trans (hA2.mono hb5.size)
        have hs6 := hs.below hb6
        have hm := SMap.of HBt.out hf hown2 hnum2
        have hx6 : BoxS w (w5.alloc (.cells #[.slice A2 (sN qs) c2] 59)) w5.heap.size A2 (sN qs) c2 qs g2 := ⟨heap_alloc_new w5 _, hm.below hA2, hs6.bel⟩
        have HR := Lib.hid (rright9_any (some ⟨gj, 0, none⟩) nk cj qs _ (hrw.below hb6) HBt.out (by omega) (by omega))
        have hrw6 := hrw.below hb6
        rw [hf, ev] at HR
        unfold smV
        have hNl : sN qs ≤ 32767 := by omega
        have hne : ((sN qs : Int) != (sN qs : Int)) = false := by simp
        have HGr := Lib.hid (fun W => ssegments_any A2 (sN qs) c2 W)
        unfold smV at HGr
        clear hA2 hb6 hb5 hrw HP hf ev hs hkc hown2 hnum2 hm hN
        generalize sN qs = N at *
        go_wp2_with fail
        with_reducible refine HR.out.mono ?_
        rintro e w6 ⟨rfl, hb6⟩
        have hs7 := hs6.below hb6
        have hx7 := hx6.below hb6
        have hrw7 := hrw6.below hb6
        have kc := hx7.cell
        clear hs6 hx6 hrw6 hb6 HR
        go_wp2_with fail
        with_reducible refine (HGr.out _).mono ?_
        rintro e w7 ⟨rfl, hb7⟩
        have hs8 := hs7.below hb7
        have hx8 := hx7.below hb7
        have hrw8 := hrw7.below hb7
        clear hs7 hx7 hrw7 hb7 HGr kc
        have HLk : Hid (∀ (W : World) (code : Int), BoxS w W w5.heap.size A2 N c2 qs g2 → -2147483648 ≤ code → code ≤ 2147483647 → Calls Try.prog 30 #[.agg #[.slice A2 N c2], .int .i32 code] W (Ret W (.int .u16 (lookS qs N code 0 N)))) := fun W code h a b => h.look (by omega) code _ rfl a b
        have HRk : Hid (∀ (W : World) (code : Int), Row W (some ⟨gj, 0, none⟩) nk (cellsOf .u8 qs) → -2147483648 ≤ code → code ≤ 2147483647 → Calls Try.prog 32 #[.slice (some ⟨gj, 0, none⟩) nk cj, .int .i64 N, .int .i64 code] W (Ret W (.int .i64 (lookS qs N code 0 N)))) := fun W code h a b => rlook9_any (some ⟨gj, 0, none⟩) nk cj qs N code W h HBt.out (by omega) (by omega) a b
        generalize w5.heap.size = bx at *
        go_wp2
        clear hne
        go_loopw [83] (fun i wr => ∃ q : Nat, q ≤ 200 ∧ i = .int .i32 q ∧ TwoS9 w wr (some ⟨gj, 0, none⟩) L zs bk cj j ∧ BoxS w wr bx A2 N c2 qs g2 ∧ Row wr (some ⟨gj, 0, none⟩) nk (cellsOf .u8 qs)) (fun i _ => 200 - (intOf i).toNat)
        case atStart => exact ⟨0, Nat.zero_le _, rfl, hs8, hx8, hrw8⟩
        case round =>
          clear hs8 hx8 hrw8
          obtain ⟨q, hq, rfl, hs, hx, hrw⟩ := hrel
          by_cases hlq : q < 200
          · have k0 := hx.cell
            obtain ⟨v0, v1⟩ := lookS_lt qs N (q : Int) N 0
            have H1 := Lib.hid (HLk.out _ (q : Int) hx (by omega) (by omega))
            have hnv : (lookS qs N (q : Int) 0 N != lookS qs N (q : Int) 0 N) = false := by simp
            go_wp2_with fail
            with_reducible refine H1.out.mono ?_
            rintro e w8 ⟨rfl, hb8⟩
            have hs5 := hs.below hb8
            have hx5 := hx.below hb8
            have hrw5 := hrw.below hb8
            have H2 := Lib.hid (HRk.out _ (q : Int) hrw5 (by omega) (by omega))
            clear hs hx hrw hb8 H1 k0
            go_wp2_with fail
            with_reducible refine H2.out.mono ?_
            rintro e w9 ⟨rfl, hb9⟩
            have hs6 := hs5.below hb9
            have hx6 := hx5.below hb9
            have hrw6 := hrw5.below hb9
            clear hs5 hx5 hrw5 hb9 H2
            generalize lookS qs N (q : Int) 0 N = v at *
            go_wp2
            go_roundw
            case rel => exact ⟨q + 1, by omega, by go_num, hs6, hx6, hrw6⟩
            case measure => simp [intOf]; omega
          · go_wp2
            go_roundw
            case rel => exact ⟨k + 1, by omega, by go_num, hs⟩
            case measure => simp [intOf]; omega
    · go_wp2
      go_ret
      exact ⟨rfl, hs.bel⟩

end Go.Proofs.Ythkaeimpflggjaa

namespace Go.Proofs.Ythkaeimpflggjaa.segBends
open Go.ChangeShapes Go.WideShapes Go.ChangeAt Go.RowKit
open Go.ChangeMaps (open_string shut_string)
set_option linter.unusedVariables false

theorem own : ownKnob Try.prog.godebug = none := by kernel_rfl
theorem laidOut : laidOutB Try.prog = true := by kernel_rfl

set_option maxRecDepth 100000 in
theorem lifted (os : Os) (started : os.Started) (H : Type) (enc : TypeId × Value → H) :
    ReturnsInHanded {} Try.checked os 8 .any (Rows.segBendsSpec.pre6 enc Try.prog Try.f8 Rows.segBendsRow.domain false) (Rows.segBendsSpec.post enc Try.prog Try.f8 false true false false) := by
  refine returnsInHanded_of_change (C := Try.checked) own started (by kernel_rfl) Try.func8
    (ChangeSpec.witness6 (enc := enc) (C := Try.checked) false ⟨#[], #[.slice none 0 0, .slice none 0 0, .int .u16 0, .int .u8 0, .slice none 0 0], []⟩ 8 (by kernel_rfl) (by kernel_rfl) (by kernel_rfl) (by kernel_rfl)) ?_
  intro W base args ds gs before hval0 hW hcnd _
  have hval : ∀ (j : Nat) t v, Try.f8.params[j]? = some t → args[j]? = some v → Value.okWide Try.prog W .any base t v := hval0
  have hW' := hW
  obtain ⟨p, q, hA0, hV, rfl, hfz, hnd⟩ := hW
  have hA : DataW.TrodAll enc Try.prog W 0 (fun _ => true) true Try.f8.params.toList args.toList ds p := hA0
  rw [Try.params8] at hA hval
  obtain ⟨v0, vs0, d0, ds0, p0, q0, hargs, rfl, rfl, h0, r0⟩ := trodAll_cons hA
  obtain ⟨v1, vs1, d1, ds1, p1, q1, rfl, rfl, rfl, h1, r1⟩ := trodAll_cons r0
  obtain ⟨v2, vs2, d2, ds2, p2, q2, rfl, rfl, rfl, h2, r2⟩ := trodAll_cons r1
  obtain ⟨v3, vs3, d3, ds3, p3, q3, rfl, rfl, rfl, h3, r3⟩ := trodAll_cons r2
  obtain ⟨v4, vs4, d4, ds4, p4, q4, rfl, rfl, rfl, h4, r4⟩ := trodAll_cons r3
  obtain ⟨rfl, rfl, rfl⟩ := trodAll_nil r4
  obtain rfl : args = #[v0, v1, v2, v3, v4] := by cases args; simp_all
  obtain ⟨rfl, rfl⟩ := trodVars_none hV
  have k0 := h0
  have lt0 : ∀ x ∈ p0, x.block < W.heap.size := by obtain ⟨m, hm⟩ := k0; exact DataW.trod_lt m _ _ _ hm
  have k1 := h1
  have lt1 : ∀ x ∈ p1, x.block < W.heap.size := by obtain ⟨m, hm⟩ := k1; exact DataW.trod_lt m _ _ _ hm
  have k2 := h2
  have lt2 : ∀ x ∈ p2, x.block < W.heap.size := by obtain ⟨m, hm⟩ := k2; exact DataW.trod_lt m _ _ _ hm
  have k3 := h3
  have lt3 : ∀ x ∈ p3, x.block < W.heap.size := by obtain ⟨m, hm⟩ := k3; exact DataW.trod_lt m _ _ _ hm
  have k4 := h4
  have lt4 : ∀ x ∈ p4, x.block < W.heap.size := by obtain ⟨m, hm⟩ := k4; exact DataW.trod_lt m _ _ _ hm
  obtain ⟨A0, n0, c0, z0, rfl, hr0, hW0, hn0, hc0⟩ := open_nums Try.underlying51 Try.underlying65 (by kernel_rfl) (hval 0 51 v0 rfl rfl) k0
  obtain ⟨A1, n1, c1, z1, rfl, hr1, hW1, hn1, hc1⟩ := open_nums Try.underlying51 Try.underlying65 (by kernel_rfl) (hval 1 51 v1 rfl rfl) k1
  obtain ⟨a2, rfl, rfl, rfl, u2⟩ := open_int Try.underlying65 (hval 2 65 v2 rfl rfl) h2
  have w2 := bounds_u16 u2
  obtain ⟨a3, rfl, rfl, rfl, u3⟩ := open_int Try.underlying5 (hval 3 5 v3 rfl rfl) h3
  have w3 := bounds_u8 u3
  obtain ⟨A4, n4, c4, z4, rfl, hr4, hB4, hn4⟩ := open_bs (hval 4 27 v4 rfl rfl) k4
  clear hA0 hval0
  refine (law_SegBends A0 n0 c0 z0 A1 n1 c1 z1 a2 a3 A4 n4 c4 z4 W hr0 hW0 hn0 hr1 hW1 hn1 w2.1 w2.2 w3.1 w3.2 hr4 hB4 hn4).mono fun e W' ⟨he, bel⟩ => ?_
  subst he
  exact ⟨_, rfl, _, _, _, [], _, [], hW', trodAll_mk1 (shut_bool Try.underlying4 _), (trodAll_cons_mk (Below.trod laidOut (by kernel_rfl) (of_decide_eq_true (by kernel_rfl)) k0 bel lt0) (trodAll_cons_mk (Below.trod laidOut (by kernel_rfl) (of_decide_eq_true (by kernel_rfl)) k1 bel lt1) (trodAll_cons_mk (Below.trod laidOut (by kernel_rfl) (of_decide_eq_true (by kernel_rfl)) k2 bel lt2) (trodAll_cons_mk (Below.trod laidOut (by kernel_rfl) (of_decide_eq_true (by kernel_rfl)) k3 bel lt3) (trodAll_cons_mk (Below.trod laidOut (by kernel_rfl) (of_decide_eq_true (by kernel_rfl)) k4 bel lt4) trodAll_mk0))))), rfl, bel.frame _, fun h => by cases h⟩

theorem over : Rows.segBendsRow.holds Try.pinned (OpenSpec.ofChange Rows.segBendsSpec) :=
  OpenClaim.holds_of_wide 8 Try.f8 rfl rfl rfl rfl rfl rfl rfl ⟨rfl, rfl, rfl, rfl, rfl⟩ rfl rfl rfl rfl rfl (by kernel_rfl) Try.func8 (by kernel_rfl)
    (of_decide_eq_true (by kernel_rfl)) (by unfold Func.isWrapper; first | (rw [if_pos (by decide +kernel)]; kernel_rfl) | (rw [if_neg (by decide +kernel)]; exact ⟨rfl, rfl⟩))
    (fun os started H enc _ => lifted os started H enc)

theorem proved : Rows.SegBendsSaid := over
#print axioms proved
end Go.Proofs.Ythkaeimpflggjaa.segBends
