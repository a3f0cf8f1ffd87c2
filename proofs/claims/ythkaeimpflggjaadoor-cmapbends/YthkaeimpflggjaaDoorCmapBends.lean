/- A table cmap of which a byte is turned, or that is cut off, is the document's answer: the law CmapBends is true. No condition on the arguments; the variable punchcut/cmap.ranked holds what the program's own text lays there (the card ties it to the program). -/
import Derived.Test.YthkaeimpflggjaaDoorRows
import Derived.Test.YthkaeimpflggjaaDoorCards
import Derived.Test.YthkaeimpflggjaaDoorTie
import Derived.SevenTiedAt
import Derived.LaidMore
import Derived.Stop.Joined
import Derived.WalkKit
import Derived.ProofKit
import Derived.OpenShut
import Derived.ShutString
import Derived.ChangeOld
import Derived.Below
import Derived.Lib.SmallJoins
import Derived.Test.YthkaeimpflggjaaDoorBase2
import Derived.Test.YthkaeimpflggjaaDoorBase3
import Derived.Test.YthkaeimpflggjaaDoorBase9

namespace Go.Proofs.YthkaeimpflggjaaDoor
open Go.RowKit
set_option linter.unusedVariables false

/-- Two slices of one row of bytes. -/
structure TwoSC (w wr : World) (A : Option Addr) (L : Nat) (zs : List Int) (bk c j : Nat) : Prop where
  row : Row wr A L (cellsOf .u8 zs)
  box : wr.heap[bk]? = some (.cells #[.slice A L c, .slice A j c] 28 (0, 0))
  bel : Below w.heap.size w wr
theorem TwoSC.below {w wr w' : World} {A : Option Addr} {L : Nat} {zs : List Int} {bk c j : Nat} (h : TwoSC w wr A L zs bk c j) (hb : Below wr.heap.size wr w') : TwoSC w w' A L zs bk c j :=
  ⟨h.row.below hb, kept_block h.box hb, h.bel.trans (hb.mono h.bel.size)⟩

theorem same5_not (wd : Bool) : risesF (cMost wd) (-1) [⟨5, 0⟩, ⟨5, 0⟩] = false := by cases wd <;> decide
theorem cOut_same5 (wd : Bool) : cTab [⟨5, 0⟩, ⟨5, 0⟩] wd = [] := by
  cases wd with
  | true =>
    show gOut [⟨5, 0⟩, ⟨5, 0⟩] = []
    unfold gOut
    rw [show risesF 1114111 (-1) [⟨5, 0⟩, ⟨5, 0⟩] = false by decide]
    rfl
  | false => exact sOut_nil (l := [⟨5, 0⟩, ⟨5, 0⟩]) (by decide)

set_option maxRecDepth 100000 in
set_option maxHeartbeats 4000000 in
theorem law_CmapBends (A0 : Option Addr) (n0 c0 : Nat) (z0 : List Int) (A1 : Option Addr) (n1 c1 : Nat) (z1 : List Int) (wd : Bool) (a2 a3 : Int) (w : World) (hR : Rk w) (hr0 : Row w A0 n0 (cellsOf .u16 z0)) (hW0 : Wf .u16 z0) (hn0 : n0 ≤ 9223372036854775807)
    (hr1 : Row w A1 n1 (cellsOf .u16 z1)) (hW1 : Wf .u16 z1) (hn1 : n1 ≤ 9223372036854775807) (u0 : 0 ≤ a2) (u1 : a2 ≤ 65535) (t0 : 0 ≤ a3) (t1 : a3 ≤ 255) :
    Calls Tryd.prog 6 #[.slice A0 n0 c0, .slice A1 n1 c1, .bool wd, .int .u16 a2, .int .u8 a3] w (True_ w) := by
  have HAw := Lib.hid (awake11_any w hR)
  have HRk := Lib.hid hR
  clear hR
  go_enter Tryd.func6, Tryd.ntmps6
  go_wp2_with fail
  with_reducible refine HAw.out.mono ?_
  rintro e w0 ⟨rfl, hb0⟩
  have HRi := Lib.hid (rising11_any A0 n0 c0 z0 A1 n1 c1 z1 w0 (hr0.below hb0) hW0 hn0 (hr1.below hb0) hW1 hn1)
  clear hr0 hW0 hn0 hr1 hW1 hn1 HAw
  go_wp2_with fail
  with_reducible refine HRi.out.mono ?_
  rintro e w1 ⟨l, B1, B2, d1, d2, m, rfl, hT, hm40, hPG, hris⟩
  have hb1 := hb0.trans (hT.bel.mono hb0.size)
  have hlen := hT.o1.len
  have hokQ : OkQ5 l := fun p hp => by
    have a1 := risesF_mem hris p hp
    have a2 := hPG p hp
    omega
  have hris2 : risesF (cMost wd) (-1) l = true := by
    cases wd with
    | true => exact risesF_mono (m2 := 1114111) (show (65534 : Int) ≤ 1114111 by omega) hris
    | false => exact hris
  obtain ⟨e0, e1, e2, e3, e4, e5, e6⟩ := cOut_right (wd := wd) hPG hris2 (by omega)
  have HRB := Lib.hid (rbuild11_any B2 m d2 l wd w1 (hT.o2.row encQ_len) (by omega) hokQ)
  rw [← e6] at HRB
  have hBy : Bytes (cHd wd ++ cTab l wd) := bytes_append (cHd_bytes _) e2
  have hln : (cHd wd ++ cTab l wd).length ≤ 200000 ∧ 28 ≤ (cHd wd ++ cTab l wd).length := by rw [List.length_append, cHd_len]; omega
  clear hT HRi hris hris2 hPG hokQ hb0 e0 e1 e2 e3 e4 e5 e6
  generalize cHd wd ++ cTab l wd = gz at *
  go_wp2_with fail
  with_reducible refine HRB.out.mono ?_
  rintro e w2 ⟨Ay, ny, cy, rfl, howny, hb2'⟩
  have hb2 := hb1.trans (hb2'.mono hb1.size)
  have hly := howny.len
  have hgt := (Got.nil w2).put (c := cy) howny.row
  have HJ := Lib.hid (joinN_any w2 _ _ 1 _ rfl rfl rfl hgt (by omega) (by simp only [joined, List.nil_append, List.flatMap_cons, List.flatMap_nil, List.append_nil]; omega))
  simp only [joined, List.nil_append, List.flatMap_cons, List.flatMap_nil, List.append_nil, List.map_cons, List.map_nil, BsV.val] at HJ
  clear hgt howny hb2' hb1 HRB
  go_wp2_with fail
  with_reducible refine HJ.out.mono ?_
  rintro e w4 ⟨Aj, L, cj, rfl, hownj, hb4'⟩
  have hb4 := hb2.trans (hb4'.mono hb2.size)
  have hLL := hownj.len
  have hcap := hownj.cap
  have hBj := hBy
  replace hownj := hownj.mono hb2.size
  clear HJ hb4' hb2 hBy
  have hL0 : 16 ≤ L := by omega
  have hL1 : L ≤ 200000 := by omega
  clear hln hly
  generalize gz = js at *
  obtain ⟨j, hj⟩ : ∃ j : Nat, a2 % (L : Int) = (j : Int) := ⟨(a2 % (L : Int)).toNat, by have := Int.emod_nonneg a2 (show (L : Int) ≠ 0 by omega); omega⟩
  have hjL : j < L := by have := Int.emod_lt_of_pos a2 (show (0 : Int) < L by omega); omega
  rcases hownj.shape with ⟨_, _, h0, _⟩ | ⟨gj, cur, rfl, hgj, _⟩
  · omega
  obtain ⟨y, hy⟩ := getP (l := js) (j := j) (by omega)
  obtain ⟨g', off', e', _, hcy⟩ := hownj.row.at (j := j) (u := .int .u8 y) (cellsOf_get hy)
  simp only [Option.some.injEq, Addr.mk.injEq, and_true] at e'
  obtain ⟨rfl, rfl⟩ := e'
  rw [Nat.zero_add] at hcy
  have f0 := hownj.thaw
  have hv := xor_byte2 y a3
  have hBs := set_bytes hBj j hv
  have hset := hownj.set j (bits .xor .u8 y a3)
  have hbs := below_set hgj j (.int .u8 (bits .xor .u8 y a3)) hb4
  have hls : (js.set j (bits .xor .u8 y a3)).length = L := by rw [List.length_set]; omega
  have hLz : ((L : Int) == 0) = false := by simp; omega
  have hjc : (j : Int) ≤ (cj : Int) := by omega
  have hL0' : (L : Int) ≠ 0 := by omega
  have hLpos : (0 : Int) < (L : Int) := by omega
  clear hy hb4 hBj hownj
  go_wp2_with fail
  have hsv : (w4.setCell ⟨gj, j, none⟩ (.int .u8 (bits .xor .u8 y a3))).heap.size = w4.heap.size := by simp [World.setCell]
  have hA : Below (w4.setCell ⟨gj, j, none⟩ (.int .u8 (bits .xor .u8 y a3))).heap.size (w4.setCell ⟨gj, j, none⟩ (.int .u8 (bits .xor .u8 y a3))) ((w4.setCell ⟨gj, j, none⟩ (.int .u8 (bits .xor .u8 y a3))).alloc (.cells #[.slice (some ⟨gj, 0, none⟩) L cj, .slice (some ⟨gj, 0, none⟩) j cj] 28)) := (Below.refl _ _).alloc (Nat.le_refl _) _
  have hs : TwoSC w ((w4.setCell ⟨gj, j, none⟩ (.int .u8 (bits .xor .u8 y a3))).alloc (.cells #[.slice (some ⟨gj, 0, none⟩) L cj, .slice (some ⟨gj, 0, none⟩) j cj] 28)) (some ⟨gj, 0, none⟩) L (js.set j (bits .xor .u8 y a3)) w4.heap.size cj j := by
    refine ⟨hset.row.below hA, ?_, hbs.trans (hA.mono hbs.size)⟩
    have := heap_alloc_new (w4.setCell ⟨gj, j, none⟩ (.int .u8 (bits .xor .u8 y a3))) (.cells #[.slice (some ⟨gj, 0, none⟩) L cj, .slice (some ⟨gj, 0, none⟩) j cj] 28)
    rwa [hsv] at this
  clear hset hbs hA hsv hcy f0 hv
  generalize js.set j (bits .xor .u8 y a3) = zs at *
  generalize w4.heap.size = bk at *
  have HBs := Lib.hid hBs
  clear hBs hj hLz hL0' hLpos
  go_loopw [56] (fun i wr => ∃ k : Nat, k ≤ 2 ∧ i = .int .i64 k ∧ TwoSC w wr (some ⟨gj, 0, none⟩) L zs bk cj j) (fun i _ => 2 - (intOf i).toNat)
  case atStart => exact ⟨0, Nat.zero_le _, rfl, hs⟩
  case round =>
    clear hs
    obtain ⟨k, hk, rfl, hs⟩ := hrel
    by_cases hlt : k < 2
    · obtain ⟨nk, hkc, hnk⟩ : ∃ nk : Nat, wr.cell? ⟨bk, k, none⟩ = some (.slice (some ⟨gj, 0, none⟩) nk cj) ∧ nk ≤ L := by
        rcases (show k = 0 ∨ k = 1 by omega) with rfl | rfl
        · exact ⟨L, cell_of_row wr _ 0 _ _ _ hs.box, Nat.le_refl _⟩
        · exact ⟨j, cell_of_row wr _ 1 _ _ _ hs.box, by omega⟩
      have hrw : Row wr (some ⟨gj, 0, none⟩) nk (cellsOf .u8 (zs.take nk)) := by rw [← cellsOf_take]; exact hs.row.take hnk
      have hBt := take_bytes HBs.out nk
      have HP := Lib.hid (cparse_any (some ⟨gj, 0, none⟩) nk cj (zs.take nk) wr hrw hBt (by omega) (by omega) (HRk.out.below hs.bel))
      have HBt := Lib.hid hBt
      generalize zs.take nk = qs at *
      clear hBt
      go_wp2_with fail
      with_reducible refine HP.out.mono ?_
      rintro e w5 ⟨hb5, ⟨hf, rfl⟩ | ⟨wdq, v, hf, A2, c2, g2, rfl, hm⟩⟩
      · have hA2 : Below w5.heap.size w5 (w5.alloc (.cells #[.bool false, .slice none 0 0, .slice none 0 0] 37)) := (Below.refl _ _).alloc (Nat.le_refl _) _
        have hb6 := hb5.trans (hA2.mono hb5.size)
        have hs6 := hs.below hb6
        have HFd := Lib.hid (rfind_any (some ⟨gj, 0, none⟩) nk cj qs _ (hrw.below hb6) HBt.out (by omega) (by omega))
        unfold cmV0
        clear hA2 hb6 hb5 hrw HP hs hkc
        go_wp2_with fail
        with_reducible refine HFd.out.mono ?_
        rintro e w6 ⟨hb6, As, ns, cs, wf, N, ok, rfl, hok, _⟩
        rw [hf] at hok
        replace hok : ok = false := hok
        subst hok
        have hs7 := hs6.below hb6
        clear hs6 hb6 HFd hf
        go_wp2
        go_roundw
        case rel => exact ⟨k + 1, by omega, by go_num, hs7⟩
        case measure => simp [intOf]; omega
      · obtain ⟨X1, x1, y1, X2, x2, y2, he⟩ := cmV_three wdq A2 (cCnt wdq (qs.drop v)) c2
        have hA2 : Below w5.heap.size w5 (w5.alloc (.cells #[.bool wdq, .slice X1 x1 y1, .slice X2 x2 y2] 37)) := (Below.refl _ _).alloc (Nat.le_refl _) _
        have hb6 := hb5.trans (hA2.mono hb5.size)
        have hs6 := hs.below hb6
        have hx := BoxC.new w5 (hs.bel.trans (hb5.mono hs.bel.size)) hm he
        have HFd := Lib.hid (rfind_any (some ⟨gj, 0, none⟩) nk cj qs _ (hrw.below hb6) HBt.out (by omega) (by omega))
        rw [he]
        clear hA2 hb6 hb5 hrw HP hs hkc hm he
        go_wp2_with fail
        with_reducible refine HFd.out.mono ?_
        rintro e w6 ⟨hb6, As, ns, cs, wf, N, ok, rfl, hok, hfd⟩
        obtain ⟨rfl, rfl, hrt, hns1, hns2⟩ := hfd wdq v hf
        rw [hf] at hok
        replace hok : ok = true := hok
        subst hok
        have hBd : Bytes (qs.drop v) := drop_bytes HBt.out _
        have hs7 := hs6.below hb6
        have hx7 := hx.below hb6
        clear hs6 hx hb6 HFd hf hfd
        generalize qs.drop v = t at *
        generalize w5.heap.size = bx at *
        have HBd := Lib.hid hBd
        clear hBd
        obtain ⟨k0, k1, k2⟩ := hx7.cells
        have HWd := Lib.hid (fun W => cwide_of wf X1 x1 y1 X2 x2 y2 W)
        have hne : (wf != wf) = false := by simp
        have HLk : Hid (∀ (W : World), BoxC w W bx wf X1 x1 y1 X2 x2 y2 t A2 c2 g2 → Calls Tryd.prog 15 #[.agg #[.bool wf, .slice X1 x1 y1, .slice X2 x2 y2], .int .i32 65] W (Ret W (.int .u16 (cLook wf t 65)))) := fun W h => h.look 65 _ rfl (by omega) (by omega)
        have HRl : Hid (∀ (W : World), BoxC w W bx wf X1 x1 y1 X2 x2 y2 t A2 c2 g2 → Row W As ns (cellsOf .u8 t) → Calls Tryd.prog 18 #[.slice As ns cs, .bool wf, .int .i64 (cCnt wf t), .int .i64 65] W (Ret W (.int .i64 (cLook wf t 65)))) := fun W h hr => rlook11_any wf t A2 g2 As ns cs 65 W h.map hr HBd.out (by omega) (by omega) (by omega)
        obtain ⟨v0, v1⟩ := cLook_lt wf t 65
        have hnv : (cLook wf t 65 != cLook wf t 65) = false := by simp
        generalize cLook wf t 65 = lv at *
        generalize cCnt wf t = N at *
        go_wp2_with (first
          | (go_at_call 14; (with_reducible refine (HWd.out _).mono ?_); rintro e wn ⟨rfl, hbn⟩; replace hs7 := hs7.below hbn; replace hx7 := hx7.below hbn; replace hrt := hrt.below hbn; obtain ⟨k0, k1, k2⟩ := hx7.cells; clear hbn)
          | (go_at_call 15; (with_reducible refine (HLk.out _ hx7).mono ?_); rintro e wn ⟨rfl, hbn⟩; replace hs7 := hs7.below hbn; replace hx7 := hx7.below hbn; replace hrt := hrt.below hbn; clear hbn)
          | (go_at_call 18; (with_reducible refine (HRl.out _ hx7 hrt).mono ?_); rintro e wn ⟨rfl, hbn⟩; replace hs7 := hs7.below hbn; clear hbn))
        go_roundw
        case rel => exact ⟨k + 1, by omega, by go_num, hs7⟩
        case measure => simp [intOf]; omega
    · have hrow5 : RowS encP 2 (wr.alloc (.cells #[.int .i32 5, .int .u16 0, .int .i32 5, .int .u16 0] 45)) (some ⟨wr.heap.size, 0, none⟩) 2 [⟨5, 0⟩, ⟨5, 0⟩] := rowS_vals encP_len wr 45 [⟨5, 0⟩, ⟨5, 0⟩] _ rfl 2 rfl
      have hA5 : Below wr.heap.size wr (wr.alloc (.cells #[.int .i32 5, .int .u16 0, .int .i32 5, .int .u16 0] 45)) := (Below.refl _ _).alloc (Nat.le_refl _) _
      have h5 := cbuild_any (some ⟨wr.heap.size, 0, none⟩) 2 2 [⟨5, 0⟩, ⟨5, 0⟩] wd _ hrow5 (by omega) (fun p hp => by simp at hp; subst hp; simp) (by rw [cOut_same5]; simp)
      have e5 : cOut [⟨5, 0⟩, ⟨5, 0⟩] wd = [] := by unfold cOut; rw [cOut_same5]; rfl
      rw [e5] at h5
      have H5 := Lib.hid h5
      have hbel := hs.bel
      clear h5 e5 hrow5 hs
      go_wp2_with fail
      with_reducible refine H5.out.mono ?_
      rintro e w6 ⟨A6, n6, c6, rfl, hown6, hb6⟩
      have h6 : n6 = 0 := hown6.len.symm
      subst h6
      clear hown6
      go_wp2
      go_ret
      exact ⟨rfl, hbel.trans ((hA5.trans (hb6.mono hA5.size)).mono hbel.size)⟩

end Go.Proofs.YthkaeimpflggjaaDoor

namespace Go.Proofs.YthkaeimpflggjaaDoor.cmapBends
open Go.ChangeShapes Go.WideShapes Go.ChangeAt Go.RowKit
open Go.ChangeMaps (open_string shut_string)
set_option linter.unusedVariables false

theorem own : ownKnob Tryd.prog.godebug = none := by kernel_rfl
theorem laidOut : laidOutB Tryd.prog = true := by kernel_rfl

set_option maxRecDepth 100000 in
theorem lifted (os : Os) (started : os.Started) (H : Type) (enc : TypeId × Value → H) :
    ReturnsInHanded {} Tryd.checked os 6 .any (fun w args => (Rows.cmapBendsSpec.pre enc Tryd.prog Tryd.f6 [] false w args ∧ laidMetH Tryd.prog laid11 w) ∧ sizedMet enc Tryd.prog Tryd.f6 (OpenSpec.ofChange Rows.cmapBendsSpec) false w args) (Rows.cmapBendsSpec.post enc Tryd.prog Tryd.f6 false true false false) := by
  refine returnsInHanded_of_change_and (C := Tryd.checked) (X := fun w _ => laidMetH Tryd.prog laid11 w) (fun _ _ _ hh h => h.of_heap hh) own started (by kernel_rfl) Tryd.func6
    (ChangeSpec.witness_shaped (enc := enc) (C := Tryd.checked) (os := os) (X := fun w _ => laidMetH Tryd.prog laid11 w) false (World.doorLaid Tryd.prog 400 os) #[.slice none 0 0, .slice none 0 0, .bool false, .int .u16 0, .int .u8 0] 8 rfl (World.shaped_of_RefB (by kernel_rfl) (by kernel_rfl)) (by kernel_rfl) (by kernel_rfl) (by kernel_rfl) (door_met os _)) ?_
  intro W base args ds gs before hval0 hW _ _ hL _
  have hval : ∀ (j : Nat) t v, Tryd.f6.params[j]? = some t → args[j]? = some v → Value.okWide Tryd.prog W .any base t v := hval0
  have hW' := hW
  obtain ⟨p, q, hA0, hV, rfl, hfz, hnd⟩ := hW
  have hA : DataW.TrodAll enc Tryd.prog W 0 (fun _ => true) true Tryd.f6.params.toList args.toList ds p := hA0
  rw [Tryd.params6] at hA hval
  obtain ⟨v0, vs0, d0, ds0, p0, q0, hargs, rfl, rfl, h0, r0⟩ := trodAll_cons hA
  obtain ⟨v1, vs1, d1, ds1, p1, q1, rfl, rfl, rfl, h1, r1⟩ := trodAll_cons r0
  obtain ⟨v2, vs2, d2, ds2, p2, q2, rfl, rfl, rfl, h2, r2⟩ := trodAll_cons r1
  obtain ⟨v3, vs3, d3, ds3, p3, q3, rfl, rfl, rfl, h3, r3⟩ := trodAll_cons r2
  obtain ⟨v4, vs4, d4, ds4, p4, q4, rfl, rfl, rfl, h4, r4⟩ := trodAll_cons r3
  obtain ⟨rfl, rfl, rfl⟩ := trodAll_nil r4
  obtain rfl : args = #[v0, v1, v2, v3, v4] := by cases args; simp_all
  obtain ⟨rfl, rfl⟩ := trodVars_none hV
  have k0 := h0
  have lt0 : ∀ x ∈ p0, x.block < W.heap.size := by obtain ⟨m, hm⟩ := k0; exact DataW.trod_lt m _ _ _ hm
  have k1 := h1
  have lt1 : ∀ x ∈ p1, x.block < W.heap.size := by obtain ⟨m, hm⟩ := k1; exact DataW.trod_lt m _ _ _ hm
  have k2 := h2
  have lt2 : ∀ x ∈ p2, x.block < W.heap.size := by obtain ⟨m, hm⟩ := k2; exact DataW.trod_lt m _ _ _ hm
  have k3 := h3
  have lt3 : ∀ x ∈ p3, x.block < W.heap.size := by obtain ⟨m, hm⟩ := k3; exact DataW.trod_lt m _ _ _ hm
  have k4 := h4
  have lt4 : ∀ x ∈ p4, x.block < W.heap.size := by obtain ⟨m, hm⟩ := k4; exact DataW.trod_lt m _ _ _ hm
  obtain ⟨A0, n0, c0, z0, rfl, hr0, hW0, hn0, hc0⟩ := open_nums Tryd.underlying22 Tryd.underlying43 (by kernel_rfl) (hval 0 22 v0 rfl rfl) k0
  obtain ⟨A1, n1, c1, z1, rfl, hr1, hW1, hn1, hc1⟩ := open_nums Tryd.underlying22 Tryd.underlying43 (by kernel_rfl) (hval 1 22 v1 rfl rfl) k1
  obtain ⟨a2, rfl, rfl, rfl⟩ := open_bool Tryd.underlying4 (hval 2 4 v2 rfl rfl) h2
  obtain ⟨a3, rfl, rfl, rfl, u3⟩ := open_int Tryd.underlying43 (hval 3 43 v3 rfl rfl) h3
  have w3 := bounds_u16 u3
  obtain ⟨a4, rfl, rfl, rfl, u4⟩ := open_int Tryd.underlying5 (hval 4 5 v4 rfl rfl) h4
  have w4 := bounds_u8 u4
  clear hA0 hval0
  refine (law_CmapBends A0 n0 c0 z0 A1 n1 c1 z1 a2 a3 a4 W (rk_of_laid hL) hr0 hW0 hn0 hr1 hW1 hn1 w3.1 w3.2 w4.1 w4.2).mono fun e W' ⟨he, bel⟩ => ?_
  subst he
  exact ⟨_, rfl, _, _, _, [], _, [], hW', trodAll_mk1 (shut_bool Tryd.underlying4 _), (trodAll_cons_mk (Below.trod laidOut (by kernel_rfl) (of_decide_eq_true (by kernel_rfl)) k0 bel lt0) (trodAll_cons_mk (Below.trod laidOut (by kernel_rfl) (of_decide_eq_true (by kernel_rfl)) k1 bel lt1) (trodAll_cons_mk (Below.trod laidOut (by kernel_rfl) (of_decide_eq_true (by kernel_rfl)) k2 bel lt2) (trodAll_cons_mk (Below.trod laidOut (by kernel_rfl) (of_decide_eq_true (by kernel_rfl)) k3 bel lt3) (trodAll_cons_mk (Below.trod laidOut (by kernel_rfl) (of_decide_eq_true (by kernel_rfl)) k4 bel lt4) trodAll_mk0))))), rfl, bel.frame _, fun h => by cases h⟩

theorem over : Rows.cmapBendsRow.holds Tryd.pinned (OpenSpec.ofChange Rows.cmapBendsSpec) :=
  OpenClaim.holds_of_wide 6 Tryd.f6 rfl rfl rfl rfl rfl rfl rfl ⟨rfl, rfl, rfl, rfl, rfl⟩ rfl rfl rfl rfl rfl (by kernel_rfl) Tryd.func6 (by kernel_rfl)
    (of_decide_eq_true (by kernel_rfl)) (by unfold Func.isWrapper; first | (rw [if_pos (by decide +kernel)]; kernel_rfl) | (rw [if_neg (by decide +kernel)]; exact ⟨rfl, rfl⟩))
    (fun os started H enc _ => lifted os started H enc)

theorem proved : Rows.CmapBendsCardSaid :=
  Claim7.holds_tied_plain_at .later [] [.data] true (true, "119a8445e3fae058f8e7519dbe92c3553ac8939fb292280d2234ce8111bcb548") false
    over (fun _ h => by cases h) (by kernel_rfl) (fun _ h => by cases h) cmapBends_row_tie rfl ⟨rfl, rfl⟩ (by kernel_rfl) rfl
    (fun f fn hf hfn => by
      obtain rfl : f = 6 := Option.some.inj ((show Tryd.prog.funcNamed "punchcut/punchcutlaw11.CmapBends" = some 6 by kernel_rfl).symm.trans hf) |>.symm
      obtain rfl : fn = Tryd.f6 := (Option.some.inj (Tryd.func6.symm.trans hfn)).symm
      exact ⟨by kernel_rfl, fun j t ht => by
        rw [Tryd.params6] at ht
        have hm : t ∈ [22, 22, 4, 43, 5] := by simpa using Array.mem_of_getElem? ht
        have hall : ([22, 22, 4, 43, 5].all fun u => !Tryd.prog.wantsStandIn u) = true := by kernel_rfl
        exact (show Tryd.prog.wantsStandIn t = false by simpa using List.all_eq_true.1 hall t hm)⟩)
    (by kernel_rfl)
#print axioms proved
end Go.Proofs.YthkaeimpflggjaaDoor.cmapBends
