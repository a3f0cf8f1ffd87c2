/- What Build writes of pairs is a table cmap that is read as it was: the law CmapBuilds is true. No condition on the arguments; the variable punchcut/cmap.ranked holds what the program's own text lays there (the card ties it to the program). -/
import Derived.Test.YthkaeimpflggjaaDoorRows
import Derived.Test.YthkaeimpflggjaaDoorCards
import Derived.Test.YthkaeimpflggjaaDoorTie
import Derived.SevenTiedAt
import Derived.LaidMore
import Derived.Stop.Joined
import Derived.WalkKit
import Derived.ProofKit
import Derived.OpenShut
import Derived.ShutString
import Derived.ChangeOld
import Derived.Below
import Derived.Lib.SmallJoins
import Derived.Test.YthkaeimpflggjaaDoorBase2
import Derived.Test.YthkaeimpflggjaaDoorBase9

namespace Go.Proofs.YthkaeimpflggjaaDoor
open Go.RowKit
set_option linter.unusedVariables false

theorem atPC {w : World} {A : Option Addr} {n : Nat} {l : List Pr} {j : Nat} {p : Pr} (h : RowS encP 2 w A n l) (hj : l[j]? = some p) :
    ∃ g off, A = some ⟨g, off, none⟩ ∧ g < w.heap.size ∧ w.cell? ⟨g, off + j * 2, none⟩ = some (.int .i32 p.code) ∧ w.cell? ⟨g, off + j * 2 + 1, none⟩ = some (.int .u16 p.glyph) := by
  obtain ⟨g, off, e, hg, hc⟩ := h.at encP_len (by omega) hj
  exact ⟨g, off, e, hg, hc 0 _ rfl, hc 1 _ rfl⟩

/-- A map in a box, and pairs. -/
structure BLC (w wr : World) (bx : Nat) (wd : Bool) (B1 : Option Addr) (m1 d1 : Nat) (B2 : Option Addr) (m2 d2 : Nat) (t : List Int) (A : Option Addr) (c g : Nat) (Al : Option Addr) (m : Nat) (l : List Pr) : Prop where
  b : BoxC w wr bx wd B1 m1 d1 B2 m2 d2 t A c g
  row : RowS encP 2 wr Al m l
theorem BLC.below {w wr w' : World} {bx : Nat} {wd : Bool} {B1 : Option Addr} {m1 d1 : Nat} {B2 : Option Addr} {m2 d2 : Nat} {t : List Int} {A : Option Addr} {c g : Nat} {Al : Option Addr} {m : Nat} {l : List Pr} (h : BLC w wr bx wd B1 m1 d1 B2 m2 d2 t A c g Al m l) (hb : Below wr.heap.size wr w') : BLC w w' bx wd B1 m1 d1 B2 m2 d2 t A c g Al m l := ⟨h.b.below hb, h.row.below hb⟩

set_option maxRecDepth 100000 in
set_option maxHeartbeats 4000000 in
theorem law_CmapBuilds (A0 : Option Addr) (n0 c0 : Nat) (z0 : List Int) (A1 : Option Addr) (n1 c1 : Nat) (z1 : List Int) (wd : Bool) (code : Int) (w : World) (hR : Rk w) (hr0 : Row w A0 n0 (cellsOf .u16 z0)) (hW0 : Wf .u16 z0) (hn0 : n0 ≤ 9223372036854775807)
    (hr1 : Row w A1 n1 (cellsOf .u16 z1)) (hW1 : Wf .u16 z1) (hn1 : n1 ≤ 9223372036854775807) (k0 : -2147483648 ≤ code) (k1 : code ≤ 2147483647) :
    Calls Tryd.prog 3 #[.slice A0 n0 c0, .slice A1 n1 c1, .bool wd, .int .i32 code] w (True_ w) := by
  have HAw := Lib.hid (awake11_any w hR)
  go_enter Tryd.func3, Tryd.ntmps3
  go_wp2_with fail
  with_reducible refine HAw.out.mono ?_
  rintro e w0 ⟨rfl, hb0⟩
  have HRi := Lib.hid (rising11_any A0 n0 c0 z0 A1 n1 c1 z1 w0 (hr0.below hb0) hW0 hn0 (hr1.below hb0) hW1 hn1)
  clear hr0 hW0 hn0 hr1 hW1 hn1 HAw
  go_wp2_with fail
  with_reducible refine HRi.out.mono ?_
  rintro e w1 ⟨l, B1, B2, d1, d2, m, rfl, hT, hm40, hPG, hris⟩
  have hb1 := hb0.trans (hT.bel.mono hb0.size)
  have hlen := hT.o1.len
  have hris2 : risesF (cMost wd) (-1) l = true := by
    cases wd with
    | true => exact risesF_mono (m2 := 1114111) (show (65534 : Int) ≤ 1114111 by omega) hris
    | false => exact hris
  obtain ⟨e0, e1, e2, e3, e4, e5, e6⟩ := cOut_right (wd := wd) hPG hris2 (by omega)
  have HG := Lib.hid (cbuild_any B1 m d1 l wd w1 (hT.o1.row encP_len) (by omega) hPG (by omega))
  have hrl := hT.o1.row encP_len
  have hrq := hT.o2.row encQ_len
  have Hris := Lib.hid hris
  have HPG := Lib.hid hPG
  have Hlook := Lib.hid e3
  have HokQ : Hid (OkQ5 l) := fun p hp => by
    have a1 := risesF_mem Hris.out p hp
    have a2 := HPG.out p hp
    omega
  have hRw := hR.below hb1
  have hf := cFind_one (wd := wd) e1
  have hd := cHd_drop wd (cTab l wd)
  have hBy : Bytes (cHd wd ++ cTab l wd) := bytes_append (cHd_bytes _) e2
  have hln : (cHd wd ++ cTab l wd).length ≤ 200000 := by rw [List.length_append, cHd_len]; omega
  have HE6 : Hid (cHd wd ++ (if wd then gBytes (runsF folG l) else sTab ((sRuns l).map sgR)) = cHd wd ++ cTab l wd) := by show _ = _; rw [e6]
  have HE0 := Lib.hid e0
  clear hT hb0 HRi hris hris2 hPG e0 e1 e2 e3 e4 e5 e6 hR
  go_wp2_with fail
  with_reducible refine HG.out.mono ?_
  rw [HE0.out]
  rintro e w2 ⟨Az, nz, cz, rfl, hownz, hbz⟩
  have hlz := hownz.len
  have hb2 := hb1.trans (hbz.mono hb1.size)
  have HP := Lib.hid (cparse_any Az nz cz _ w2 hownz.row hBy (by omega) hownz.cap (hRw.below hbz))
  have hrz := hownz.row
  replace hrl := hrl.below hbz
  replace hrq := hrq.below hbz
  clear hownz HG hbz hb1 hRw HE0
  go_wp2_with fail
  with_reducible refine HP.out.mono ?_
  rintro e w3 ⟨hb3', ⟨hf', _⟩ | ⟨wd', v, hf', A2, c2, g2, rfl, hm⟩⟩
  · rw [hf] at hf'; cases hf'
  rw [hf] at hf'
  simp only [Option.some.injEq, Prod.mk.injEq] at hf'
  obtain ⟨rfl, rfl⟩ := hf'
  rw [hd] at hm ⊢
  obtain ⟨X1, x1, y1, X2, x2, y2, he⟩ := cmV_three wd A2 (cCnt wd (cTab l wd)) c2
  have hb3 := hb2.trans (hb3'.mono hb2.size)
  have hbx := BoxC.new w3 hb3 hm he
  have hA : Below w3.heap.size w3 (w3.alloc (.cells #[.bool wd, .slice X1 x1 y1, .slice X2 x2 y2] 37)) := (Below.refl _ _).alloc (Nat.le_refl _) _
  have hs : BLC w (w3.alloc (.cells #[.bool wd, .slice X1 x1 y1, .slice X2 x2 y2] 37)) w3.heap.size wd X1 x1 y1 X2 x2 y2 (cTab l wd) A2 c2 g2 B1 m l := ⟨hbx, (hrl.below hb3').below hA⟩
  replace hrz := (hrz.below hb3').below hA
  replace hrq := (hrq.below hb3').below hA
  have HRB := Lib.hid (rbuild11_any B2 m d2 l wd _ hrq (by omega) HokQ.out)
  rw [HE6.out] at HRB
  rw [he]
  clear HP hb3' hb2 hf hd hm he hb3 hbx hrl hrq hA HokQ HE6
  have HLk : Hid (∀ (W : World) (c : Int), BLC w W w3.heap.size wd X1 x1 y1 X2 x2 y2 (cTab l wd) A2 c2 g2 B1 m l → -2147483648 ≤ c → c ≤ 2147483647 → Calls Tryd.prog 15 #[.agg #[.bool wd, .slice X1 x1 y1, .slice X2 x2 y2], .int .i32 c] W (Ret W (.int .u16 (glyphOf c l)))) := fun W c h a b => h.b.look c _ (Hlook.out c) a b
  have HWd := Lib.hid (fun W => cwide_of wd X1 x1 y1 X2 x2 y2 W)
  clear Hlook
  generalize cTab l wd = t at *
  generalize cHd wd ++ t = zs at *
  go_wp2_with fail
  with_reducible refine HRB.out.mono ?_
  rintro e w4 ⟨Ay, ny, cy, rfl, howny, hb4⟩
  generalize w3.heap.size = bx at *
  replace hs := hs.below hb4
  replace hrz := hrz.below hb4
  have hly := howny.len
  have HSm := Lib.hid (same_any Az Ay nz cz ny cy _ _ w4 hrz howny.row (by omega) (by omega))
  rw [sameB_refl] at HSm
  clear hb4 hrz howny HRB
  go_wp2_with fail
  with_reducible refine HSm.out.mono ?_
  rintro e w5 ⟨rfl, q5, hw5⟩
  have hb5 : Below w4.heap.size w4 w5 := by rw [hw5]; exact below_drewN (Below.refl _ _) q5
  replace hs := hs.below hb5
  obtain ⟨kb0, kb1, kb2⟩ := hs.b.cells
  clear HSm hw5 hb5
  have eN : (wd != wd) = false := by simp
  go_wp2_with (go_at_call 14; (with_reducible refine (HWd.out _).mono ?_); rintro e wn ⟨rfl, hbn⟩; replace hs := hs.below hbn; clear hbn kb0 kb1 kb2)
  clear eN HWd
  have Hlen := Lib.hid hlen
  go_loopw [14, 51] (fun v i wr => ∃ k : Nat, k ≤ m ∧ i = .int .i64 k ∧ v = .int .u16 (glyphOf code (l.take k)) ∧ BLC w wr bx wd X1 x1 y1 X2 x2 y2 t A2 c2 g2 B1 m l) (fun _ i _ => m - (intOf i).toNat)
  case atStart => exact ⟨0, Nat.zero_le _, rfl, rfl, hs⟩
  case round =>
    clear hs
    obtain ⟨k, hk, rfl, rfl, hs⟩ := hrel
    by_cases hlt : k < m
    · obtain ⟨y, hy⟩ := getP (l := l) (j := k) (by omega)
      obtain ⟨g, off, rfl, hg, q0, q1⟩ := atPC hs.row hy
      have hyr := risesF_mem Hris.out y (List.mem_of_getElem? hy)
      have hyg := HPG.out y (List.mem_of_getElem? hy)
      have HV := Lib.hid (glyphOf_mem Hris.out hy)
      have HT1 : Hid (y.code = code → glyphOf code (l.take (k + 1)) = y.glyph) := fun h => glyphOf_this Hris.out hy h
      have HT2 : Hid (y.code ≠ code → glyphOf code (l.take (k + 1)) = glyphOf code (l.take k)) := fun h => by rw [take_snoc hy, glyphOf_other h]
      clear hy
      have hA := (Below.refl wr.heap.size wr).alloc (Nat.le_refl _) (.cells #[.int .i32 y.code, .int .u16 y.glyph] 45)
      replace hs := hs.below hA
      have z0 : (wr.alloc (.cells #[.int .i32 y.code, .int .u16 y.glyph] 45)).cell? ⟨wr.heap.size, 0, none⟩ = some (.int .i32 y.code) := cell_of_row _ _ 0 _ _ _ (heap_alloc_new wr _)
      have z1 : (wr.alloc (.cells #[.int .i32 y.code, .int .u16 y.glyph] 45)).cell? ⟨wr.heap.size, 1, none⟩ = some (.int .u16 y.glyph) := cell_of_row _ _ 1 _ _ _ (heap_alloc_new wr _)
      obtain ⟨xb0, xb1, xb2⟩ := hs.b.cells
      have HC : Hid (∀ n os, Calls Tryd.prog 15 #[.agg #[.bool wd, .slice X1 x1 y1, .slice X2 x2 y2], .int .i32 y.code] (gw (wr.alloc (.cells #[.int .i32 y.code, .int .u16 y.glyph] 45)) n os) (Ret (gw (wr.alloc (.cells #[.int .i32 y.code, .int .u16 y.glyph] 45)) n os) (.int .u16 y.glyph))) := by
        show ∀ _ _, _
        intro n os
        have h := HLk.out _ y.code (hs.below (gw_below _ n os)) (by omega) (by omega)
        rw [HV.out] at h
        exact h
      clear hA HV
      obtain ⟨yc, yg⟩ := y
      simp only at *
      have eg : (yg != yg) = false := by simp
      go_wp2_with fail
      generalize wr.alloc (.cells #[.int .i32 yc, .int .u16 yg] 45) = V at *
      generalize wr.heap.size = by_ at *
      have Z0 := gw_cell z0
      have Z1 := gw_cell z1
      have XB0 := gw_cell xb0
      have XB1 := gw_cell xb1
      have XB2 := gw_cell xb2
      refine region_below (by kernel_rfl) (by kernel_rfl) ?_
      repeat (first | go_big_quiet_step (first | (go_at_call 15; exact calls_gw (HC.out _ _))) | quiet_step (first | (go_at_call 15; exact calls_gw (HC.out _ _))))
      refine wpQuiet_nil ?_
      rintro _ ⟨z, rfl⟩
      have y0 := Z0 z.n z.os
      have y1' := Z1 z.n z.os
      replace hs := hs.below (gw_below V z.n z.os)
      clear Z0 Z1 XB0 XB1 XB2 HC z0 z1 xb0 xb1 xb2 q0 q1
      generalize gw V z.n z.os = U at *
      by_cases hc : yc = code
      · have ec : (yc == code) = true := by simp [hc]
        have HT := Lib.hid (HT1.out hc)
        clear HT1 HT2 hc
        go_wp2
        go_roundw
        case rel => exact ⟨k + 1, by omega, by go_num, by rw [HT.out], hs⟩
        case measure => simp [intOf]; omega
      · have ec : (yc == code) = false := by simp [hc]
        have HT := Lib.hid (HT2.out hc)
        clear HT1 HT2 hc
        go_wp2
        go_roundw
        case rel => exact ⟨k + 1, by omega, by go_num, by rw [HT.out], hs⟩
        case measure => simp [intOf]; omega
    · have HE : Hid (glyphOf code (l.take k) = glyphOf code l) := by show _ = _; rw [List.take_of_length_le (by omega)]
      have HA3 := Lib.hid (fun W h => HLk.out W code h k0 k1)
      rw [HE.out]
      obtain ⟨kb0, kb1, kb2⟩ := hs.b.cells
      have ev : (glyphOf code l == glyphOf code l) = true := by simp
      clear HLk HE Hris HPG
      generalize glyphOf code l = gv at *
      go_wp2_with (go_at_call 15; (with_reducible refine (HA3.out _ hs).mono ?_); rintro e wn ⟨rfl, hbn⟩; replace hs := hs.below hbn; clear hbn kb0 kb1 kb2)
      go_ret
      exact ⟨rfl, hs.b.bel⟩

end Go.Proofs.YthkaeimpflggjaaDoor

namespace Go.Proofs.YthkaeimpflggjaaDoor.cmapBuilds
open Go.ChangeShapes Go.WideShapes Go.ChangeAt Go.RowKit
open Go.ChangeMaps (open_string shut_string)
set_option linter.unusedVariables false

theorem own : ownKnob Tryd.prog.godebug = none := by kernel_rfl
theorem laidOut : laidOutB Tryd.prog = true := by kernel_rfl

set_option maxRecDepth 100000 in
theorem lifted (os : Os) (started : os.Started) (H : Type) (enc : TypeId × Value → H) :
    ReturnsInHanded {} Tryd.checked os 3 .any (fun w args => (Rows.cmapBuildsSpec.pre enc Tryd.prog Tryd.f3 [] false w args ∧ laidMetH Tryd.prog laid11 w) ∧ sizedMet enc Tryd.prog Tryd.f3 (OpenSpec.ofChange Rows.cmapBuildsSpec) false w args) (Rows.cmapBuildsSpec.post enc Tryd.prog Tryd.f3 false true false false) := by
  refine returnsInHanded_of_change_and (C := Tryd.checked) (X := fun w _ => laidMetH Tryd.prog laid11 w) (fun _ _ _ hh h => h.of_heap hh) own started (by kernel_rfl) Tryd.func3
    (ChangeSpec.witness_shaped (enc := enc) (C := Tryd.checked) (os := os) (X := fun w _ => laidMetH Tryd.prog laid11 w) false (World.doorLaid Tryd.prog 400 os) #[.slice none 0 0, .slice none 0 0, .bool false, .int .i32 0] 8 rfl (World.shaped_of_RefB (by kernel_rfl) (by kernel_rfl)) (by kernel_rfl) (by kernel_rfl) (by kernel_rfl) (door_met os _)) ?_
  intro W base args ds gs before hval0 hW _ _ hL _
  have hval : ∀ (j : Nat) t v, Tryd.f3.params[j]? = some t → args[j]? = some v → Value.okWide Tryd.prog W .any base t v := hval0
  have hW' := hW
  obtain ⟨p, q, hA0, hV, rfl, hfz, hnd⟩ := hW
  have hA : DataW.TrodAll enc Tryd.prog W 0 (fun _ => true) true Tryd.f3.params.toList args.toList ds p := hA0
  rw [Tryd.params3] at hA hval
  obtain ⟨v0, vs0, d0, ds0, p0, q0, hargs, rfl, rfl, h0, r0⟩ := trodAll_cons hA
  obtain ⟨v1, vs1, d1, ds1, p1, q1, rfl, rfl, rfl, h1, r1⟩ := trodAll_cons r0
  obtain ⟨v2, vs2, d2, ds2, p2, q2, rfl, rfl, rfl, h2, r2⟩ := trodAll_cons r1
  obtain ⟨v3, vs3, d3, ds3, p3, q3, rfl, rfl, rfl, h3, r3⟩ := trodAll_cons r2
  obtain ⟨rfl, rfl, rfl⟩ := trodAll_nil r3
  obtain rfl : args = #[v0, v1, v2, v3] := by cases args; simp_all
  obtain ⟨rfl, rfl⟩ := trodVars_none hV
  have k0 := h0
  have lt0 : ∀ x ∈ p0, x.block < W.heap.size := by obtain ⟨m, hm⟩ := k0; exact DataW.trod_lt m _ _ _ hm
  have k1 := h1
  have lt1 : ∀ x ∈ p1, x.block < W.heap.size := by obtain ⟨m, hm⟩ := k1; exact DataW.trod_lt m _ _ _ hm
  have k2 := h2
  have lt2 : ∀ x ∈ p2, x.block < W.heap.size := by obtain ⟨m, hm⟩ := k2; exact DataW.trod_lt m _ _ _ hm
  have k3 := h3
  have lt3 : ∀ x ∈ p3, x.block < W.heap.size := by obtain ⟨m, hm⟩ := k3; exact DataW.trod_lt m _ _ _ hm
  obtain ⟨A0, n0, c0, z0, rfl, hr0, hW0, hn0, hc0⟩ := open_nums Tryd.underlying22 Tryd.underlying43 (by kernel_rfl) (hval 0 22 v0 rfl rfl) k0
  obtain ⟨A1, n1, c1, z1, rfl, hr1, hW1, hn1, hc1⟩ := open_nums Tryd.underlying22 Tryd.underlying43 (by kernel_rfl) (hval 1 22 v1 rfl rfl) k1
  obtain ⟨a2, rfl, rfl, rfl⟩ := open_bool Tryd.underlying4 (hval 2 4 v2 rfl rfl) h2
  obtain ⟨a3, rfl, rfl, rfl, u3⟩ := open_int Tryd.underlying21 (hval 3 21 v3 rfl rfl) h3
  have w3 := bounds_i32 u3
  clear hA0 hval0
  refine (law_CmapBuilds A0 n0 c0 z0 A1 n1 c1 z1 a2 a3 W (rk_of_laid hL) hr0 hW0 hn0 hr1 hW1 hn1 w3.1 w3.2).mono fun e W' ⟨he, bel⟩ => ?_
  subst he
  exact ⟨_, rfl, _, _, _, [], _, [], hW', trodAll_mk1 (shut_bool Tryd.underlying4 _), (trodAll_cons_mk (Below.trod laidOut (by kernel_rfl) (of_decide_eq_true (by kernel_rfl)) k0 bel lt0) (trodAll_cons_mk (Below.trod laidOut (by kernel_rfl) (of_decide_eq_true (by kernel_rfl)) k1 bel lt1) (trodAll_cons_mk (Below.trod laidOut (by kernel_rfl) (of_decide_eq_true (by kernel_rfl)) k2 bel lt2) (trodAll_cons_mk (Below.trod laidOut (by kernel_rfl) (of_decide_eq_true (by kernel_rfl)) k3 bel lt3) trodAll_mk0)))), rfl, bel.frame _, fun h => by cases h⟩

theorem over : Rows.cmapBuildsRow.holds Tryd.pinned (OpenSpec.ofChange Rows.cmapBuildsSpec) :=
  OpenClaim.holds_of_wide 3 Tryd.f3 rfl rfl rfl rfl rfl rfl rfl ⟨rfl, rfl, rfl, rfl, rfl⟩ rfl rfl rfl rfl rfl (by kernel_rfl) Tryd.func3 (by kernel_rfl)
    (of_decide_eq_true (by kernel_rfl)) (by unfold Func.isWrapper; first | (rw [if_pos (by decide +kernel)]; kernel_rfl) | (rw [if_neg (by decide +kernel)]; exact ⟨rfl, rfl⟩))
    (fun os started H enc _ => lifted os started H enc)

theorem proved : Rows.CmapBuildsCardSaid :=
  Claim7.holds_tied_plain_at .later [] [.data] true (true, "119a8445e3fae058f8e7519dbe92c3553ac8939fb292280d2234ce8111bcb548") false
    over (fun _ h => by cases h) (by kernel_rfl) (fun _ h => by cases h) cmapBuilds_row_tie rfl ⟨rfl, rfl⟩ (by kernel_rfl) rfl
    (fun f fn hf hfn => by
      obtain rfl : f = 3 := Option.some.inj ((show Tryd.prog.funcNamed "punchcut/punchcutlaw11.CmapBuilds" = some 3 by kernel_rfl).symm.trans hf) |>.symm
      obtain rfl : fn = Tryd.f3 := (Option.some.inj (Tryd.func3.symm.trans hfn)).symm
      exact ⟨by kernel_rfl, fun j t ht => by
        rw [Tryd.params3] at ht
        have hm : t ∈ [22, 22, 4, 21] := by simpa using Array.mem_of_getElem? ht
        have hall : ([22, 22, 4, 21].all fun u => !Tryd.prog.wantsStandIn u) = true := by kernel_rfl
        exact (show Tryd.prog.wantsStandIn t = false by simpa using List.all_eq_true.1 hall t hm)⟩)
    (by kernel_rfl)
#print axioms proved
end Go.Proofs.YthkaeimpflggjaaDoor.cmapBuilds
