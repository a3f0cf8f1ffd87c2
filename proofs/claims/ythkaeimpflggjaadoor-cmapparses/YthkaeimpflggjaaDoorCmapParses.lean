/- Parse of a table cmap is the document's: the law CmapParses is true. No condition on the arguments; the variable punchcut/cmap.ranked holds what the program's own text lays there (the card ties it to the program). -/
import Derived.Test.YthkaeimpflggjaaDoorRows
import Derived.Test.YthkaeimpflggjaaDoorCards
import Derived.Test.YthkaeimpflggjaaDoorTie
import Derived.SevenTiedAt
import Derived.LaidMore
import Derived.Stop.Joined
import Derived.WalkKit
import Derived.ProofKit
import Derived.OpenShut
import Derived.ShutString
import Derived.ChangeOld
import Derived.Below
import Derived.Lib.SmallJoins
import Derived.Test.YthkaeimpflggjaaDoorBase2
import Derived.Test.YthkaeimpflggjaaDoorBase9

namespace Go.Proofs.YthkaeimpflggjaaDoor
open Go.RowKit
set_option linter.unusedVariables false

/-- A map in a box, its table, and codes. -/
structure LPC (w wr : World) (bx : Nat) (wd : Bool) (B1 : Option Addr) (m1 d1 : Nat) (B2 : Option Addr) (m2 d2 : Nat) (t : List Int) (A : Option Addr) (c g : Nat) (As : Option Addr) (ns : Nat) (Ac : Option Addr) (nc : Nat) (zc : List Int) : Prop where
  b : BoxC w wr bx wd B1 m1 d1 B2 m2 d2 t A c g
  row : Row wr As ns (cellsOf .u8 t)
  cod : Row wr Ac nc (cellsOf .i32 zc)
theorem LPC.below {w wr w' : World} {bx : Nat} {wd : Bool} {B1 : Option Addr} {m1 d1 : Nat} {B2 : Option Addr} {m2 d2 : Nat} {t : List Int} {A : Option Addr} {c g : Nat} {As : Option Addr} {ns : Nat} {Ac : Option Addr} {nc : Nat} {zc : List Int} (h : LPC w wr bx wd B1 m1 d1 B2 m2 d2 t A c g As ns Ac nc zc) (hb : Below wr.heap.size wr w') : LPC w w' bx wd B1 m1 d1 B2 m2 d2 t A c g As ns Ac nc zc :=
  ⟨h.b.below hb, h.row.below hb, h.cod.below hb⟩

theorem i32_wfC {z1 : List Int} (h : Wf .i32 z1) {j : Nat} {x : Int} (hx : z1[j]? = some x) : -2147483648 ≤ x ∧ x ≤ 2147483647 := bounds_i32 (h x (List.mem_of_getElem? hx))

set_option maxRecDepth 100000 in
set_option maxHeartbeats 4000000 in
theorem law_CmapParses (A0 : Option Addr) (n0 c0 : Nat) (z0 : List Int) (A1 : Option Addr) (n1 c1 : Nat) (z1 : List Int) (w : World) (hR : Rk w) (hr0 : Row w A0 n0 (cellsOf .u8 z0)) (hB0 : Bytes z0) (hn0 : n0 ≤ 9223372036854775807)
    (hr1 : Row w A1 n1 (cellsOf .i32 z1)) (hW1 : Wf .i32 z1) (hn1 : n1 ≤ 9223372036854775807) :
    Calls Tryd.prog 4 #[.slice A0 n0 c0, .slice A1 n1 c1] w (True_ w) := by
  have HAw := Lib.hid (awake11_any w hR)
  go_enter Tryd.func4, Tryd.ntmps4
  go_wp2_with fail
  with_reducible refine HAw.out.mono ?_
  rintro e w0 ⟨rfl, hb0⟩
  go_wp2_with fail
  refine (cut_any _ _ _ z0 300 _ (hr0.below hb0) hn0 (by omega)).mono ?_
  rintro e w1 ⟨Ac, nc, cc, rfl, hown, hb1'⟩
  have hb1 : Below w.heap.size w w1 := hb0.trans (hb1'.mono hb0.size)
  have hB1 : Bytes (z0.take (300 : Int).toNat) := cut_bytes hB0 _
  have hl1 : nc ≤ 300 := by have := hown.len; rw [List.length_take] at this; simp at this; omega
  have hrow := hown.row
  have hcap := hown.cap
  have hcod := hr1.below hb1
  clear hb1' hb0 hr0 hB0 hn0 hown hr1 HAw
  generalize z0.take (300 : Int).toNat = zs at *
  have HB := Lib.hid hB1
  have HW := Lib.hid hW1
  have HP := Lib.hid (cparse_any Ac nc cc zs w1 hrow hB1 (by omega) hcap (hR.below hb1))
  clear hB1 hW1 hR
  go_wp2_with fail
  with_reducible refine HP.out.mono ?_
  rintro e w2 ⟨hb2, ⟨hf, rfl⟩ | ⟨wd, v, hf, A2, c2, g2, rfl, hm⟩⟩
  · have hs : BoxC w (w2.alloc (.cells #[.bool false, .slice none 0 0, .slice none 0 0] 37)) w2.heap.size false none 0 0 none 0 0 [] none 0 0 := BoxC.new (c := 0) w2 (hb1.trans (hb2.mono hb1.size)) (CMap.zero w2) rfl
    have hal : Below w2.heap.size w2 (w2.alloc (.cells #[.bool false, .slice none 0 0, .slice none 0 0] 37)) := (Below.refl _ _).alloc (Nat.le_refl _) _
    have HFd := Lib.hid (rfind_any Ac nc cc zs _ ((hrow.below hb2).below hal) HB.out (by omega) hcap)
    have HL : Hid (∀ W, BoxC w W w2.heap.size false none 0 0 none 0 0 [] none 0 0 → Calls Tryd.prog 15 #[.agg #[.bool false, .slice none 0 0, .slice none 0 0], .int .i32 65] W (Ret W (.int .u16 0))) := fun W h => h.look 65 0 rfl (by omega) (by omega)
    have HW := Lib.hid (fun W => cwide_of false none 0 0 none 0 0 W)
    clear HP hb2 hb1 hrow hcod hal
    unfold cmV0
    go_wp2_with fail
    with_reducible refine HFd.out.mono ?_
    rintro e w3 ⟨hb3, As, ns, cs, wd, N, ok, rfl, hok, _⟩
    rw [hf] at hok
    replace hok : ok = false := hok
    subst hok
    replace hs := hs.below hb3
    obtain ⟨k0, k1, k2⟩ := hs.cells
    clear hb3 HFd hf
    go_wp2_with (first
      | (go_at_call 14; (with_reducible refine (HW.out _).mono ?_); rintro e wn ⟨rfl, hbn⟩; replace hs := hs.below hbn; obtain ⟨k0, k1, k2⟩ := hs.cells; clear hbn)
      | (go_at_call 15; (with_reducible refine (HL.out _ hs).mono ?_); rintro e wn ⟨rfl, hbn⟩; replace hs := hs.below hbn; obtain ⟨k0, k1, k2⟩ := hs.cells; clear hbn))
    go_ret
    exact ⟨rfl, hs.bel⟩
  · obtain ⟨B1, m1, d1, B2, m2, d2, he⟩ := cmV_three wd A2 (cCnt wd (zs.drop v)) c2
    have hs := BoxC.new w2 (hb1.trans (hb2.mono hb1.size)) hm he
    have hal : Below w2.heap.size w2 (w2.alloc (.cells #[.bool wd, .slice B1 m1 d1, .slice B2 m2 d2] 37)) := (Below.refl _ _).alloc (Nat.le_refl _) _
    have HFd := Lib.hid (rfind_any Ac nc cc zs _ ((hrow.below hb2).below hal) HB.out (by omega) hcap)
    replace hcod := (hcod.below hb2).below hal
    rw [he]
    clear HP hb2 hb1 hrow hal hm he
    go_wp2_with fail
    with_reducible refine HFd.out.mono ?_
    rintro e w3 ⟨hb3, As, ns, cs, wd', N, ok, rfl, hok, hfd⟩
    obtain ⟨rfl, rfl, hrt, hns1, hns2⟩ := hfd wd v hf
    rw [hf] at hok
    replace hok : ok = true := hok
    subst hok
    have hBt : Bytes (zs.drop v) := drop_bytes HB.out _
    replace hs := hs.below hb3
    replace hcod := hcod.below hb3
    clear hb3 HFd hf hfd
    generalize zs.drop v = t at *
    have HBt := Lib.hid hBt
    clear hBt
    have hsx : LPC w w3 w2.heap.size wd' B1 m1 d1 B2 m2 d2 t A2 c2 g2 As ns A1 n1 z1 := ⟨hs, hrt, hcod⟩
    have Hn1 := Lib.hid hcod.len
    clear hs hrt hcod
    generalize w2.heap.size = bx at *
    have HWd := Lib.hid (fun W => cwide_of wd' B1 m1 d1 B2 m2 d2 W)
    have HLk : Hid (∀ (W : World) (code : Int), LPC w W bx wd' B1 m1 d1 B2 m2 d2 t A2 c2 g2 As ns A1 n1 z1 → -2147483648 ≤ code → code ≤ 2147483647 → Calls Tryd.prog 15 #[.agg #[.bool wd', .slice B1 m1 d1, .slice B2 m2 d2], .int .i32 code] W (Ret W (.int .u16 (cLook wd' t code)))) := fun W code h a b => h.b.look code _ rfl a b
    have HRk : Hid (∀ (W : World) (code : Int), LPC w W bx wd' B1 m1 d1 B2 m2 d2 t A2 c2 g2 As ns A1 n1 z1 → -2147483648 ≤ code → code ≤ 2147483647 → Calls Tryd.prog 18 #[.slice As ns cs, .bool wd', .int .i64 (cCnt wd' t), .int .i64 code] W (Ret W (.int .i64 (cLook wd' t code)))) := fun W code h a b => rlook11_any wd' t A2 g2 As ns cs code W h.b.map h.row HBt.out (by omega) a b
    obtain ⟨k0, k1, k2⟩ := hsx.b.cells
    have hne : (wd' != wd') = false := by simp
    go_wp2_with (go_at_call 14; (with_reducible refine (HWd.out _).mono ?_); rintro e wn ⟨rfl, hbn⟩; replace hsx := hsx.below hbn; clear hbn k0 k1 k2)
    clear hne HWd
    generalize cCnt wd' t = N at *
    go_loopw [52] (fun i wr => ∃ k : Nat, k ≤ 200 ∧ i = .int .i32 k ∧ LPC w wr bx wd' B1 m1 d1 B2 m2 d2 t A2 c2 g2 As ns A1 n1 z1) (fun i _ => 200 - (intOf i).toNat)
    case atStart => exact ⟨0, Nat.zero_le _, rfl, hsx⟩
    case round =>
      clear hsx
      obtain ⟨j, hj, rfl, hs⟩ := hrel
      by_cases hlt : j < 200
      · obtain ⟨k0, k1, k2⟩ := hs.b.cells
        obtain ⟨v0, v1⟩ := cLook_lt wd' t (j : Int)
        have H1 := Lib.hid (HLk.out _ (j : Int) hs (by omega) (by omega))
        have hnv : (cLook wd' t (j : Int) != cLook wd' t (j : Int)) = false := by simp
        go_wp2_with fail
        with_reducible refine H1.out.mono ?_
        rintro e w5 ⟨rfl, hb5⟩
        have hs5 := hs.below hb5
        have H2 := Lib.hid (HRk.out _ (j : Int) hs5 (by omega) (by omega))
        clear hs hb5 H1 k0 k1 k2
        go_wp2_with fail
        with_reducible refine H2.out.mono ?_
        rintro e w6 ⟨rfl, hb6⟩
        have hs6 := hs5.below hb6
        clear hs5 hb6 H2
        generalize cLook wd' t (j : Int) = v at *
        go_wp2
        go_roundw
        case rel => exact ⟨j + 1, by omega, by go_num, hs6⟩
        case measure => simp [intOf]; omega
      · go_wp2
        go_loopw [69] (fun i wr => ∃ k : Nat, k ≤ n1 ∧ i = .int .i64 k ∧ LPC w wr bx wd' B1 m1 d1 B2 m2 d2 t A2 c2 g2 As ns A1 n1 z1) (fun i _ => n1 - (intOf i).toNat)
        case atStart => exact ⟨0, Nat.zero_le _, rfl, hs⟩
        case round =>
          clear hs hlt hj
          obtain ⟨k, hk, rfl, hs⟩ := hrel
          by_cases hlt : k < n1
          · obtain ⟨x, hx⟩ := getP (l := z1) (j := k) (by have := Hn1.out; omega)
            obtain ⟨g, off, rfl, hg, hcx⟩ := hs.cod.at (j := k) (u := .int .i32 x) (cellsOf_get hx)
            obtain ⟨x0, x1⟩ := i32_wfC HW.out hx
            clear hx
            by_cases h20 : k < 20
            · obtain ⟨k0, k1, k2⟩ := hs.b.cells
              obtain ⟨v0, v1⟩ := cLook_lt wd' t x
              have H1 := Lib.hid (HLk.out _ x hs x0 x1)
              have hnv : (cLook wd' t x != cLook wd' t x) = false := by simp
              go_wp2_with fail
              with_reducible refine H1.out.mono ?_
              rintro e w5 ⟨rfl, hb5⟩
              have hs5 := hs.below hb5
              have H2 := Lib.hid (HRk.out _ x hs5 x0 x1)
              clear hs hb5 H1 k0 k1 k2 hcx
              go_wp2_with fail
              with_reducible refine H2.out.mono ?_
              rintro e w6 ⟨rfl, hb6⟩
              have hs6 := hs5.below hb6
              clear hs5 hb6 H2
              generalize cLook wd' t x = v at *
              go_wp2
              go_roundw
              case rel => exact ⟨k + 1, by omega, by go_num, hs6⟩
              case measure => simp [intOf]; omega
            · go_wp2
              go_roundw
              case rel => exact ⟨k + 1, by omega, by go_num, hs⟩
              case measure => simp [intOf]; omega
          · go_wp2
            go_ret
            exact ⟨rfl, hs.b.bel⟩

end Go.Proofs.YthkaeimpflggjaaDoor

namespace Go.Proofs.YthkaeimpflggjaaDoor.cmapParses
open Go.ChangeShapes Go.WideShapes Go.ChangeAt Go.RowKit
open Go.ChangeMaps (open_string shut_string)
set_option linter.unusedVariables false

theorem own : ownKnob Tryd.prog.godebug = none := by kernel_rfl
theorem laidOut : laidOutB Tryd.prog = true := by kernel_rfl

set_option maxRecDepth 100000 in
theorem lifted (os : Os) (started : os.Started) (H : Type) (enc : TypeId × Value → H) :
    ReturnsInHanded {} Tryd.checked os 4 .any (fun w args => (Rows.cmapParsesSpec.pre enc Tryd.prog Tryd.f4 [] false w args ∧ laidMetH Tryd.prog laid11 w) ∧ sizedMet enc Tryd.prog Tryd.f4 (OpenSpec.ofChange Rows.cmapParsesSpec) false w args) (Rows.cmapParsesSpec.post enc Tryd.prog Tryd.f4 false true false false) := by
  refine returnsInHanded_of_change_and (C := Tryd.checked) (X := fun w _ => laidMetH Tryd.prog laid11 w) (fun _ _ _ hh h => h.of_heap hh) own started (by kernel_rfl) Tryd.func4
    (ChangeSpec.witness_shaped (enc := enc) (C := Tryd.checked) (os := os) (X := fun w _ => laidMetH Tryd.prog laid11 w) false (World.doorLaid Tryd.prog 400 os) #[.slice none 0 0, .slice none 0 0] 8 rfl (World.shaped_of_RefB (by kernel_rfl) (by kernel_rfl)) (by kernel_rfl) (by kernel_rfl) (by kernel_rfl) (door_met os _)) ?_
  intro W base args ds gs before hval0 hW _ _ hL _
  have hval : ∀ (j : Nat) t v, Tryd.f4.params[j]? = some t → args[j]? = some v → Value.okWide Tryd.prog W .any base t v := hval0
  have hW' := hW
  obtain ⟨p, q, hA0, hV, rfl, hfz, hnd⟩ := hW
  have hA : DataW.TrodAll enc Tryd.prog W 0 (fun _ => true) true Tryd.f4.params.toList args.toList ds p := hA0
  rw [Tryd.params4] at hA hval
  obtain ⟨v0, vs0, d0, ds0, p0, q0, hargs, rfl, rfl, h0, r0⟩ := trodAll_cons hA
  obtain ⟨v1, vs1, d1, ds1, p1, q1, rfl, rfl, rfl, h1, r1⟩ := trodAll_cons r0
  obtain ⟨rfl, rfl, rfl⟩ := trodAll_nil r1
  obtain rfl : args = #[v0, v1] := by cases args; simp_all
  obtain ⟨rfl, rfl⟩ := trodVars_none hV
  have k0 := h0
  have lt0 : ∀ x ∈ p0, x.block < W.heap.size := by obtain ⟨m, hm⟩ := k0; exact DataW.trod_lt m _ _ _ hm
  have k1 := h1
  have lt1 : ∀ x ∈ p1, x.block < W.heap.size := by obtain ⟨m, hm⟩ := k1; exact DataW.trod_lt m _ _ _ hm
  obtain ⟨A0, n0, c0, z0, rfl, hr0, hB0, hn0⟩ := open_bs (hval 0 28 v0 rfl rfl) k0
  obtain ⟨A1, n1, c1, z1, rfl, hr1, hW1, hn1, hc1⟩ := open_nums Tryd.underlying48 Tryd.underlying21 (by kernel_rfl) (hval 1 48 v1 rfl rfl) k1
  clear hA0 hval0
  refine (law_CmapParses A0 n0 c0 z0 A1 n1 c1 z1 W (rk_of_laid hL) hr0 hB0 hn0 hr1 hW1 hn1).mono fun e W' ⟨he, bel⟩ => ?_
  subst he
  exact ⟨_, rfl, _, _, _, [], _, [], hW', trodAll_mk1 (shut_bool Tryd.underlying4 _), (trodAll_cons_mk (Below.trod laidOut (by kernel_rfl) (of_decide_eq_true (by kernel_rfl)) k0 bel lt0) (trodAll_cons_mk (Below.trod laidOut (by kernel_rfl) (of_decide_eq_true (by kernel_rfl)) k1 bel lt1) trodAll_mk0)), rfl, bel.frame _, fun h => by cases h⟩

theorem over : Rows.cmapParsesRow.holds Tryd.pinned (OpenSpec.ofChange Rows.cmapParsesSpec) :=
  OpenClaim.holds_of_wide 4 Tryd.f4 rfl rfl rfl rfl rfl rfl rfl ⟨rfl, rfl, rfl, rfl, rfl⟩ rfl rfl rfl rfl rfl (by kernel_rfl) Tryd.func4 (by kernel_rfl)
    (of_decide_eq_true (by kernel_rfl)) (by unfold Func.isWrapper; first | (rw [if_pos (by decide +kernel)]; kernel_rfl) | (rw [if_neg (by decide +kernel)]; exact ⟨rfl, rfl⟩))
    (fun os started H enc _ => lifted os started H enc)

theorem proved : Rows.CmapParsesCardSaid :=
  Claim7.holds_tied_plain_at .later [] [.data] true (true, "119a8445e3fae058f8e7519dbe92c3553ac8939fb292280d2234ce8111bcb548") false
    over (fun _ h => by cases h) (by kernel_rfl) (fun _ h => by cases h) cmapParses_row_tie rfl ⟨rfl, rfl⟩ (by kernel_rfl) rfl
    (fun f fn hf hfn => by
      obtain rfl : f = 4 := Option.some.inj ((show Tryd.prog.funcNamed "punchcut/punchcutlaw11.CmapParses" = some 4 by kernel_rfl).symm.trans hf) |>.symm
      obtain rfl : fn = Tryd.f4 := (Option.some.inj (Tryd.func4.symm.trans hfn)).symm
      exact ⟨by kernel_rfl, fun j t ht => by
        rw [Tryd.params4] at ht
        have hm : t ∈ [28, 48] := by simpa using Array.mem_of_getElem? ht
        have hall : ([28, 48].all fun u => !Tryd.prog.wantsStandIn u) = true := by kernel_rfl
        exact (show Tryd.prog.wantsStandIn t = false by simpa using List.all_eq_true.1 hall t hm)⟩)
    (by kernel_rfl)
#print axioms proved
end Go.Proofs.YthkaeimpflggjaaDoor.cmapParses
