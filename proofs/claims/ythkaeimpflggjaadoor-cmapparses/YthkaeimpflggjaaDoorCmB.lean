/- cmap.Build and the document's Build and Look of a table cmap: contracts over this seat's translation. -/
import Derived.Test.YthkaeimpflggjaaDoorCmF
import Derived.Test.YthkaeimpflggjaaDoorSegX
import Derived.Test.YthkaeimpflggjaaDoorSegD
import Derived.Test.YthkaeimpflggjaaDoorGrpC
import Derived.Test.YthkaeimpflggjaaDoorGrpD
import Derived.Test.YthkaeimpflggjaaDoorWrBox
namespace Go.Proofs.YthkaeimpflggjaaDoor
open Go.RowKit
set_option linter.unusedVariables false

/-- The table, with what stands ahead of it. -/
def cHd (wd : Bool) : List Int := b2 0 ++ (b2 1 ++ (b2 3 ++ (b2 (if wd then 10 else 1) ++ b4 12)))
def cTab (l : List Pr) (wd : Bool) : List Int := if wd then gOut l else sOut l
def cOut (l : List Pr) (wd : Bool) : List Int := if (cTab l wd).length = 0 then [] else cHd wd ++ cTab l wd
theorem cHd_len (wd : Bool) : (cHd wd).length = 12 := by cases wd <;> rfl

theorem rlook11_any (wd : Bool) (t : List Int) (Am : Option Addr) (g : Nat) (A : Option Addr) (n c : Nat) (code : Int) (w : World) (hm : CMap w wd t Am g) (hr : Row w A n (cellsOf .u8 t)) (hB : Bytes t) (hn : n ≤ 1000000) (c0 : -2147483648 ≤ code) (c1 : code ≤ 2147483647) :
    Calls Tryd.prog 18 #[.slice A n c, .bool wd, .int .i64 (cCnt wd t), .int .i64 code] w (Ret w (.int .i64 (cLook wd t code))) := by
  cases wd with
  | true =>
    have H := Lib.hid (rlook10_any A n c t (gN t) code w hr hB hn hm.2 c0 c1)
    rw [hm.1.find code] at H
    show Calls Tryd.prog 18 #[.slice A n c, .bool true, .int .i64 (gN t), .int .i64 code] w (Ret w (.int .i64 (lookR (grps t (gN t)) code)))
    clear hm hr hB
    generalize lookR (grps t (gN t)) code = v at *
    generalize gN t = N at *
    go_enter Tryd.func18, Tryd.ntmps18
    go_wp2_with fail
    with_reducible refine H.out.mono ?_
    rintro e w1 ⟨rfl, hb1⟩
    go_wp2
    go_ret
    exact ⟨rfl, hb1⟩
  | false =>
    have H := Lib.hid (rlook9_any A n c t (sN t) code w hr hB hn hm.2 c0 c1)
    show Calls Tryd.prog 18 #[.slice A n c, .bool false, .int .i64 (sN t), .int .i64 code] w (Ret w (.int .i64 (lookS t (sN t) code 0 (sN t))))
    clear hm hr hB
    generalize lookS t (sN t) code 0 (sN t) = v at *
    generalize sN t = N at *
    go_enter Tryd.func18, Tryd.ntmps18
    go_wp2_with fail
    with_reducible refine H.out.mono ?_
    rintro e w1 ⟨rfl, hb1⟩
    go_wp2
    go_ret
    exact ⟨rfl, hb1⟩

set_option maxRecDepth 100000 in
set_option maxHeartbeats 2000000 in
theorem rbuild11_any (A : Option Addr) (n c : Nat) (l : List Pr) (wd : Bool) (w : World) (hr : RowS encQ 2 w A n l) (hn : n ≤ 7000) (hok : OkQ5 l) :
    Calls Tryd.prog 13 #[.slice A n c, .bool wd] w (RetB w (cHd wd ++ (if wd then gBytes (runsF folG l) else sTab ((sRuns l).map sgR)))) := by
  cases wd with
  | true =>
    have hA : Below w.heap.size w (w.alloc (.cells #[.int .u8 0, .int .u8 0, .int .u8 0, .int .u8 1, .int .u8 0, .int .u8 3, .int .u8 0, .int .u8 10, .int .u8 0, .int .u8 0, .int .u8 0, .int .u8 12] 5)) := (Below.refl _ _).alloc (Nat.le_refl _) _
    have hrow := row_vals w 5 (cellsOf .u8 (cHd true)) 12 rfl
    have HR := Lib.hid (rbuild10_any A n c l _ (hr.below hA) (by omega) (fun p hp => by have := hok p hp; omega))
    have hrn := runsF_len folG l
    have hln := hr.len
    have hgl := gBytes_len (runsF folG l)
    have hrow2 : Row (w.alloc (.cells #[.int .u8 0, .int .u8 0, .int .u8 0, .int .u8 1, .int .u8 0, .int .u8 3, .int .u8 0, .int .u8 10, .int .u8 0, .int .u8 0, .int .u8 0, .int .u8 12] 5)) (some ⟨w.heap.size, 0, none⟩) 12 (cellsOf .u8 (cHd true)) := hrow
    clear hr hrow
    show Calls Tryd.prog 13 #[.slice A n c, .bool true] w (RetB w (cHd true ++ gBytes (runsF folG l)))
    generalize gBytes (runsF folG l) = zs at *
    go_enter Tryd.func13, Tryd.ntmps13
    go_wp2_with fail
    with_reducible refine HR.out.mono ?_
    rintro e w1 ⟨A1, n1, c1, rfl, hown, hb1⟩
    have hgt := ((Got.nil w1).put (c := 12) (hrow2.below hb1)).put (c := c1) hown.row
    have hbw := hA.trans (hb1.mono hA.size)
    have HJ := Lib.hid (joinN_any w1 _ _ 2 _ rfl rfl rfl hgt (by omega) (by simp only [joined, List.nil_append, List.cons_append, List.flatMap_cons, List.flatMap_nil, List.append_nil, List.length_append, cHd_len]; omega))
    simp only [joined, List.nil_append, List.cons_append, List.flatMap_cons, List.flatMap_nil, List.append_nil, List.map_cons, List.map_nil, BsV.val] at HJ
    clear hgt hown hb1 hrow2 HR
    generalize cHd true ++ zs = js at *
    go_wp2_with fail
    refine HJ.out.mono ?_
    rintro e w2 ⟨A2, n2, c2, rfl, hown2, hb2⟩
    go_wp2
    go_ret
    exact ⟨A2, n2, c2, rfl, hown2.mono hbw.size, hbw.trans (hb2.mono hbw.size)⟩
  | false =>
    have hA : Below w.heap.size w (w.alloc (.cells #[.int .u8 0, .int .u8 0, .int .u8 0, .int .u8 1, .int .u8 0, .int .u8 3, .int .u8 0, .int .u8 1, .int .u8 0, .int .u8 0, .int .u8 0, .int .u8 12] 5)) := (Below.refl _ _).alloc (Nat.le_refl _) _
    have hrow := row_vals w 5 (cellsOf .u8 (cHd false)) 12 rfl
    have HR := Lib.hid (rbuild9_any A n c l _ (hr.below hA) (by omega) hok)
    have hrn := runsF_len folS l
    have hln := hr.len
    have hsl : (sTab ((sRuns l).map sgR)).length = 16 + 8 * ((runsF folS l).length + 1) := by
      have h : ((sRuns l).map sgR).length = (runsF folS l).length + 1 := by unfold sRuns; simp
      have h2 : (b2 0).length = 2 := rfl
      unfold sTab
      simp only [List.length_append, colB_len, h, srB_len]
      rw [show (sPre ((runsF folS l).length + 1)).length = 8 from rfl]
      omega
    have hrow2 : Row (w.alloc (.cells #[.int .u8 0, .int .u8 0, .int .u8 0, .int .u8 1, .int .u8 0, .int .u8 3, .int .u8 0, .int .u8 1, .int .u8 0, .int .u8 0, .int .u8 0, .int .u8 12] 5)) (some ⟨w.heap.size, 0, none⟩) 12 (cellsOf .u8 (cHd false)) := hrow
    clear hr hrow
    show Calls Tryd.prog 13 #[.slice A n c, .bool false] w (RetB w (cHd false ++ sTab ((sRuns l).map sgR)))
    generalize sTab ((sRuns l).map sgR) = zs at *
    go_enter Tryd.func13, Tryd.ntmps13
    go_wp2_with fail
    with_reducible refine HR.out.mono ?_
    rintro e w1 ⟨A1, n1, c1, rfl, hown, hb1⟩
    have hgt := ((Got.nil w1).put (c := 12) (hrow2.below hb1)).put (c := c1) hown.row
    have hbw := hA.trans (hb1.mono hA.size)
    have HJ := Lib.hid (joinN_any w1 _ _ 2 _ rfl rfl rfl hgt (by omega) (by simp only [joined, List.nil_append, List.cons_append, List.flatMap_cons, List.flatMap_nil, List.append_nil, List.length_append, cHd_len]; omega))
    simp only [joined, List.nil_append, List.cons_append, List.flatMap_cons, List.flatMap_nil, List.append_nil, List.map_cons, List.map_nil, BsV.val] at HJ
    clear hgt hown hb1 hrow2 HR
    generalize cHd false ++ zs = js at *
    go_wp2_with fail
    refine HJ.out.mono ?_
    rintro e w2 ⟨A2, n2, c2, rfl, hown2, hb2⟩
    go_wp2
    go_ret
    exact ⟨A2, n2, c2, rfl, hown2.mono hbw.size, hbw.trans (hb2.mono hbw.size)⟩

set_option maxRecDepth 100000 in
set_option maxHeartbeats 4000000 in
theorem cbuild_any (A : Option Addr) (n c : Nat) (l : List Pr) (wd : Bool) (w : World) (hr : RowS encP 2 w A n l) (hn : n ≤ 7000) (hg : PrG l) (hlen : (cTab l wd).length ≤ 12000000) :
    Calls Tryd.prog 10 #[.slice A n c, .bool wd] w (RetB w (cOut l wd)) := by
  cases wd with
  | true =>
    have e1 : ∀ args w, (callFunc 23 args).run Tryd.prog w = .ok (.enter 23 args) w := enters_of Tryd.func23 (by kernel_rfl) rfl
    have hA : Below w.heap.size w (w.alloc (.cells #[.int .u16 3, .int .u16 10] 65)) := (Below.refl _ _).alloc (Nat.le_refl _) _
    have k0 := heap_alloc_new w (.cells #[.int .u16 3, .int .u16 10] 65)
    have HG := Lib.hid (gbuild_any A n c l _ (hr.below hA) (by omega) hg)
    have HO : Hid (cOut l true = if (gOut l).length = 0 then [] else cHd true ++ gOut l) := rfl
    have hol : (gOut l).length ≤ 12000000 := hlen
    clear hr hg
    generalize gOut l = zs at *
    go_enter Tryd.func10, Tryd.ntmps10
    go_wp2_with fail
    with_reducible refine HG.out.mono ?_
    rintro e w2 ⟨A2, n2, c2, rfl, hown, hb2'⟩
    have hb2 := hA.trans (hb2'.mono hA.size)
    have k2 := kept_block k0 hb2'
    have hl2 := hown.len
    have hrow2 := hown.row
    clear hA k0 HG hb2' hown e1
    by_cases hz : n2 = 0
    · have HO2 : Hid (cOut l true = []) := by show _ = _; rw [HO.out, if_pos (by omega)]
      have bz : ((n2 : Int) == 0) = true := by simp [hz]
      clear hz HO
      go_wp2
      go_ret
      exact ⟨none, 0, 0, rfl, by rw [HO2.out]; exact Own.nil _ _ _ _, hb2⟩
    · have HO2 : Hid (cOut l true = cHd true ++ zs) := by show _ = _; rw [HO.out, if_neg (by omega)]
      have bz : ((n2 : Int) == 0) = false := by simp; omega
      have hw0 := wr_new w2
      have hA0 : Below w2.heap.size w2 (w2.alloc (.cells #[.slice none 0 0] 68)) := (Below.refl _ _).alloc (Nat.le_refl _) _
      have hs : StB w2 (w2.alloc (.cells #[.slice none 0 0] 68)) w2.heap.size [] w.heap.size #[.int .u16 3, .int .u16 10] 65 := ⟨hw0, hA0, kept_block k2 hA0, by decide, by decide⟩
      have HL := Lib.hid hl2
      clear hz HO hw0 hA0 k2 hl2
      go_wp2_with (go_at_call 24; (with_reducible refine (wu16_any _ _ _ _ _ hs.wr_ (by simp [b2]) (by omega) (by omega)).mono ?_); rintro e wn ⟨rfl, hwn, htn⟩; replace hs := hs.turned hwn htn; clear hwn htn)
      replace hs := hs.drew
      go_region_held3 (fun w' => w'.cell? ⟨w.heap.size, 0, none⟩ = some (.int .u16 3) ∧ w'.cell? ⟨w.heap.size, 1, none⟩ = some (.int .u16 10))
        (first | exact ⟨hs.cell 0 _ rfl, hs.cell 1 _ rfl⟩)
        (first
          | (go_at_call 24; (with_reducible refine (wu16_any _ _ _ _ _ hs.wr_ (by simp [b2]) (by omega) (by omega)).mono ?_); rintro e wn ⟨rfl, hwn, htn⟩; replace hs := hs.turned hwn htn; clear hwn htn)
          | (go_at_call 25; (with_reducible refine (wu32_any _ _ _ _ _ hs.wr_ (by simp [b2]) (by omega) (by omega)).mono ?_); rintro e wn ⟨rfl, hwn, htn⟩; replace hs := hs.turned hwn htn; clear hwn htn))
      all_goals
        have HY : Hid ([] ++ b2 0 ++ b2 1 ++ b2 3 ++ b2 10 ++ b4 12 = cHd true) := by show _ = _; unfold cHd; simp
        rw [HY.out] at hs
        have hcl := cHd_len true
        have hrw := hrow2.below hs.bel
        go_wp2_with fail
        with_reducible refine (wput_any _ _ _ _ _ _ zs _ hs.wr_ hrw (by have := HL.out; omega)).mono ?_
        rintro e w8 ⟨rfl, hw8, ht8⟩
        replace hs := hs.turned hw8 ht8
        rw [← HO2.out] at hs
        have hcol : (cOut l true).length ≤ 20000000 := by rw [HO2.out, List.length_append, hcl]; have := HL.out; omega
        clear hw8 ht8 hrw hcl
        go_wp2_with fail
        with_reducible refine (done_any _ _ _ _ hs.wr_ (by omega)).mono ?_
        rintro e w9 ⟨A3, n3, c3, rfl, hown3, hb3⟩
        have hsz := hb2.size
        have hbel := hs.bel
        go_wp2
        go_ret
        exact ⟨A3, n3, c3, rfl, hown3.mono (Nat.le_trans hsz hbel.size), hb2.trans ((hbel.trans (hb3.mono hbel.size)).mono hsz)⟩
  | false =>
    have e1 : ∀ args w, (callFunc 22 args).run Tryd.prog w = .ok (.enter 22 args) w := enters_of Tryd.func22 (by kernel_rfl) rfl
    have hA : Below w.heap.size w (w.alloc (.cells #[.int .u16 3, .int .u16 1] 65)) := (Below.refl _ _).alloc (Nat.le_refl _) _
    have k0 := heap_alloc_new w (.cells #[.int .u16 3, .int .u16 1] 65)
    have HG := Lib.hid (sbuild_any A n c l _ (hr.below hA) (by omega) hg)
    have HO : Hid (cOut l false = if (sOut l).length = 0 then [] else cHd false ++ sOut l) := rfl
    have hol : (sOut l).length ≤ 12000000 := hlen
    clear hr hg
    generalize sOut l = zs at *
    go_enter Tryd.func10, Tryd.ntmps10
    go_wp2_with fail
    with_reducible refine HG.out.mono ?_
    rintro e w2 ⟨A2, n2, c2, rfl, hown, hb2'⟩
    have hb2 := hA.trans (hb2'.mono hA.size)
    have k2 := kept_block k0 hb2'
    have hl2 := hown.len
    have hrow2 := hown.row
    clear hA k0 HG hb2' hown e1
    by_cases hz : n2 = 0
    · have HO2 : Hid (cOut l false = []) := by show _ = _; rw [HO.out, if_pos (by omega)]
      have bz : ((n2 : Int) == 0) = true := by simp [hz]
      clear hz HO
      go_wp2
      go_ret
      exact ⟨none, 0, 0, rfl, by rw [HO2.out]; exact Own.nil _ _ _ _, hb2⟩
    · have HO2 : Hid (cOut l false = cHd false ++ zs) := by show _ = _; rw [HO.out, if_neg (by omega)]
      have bz : ((n2 : Int) == 0) = false := by simp; omega
      have hw0 := wr_new w2
      have hA0 : Below w2.heap.size w2 (w2.alloc (.cells #[.slice none 0 0] 68)) := (Below.refl _ _).alloc (Nat.le_refl _) _
      have hs : StB w2 (w2.alloc (.cells #[.slice none 0 0] 68)) w2.heap.size [] w.heap.size #[.int .u16 3, .int .u16 1] 65 := ⟨hw0, hA0, kept_block k2 hA0, by decide, by decide⟩
      have HL := Lib.hid hl2
      clear hz HO hw0 hA0 k2 hl2
      go_wp2_with (go_at_call 24; (with_reducible refine (wu16_any _ _ _ _ _ hs.wr_ (by simp [b2]) (by omega) (by omega)).mono ?_); rintro e wn ⟨rfl, hwn, htn⟩; replace hs := hs.turned hwn htn; clear hwn htn)
      replace hs := hs.drew
      go_region_held3 (fun w' => w'.cell? ⟨w.heap.size, 0, none⟩ = some (.int .u16 3) ∧ w'.cell? ⟨w.heap.size, 1, none⟩ = some (.int .u16 1))
        (first | exact ⟨hs.cell 0 _ rfl, hs.cell 1 _ rfl⟩)
        (first
          | (go_at_call 24; (with_reducible refine (wu16_any _ _ _ _ _ hs.wr_ (by simp [b2]) (by omega) (by omega)).mono ?_); rintro e wn ⟨rfl, hwn, htn⟩; replace hs := hs.turned hwn htn; clear hwn htn)
          | (go_at_call 25; (with_reducible refine (wu32_any _ _ _ _ _ hs.wr_ (by simp [b2]) (by omega) (by omega)).mono ?_); rintro e wn ⟨rfl, hwn, htn⟩; replace hs := hs.turned hwn htn; clear hwn htn))
      all_goals
        have HY : Hid ([] ++ b2 0 ++ b2 1 ++ b2 3 ++ b2 1 ++ b4 12 = cHd false) := by show _ = _; unfold cHd; simp
        rw [HY.out] at hs
        have hcl := cHd_len false
        have hrw := hrow2.below hs.bel
        go_wp2_with fail
        with_reducible refine (wput_any _ _ _ _ _ _ zs _ hs.wr_ hrw (by have := HL.out; omega)).mono ?_
        rintro e w8 ⟨rfl, hw8, ht8⟩
        replace hs := hs.turned hw8 ht8
        rw [← HO2.out] at hs
        have hcol : (cOut l false).length ≤ 20000000 := by rw [HO2.out, List.length_append, hcl]; have := HL.out; omega
        clear hw8 ht8 hrw hcl
        go_wp2_with fail
        with_reducible refine (done_any _ _ _ _ hs.wr_ (by omega)).mono ?_
        rintro e w9 ⟨A3, n3, c3, rfl, hown3, hb3⟩
        have hsz := hb2.size
        have hbel := hs.bel
        go_wp2
        go_ret
        exact ⟨A3, n3, c3, rfl, hown3.mono (Nat.le_trans hsz hbel.size), hb2.trans ((hbel.trans (hb3.mono hbel.size)).mono hsz)⟩

end Go.Proofs.YthkaeimpflggjaaDoor
