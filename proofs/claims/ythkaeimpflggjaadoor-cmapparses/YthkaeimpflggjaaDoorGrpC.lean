/- group.Build, as a contract over this seat's translation. -/
import Derived.Test.YthkaeimpflggjaaDoorGrpB
import Derived.Test.YthkaeimpflggjaaDoorWrBox
import Derived.Deep.RegionHeld3
import Derived.Deep.DeepCutAuto
namespace Go.Proofs.YthkaeimpflggjaaDoor
open Go.RowKit
set_option linter.unusedVariables false

def gBody (x : Rn) : List Int := b4 x.a ++ (b4 x.b ++ b4 x.g)
def gHead (m : Nat) : List Int := b2 12 ++ (b2 0 ++ (b4 (16 + (m : Int) * 12) ++ (b4 0 ++ b4 (m : Int))))
def gBytes (rs : List Rn) : List Int := gHead rs.length ++ rs.flatMap gBody
def gOut (l : List Pr) : List Int := if risesF 1114111 (-1) l then gBytes (runsF folG l) else []

theorem gBody_len (x : Rn) : (gBody x).length = 12 := rfl
theorem gHead_len (m : Nat) : (gHead m).length = 16 := rfl
theorem gFlat_len : ∀ rs : List Rn, (rs.flatMap gBody).length = 12 * rs.length
  | [] => rfl
  | x :: r => by rw [List.flatMap_cons, List.length_append, gFlat_len r, gBody_len]; simp; omega
theorem gBytes_len (rs : List Rn) : (gBytes rs).length = 16 + 12 * rs.length := by rw [gBytes, List.length_append, gHead_len, gFlat_len]
theorem gFlat_snoc {rs : List Rn} {k : Nat} {x : Rn} (h : rs[k]? = some x) : (rs.take (k + 1)).flatMap gBody = (rs.take k).flatMap gBody ++ gBody x := by
  rw [List.take_add_one, h]
  simp

set_option maxRecDepth 100000 in
set_option maxHeartbeats 4000000 in
theorem gbuild_any (A : Option Addr) (n c : Nat) (l : List Pr) (w : World) (hr : RowS encP 2 w A n l) (hn : n ≤ 1000000) (hg : PrG l) :
    Calls Tryd.prog 23 #[.slice A n c] w (RetB w (gOut l)) := by
  have HR := Lib.hid (rises_any A n c l 1114111 w hr hn)
  cases hv : risesF 1114111 (-1) l with
  | false =>
    have HO : Hid (gOut l = []) := by show _ = _; unfold gOut; rw [hv]; rfl
    rw [hv] at HR
    clear hv hr hg
    go_enter Tryd.func23, Tryd.ntmps23
    go_wp2_with fail
    with_reducible refine HR.out.mono ?_
    rintro e w1 ⟨rfl, hb1⟩
    go_wp2
    go_ret
    exact ⟨none, 0, 0, rfl, by rw [HO.out]; exact Own.nil _ _ _ _, hb1⟩
  | true =>
    have HO : Hid (gOut l = gBytes (runsF folG l)) := by show _ = _; unfold gOut; rw [hv]; rfl
    have hok : OkP l := fun p hp => by
      have h1 := risesF_mem hv p hp
      have h2 := hg p hp
      omega
    have hfit := runsG_fit l hg
    have hro := runs_ok folG_code 1114111 l (-1) hv
    have hab : ∀ x ∈ runsF folG l, 0 ≤ x.a ∧ x.a ≤ x.b ∧ x.b ≤ 1114111 := by
      have key : ∀ (t : List Rn) (ah : Int), -1 ≤ ah → rnOK 1114111 ah t → ∀ x ∈ t, 0 ≤ x.a ∧ x.a ≤ x.b ∧ x.b ≤ 1114111 := by
        intro t
        induction t with
        | nil => intro _ _ _ x hx; simp at hx
        | cons y t ih =>
          intro ah ha ho x hx
          obtain ⟨o1, o2, o3, o4⟩ := ho
          rcases List.mem_cons.1 hx with rfl | hx
          · omega
          · exact ih y.b (by omega) o4 x hx
      exact key _ _ (by omega) hro
    have hlen := runsF_len folG l
    have Hn := Lib.hid hr.len
    rw [hv] at HR
    have HAB := Lib.hid hab
    have HFit := Lib.hid hfit
    have HRu := Lib.hid (fun (W : World) (h : Below w.heap.size w W) => gruns_any A n c l W (hr.below h) hn hok)
    clear hv hg hok hfit hro hab hr
    generalize runsF folG l = rs at *
    go_enter Tryd.func23, Tryd.ntmps23
    go_wp2_with fail
    with_reducible refine HR.out.mono ?_
    rintro e w1 ⟨rfl, hb1⟩
    clear HR
    go_wp2_with fail
    with_reducible refine (HRu.out _ hb1).mono ?_
    rintro e w2 ⟨Ar, m, cr, rfl, hown, hb2'⟩
    have hb2 := hb1.trans (hb2'.mono hb1.size)
    have hrow := hown.row encG_len
    have Hm := Lib.hid hown.len
    have hmn : m ≤ 1000000 := by have := Hm.out; have := Hn.out; omega
    clear hown hb2' hb1 HRu
    have hw0 := wr_new w2
    have hA0 : Below w2.heap.size w2 (w2.alloc (.cells #[.slice none 0 0] 68)) := (Below.refl _ _).alloc (Nat.le_refl _) _
    go_wp2_with fail
    with_reducible refine (wu16_any _ _ _ 12 _ hw0 (by simp) (by omega) (by omega)).mono ?_
    rintro e w3 ⟨rfl, hw3, ht3⟩
    have hA3 := hw0.older hA0 (Nat.le_refl _) ht3
    clear hw0 hA0 ht3
    go_wp2_with fail
    with_reducible refine (wu16_any _ _ _ 0 _ hw3 (by simp [b2]) (by omega) (by omega)).mono ?_
    rintro e w4 ⟨rfl, hw4, ht4⟩
    have hA4 := hw3.older hA3 (Nat.le_refl _) ht4
    clear hw3 hA3 ht4
    go_wp2_with fail
    with_reducible refine (wu32_any _ _ _ (16 + (m : Int) * 12) _ hw4 (by simp [b2]) (by omega) (by omega)).mono ?_
    rintro e w5 ⟨rfl, hw5, ht5⟩
    have hA5 := hw4.older hA4 (Nat.le_refl _) ht5
    clear hw4 hA4 ht5
    go_wp2_with fail
    with_reducible refine (wu32_any _ _ _ 0 _ hw5 (by simp [b2, b4]) (by omega) (by omega)).mono ?_
    rintro e w6 ⟨rfl, hw6, ht6⟩
    have hA6 := hw5.older hA5 (Nat.le_refl _) ht6
    clear hw5 hA5 ht6
    go_wp2_with fail
    with_reducible refine (wu32_any _ _ _ (m : Int) _ hw6 (by simp [b2, b4]) (by omega) (by omega)).mono ?_
    rintro e w7 ⟨rfl, hw7, ht7⟩
    have hA7 := hw6.older hA6 (Nat.le_refl _) ht7
    clear hw6 hA6 ht7
    have HH : Hid ([] ++ b2 12 ++ b2 0 ++ b4 (16 + (m : Int) * 12) ++ b4 0 ++ b4 (m : Int) = gHead m) := by show _ = _; unfold gHead; simp
    rw [HH.out] at hw7
    clear HH
    go_wp2
    go_loopw [28] (fun i wr => ∃ k : Nat, k ≤ m ∧ i = .int .i64 k ∧ Wr wr w2.heap.size w2.heap.size (gHead m ++ (rs.take k).flatMap gBody) ∧ Below w2.heap.size w2 wr) (fun i _ => m - (intOf i).toNat)
    case atStart => exact ⟨0, Nat.zero_le _, rfl, by simpa using hw7, hA7⟩
    case round =>
      clear hw7 hA7
      obtain ⟨k, hk, rfl, hw, hbel⟩ := hrel
      have hbl : (gHead m ++ (rs.take k).flatMap gBody).length ≤ 16 + 12 * k := by rw [List.length_append, gHead_len, gFlat_len, List.length_take]; omega
      by_cases hlt : k < m
      · obtain ⟨x, hx⟩ := getP (l := rs) (j := k) (by have := Hm.out; omega)
        obtain ⟨g, off, rfl, hg, q0, q1, q2⟩ := atG (hrow.below hbel) hx
        obtain ⟨a0, a1, a2⟩ := HAB.out x (List.mem_of_getElem? hx)
        obtain ⟨g0, g1⟩ := HFit.out x (List.mem_of_getElem? hx)
        have HX := Lib.hid (gFlat_snoc hx)
        clear hx
        obtain ⟨xa, xb, xg⟩ := x
        simp only at *
        have hal : Below wr.heap.size wr (wr.alloc (.cells #[.int .i32 xa, .int .i32 xb, .int .u16 xg] 94)) := (Below.refl _ _).alloc (Nat.le_refl _) _
        have hs : StB w2 (wr.alloc (.cells #[.int .i32 xa, .int .i32 xb, .int .u16 xg] 94)) w2.heap.size (gHead m ++ (rs.take k).flatMap gBody) wr.heap.size #[.int .i32 xa, .int .i32 xb, .int .u16 xg] 94 :=
          ⟨hw.below hal, hbel.trans (hal.mono hbel.size), heap_alloc_new wr _, by decide, by decide⟩
        clear hw hbel hal
        have F1 : IntKind.u32.wrap xa = xa := IntWalk.u32_in _ (by omega)
        have F2 : IntKind.u32.wrap xb = xb := IntWalk.u32_in _ (by omega)
        have F3 : IntKind.u32.wrap xg = xg := IntWalk.u32_in _ (by omega)
        go_upto_region 10 with fail
        replace hs := hs.drew
        go_region_held3 (fun w' => w'.cell? ⟨wr.heap.size, 0, none⟩ = some (.int .i32 xa) ∧ w'.cell? ⟨wr.heap.size, 1, none⟩ = some (.int .i32 xb) ∧ w'.cell? ⟨wr.heap.size, 2, none⟩ = some (.int .u16 xg))
          (first | exact ⟨hs.cell 0 _ rfl, hs.cell 1 _ rfl, hs.cell 2 _ rfl⟩)
          (first
            | (go_at_call 25; refine (wu32_any _ _ _ _ _ hs.wr_ (by simp [b4, b2] at hbl ⊢; omega) (by omega) (by omega)).mono ?_; rintro e wn ⟨rfl, hwn, htn⟩; replace hs := hs.turned hwn htn; clear hwn htn))
        all_goals
          have HY : Hid (gHead m ++ (rs.take k).flatMap gBody ++ b4 xa ++ b4 xb ++ b4 xg = gHead m ++ (rs.take (k + 1)).flatMap gBody) := by
            show _ = _
            rw [HX.out, gBody]
            simp
          rw [HY.out] at hs
          go_wp2
          go_roundw
          case rel => exact ⟨k + 1, by omega, by go_num, hs.wr_, hs.bel⟩
          case measure => simp [intOf]; omega
      · obtain rfl : k = m := by omega
        go_wp2_with fail
        with_reducible refine (done_any _ _ _ _ hw (by omega)).mono ?_
        rintro e w8 ⟨A3, n3, c3, rfl, hown3, hb3⟩
        have HZ : Hid (gHead k ++ (rs.take k).flatMap gBody = gOut l) := by
          show _ = _
          rw [HO.out, gBytes, Hm.out, List.take_of_length_le (by have := Hm.out; omega)]
        have hs2 := hb2.size
        go_wp2
        go_ret
        refine ⟨A3, n3, c3, rfl, ?_, hb2.trans ((hbel.trans (hb3.mono hbel.size)).mono hs2)⟩
        rw [← HZ.out]
        exact hown3.mono (Nat.le_trans hs2 hbel.size)

end Go.Proofs.YthkaeimpflggjaaDoor
