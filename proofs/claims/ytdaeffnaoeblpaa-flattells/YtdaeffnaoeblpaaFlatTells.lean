/- Of any glyphs, made of one another in any way, each one's contours are the document's, or its error. -/
import Derived.StillTailTactics
import Derived.Test.YtdaeffnaoeblpaaRows
import Derived.WalkKit
import Derived.ProofKit
import Derived.OpenShut
import Derived.ShutString
import Derived.ChangeOld
import Derived.Below
import Derived.Lib.SmallJoins
import Derived.Test.YtdaeffnaoeblpaaBase14
import Derived.Test.YtdaeffnaoeblpaaBase17

namespace Go.Proofs.Ytdaeffnaoeblpaa
open Go.RowKit
set_option linter.unusedVariables false
set_option linter.unusedSimpArgs false

theorem FW.gls {w wr : World} {A : Option Addr} {m c : Nat} {L : List (List Int)} (h : FW w wr A m c L) : GlsIn wr A m L ∧ ptsOk L := by
  obtain ⟨S, h1, h2, h3⟩ := h
  refine ⟨⟨S, h1.row encSl_len, h2, fun i s z a b => ?_⟩, fun z hz => ?_⟩
  · obtain ⟨q1, q2, q3, q4, _⟩ := h3 i s z a b
    exact ⟨q1, q2, by omega, q4⟩
  · obtain ⟨i, hi, rfl⟩ := List.getElem_of_mem hz
    exact (h3 i (S[i]'(by omega)) _ (List.getElem?_eq_getElem (by omega)) (List.getElem?_eq_getElem hi)).2.1

/-- Both walks, and what they tell. -/
theorem flat_both {L : List (List Int)} (hL : ptsOk L) {A : Option Addr} {m c : Nat} (hm : m ≤ 24) (x : Int) (x0 : -9223372036854775808 ≤ x) (x1 : x ≤ 9223372036854775807) (W : World) (hG : GlsIn W A m L) :
    Calls Try.prog 16 #[.slice A m c, .int .i64 x] W fun e W1 => ∃ CA n1 c1, e = .returned (.tuple #[.slice CA n1 c1, .int .i64 (flatZ L x).1]) ∧ Below W.heap.size W W1 ∧
      Calls Try.prog 17 #[.slice A m c, .int .i64 x] W1 fun e W2 => ∃ DA d1, e = .returned (.tuple #[.slice DA n1 d1, .int .i64 (flatZ L x).1]) ∧ Below W1.heap.size W1 W2 ∧
        Calls Try.prog 18 #[.slice CA n1 c1, .slice DA n1 d1] W2 fun e W3 => e = .returned (.bool true) ∧ Below W2.heap.size W2 W3 := by
  have hv := visitZ_ok L 18 [] x 0 0
  obtain ⟨v1, v2, v3, v4, v5⟩ := hv
  refine (flat_any L hL W A m c x hG (by omega) x0 x1).mono ?_
  rintro e W1 ⟨hb1, CA, n1, c1, rfl, hac1⟩
  refine ⟨CA, n1, c1, rfl, hb1, ?_⟩
  refine (rflat_any L hL W1 A m c x (hG.below hb1) (by omega) x0 x1).mono ?_
  rintro e W2 ⟨hb2, DA, n2, d1, rfl, hac2⟩
  have l1 := hac1.len
  have l2 := hac2.len
  obtain rfl : n1 = n2 := by omega
  refine ⟨DA, d1, rfl, hb2, ?_⟩
  obtain ⟨S, hS, hSi⟩ := hac1.below hb2
  obtain ⟨T, hT, hTi⟩ := hac2
  have hn : n1 ≤ 1000000000 := by
    have h3 := v3 (by omega)
    unfold flatZ at l1
    omega
  exact same14_any CA DA n1 c1 d1 S T _ W2 (hS.row encSl_len) hSi (hT.row encSl_len) hTi hn (fun z hz => ((visitZ_in hL 16 [] x 0 0 rfl) z hz).1)

set_option maxRecDepth 1000000 in
set_option maxHeartbeats 4000000 in
theorem law_FlatTells (A : Option Addr) (n c : Nat) (gl : List BsV) (id : Int) (w : World) (hP : PartsOf w A n gl) (x0 : -9223372036854775808 ≤ id) (x1 : id ≤ 9223372036854775807) :
    Calls Try.prog 3 #[.slice A n c, .int .i64 id] w (True_ w) := by
  have HAw := Lib.hid (awake14_any w)
  go_enter Try.func3, Try.ntmps3
  go_wp2_with fail
  refine HAw.out.mono ?_
  rintro e w0 ⟨rfl, hb0⟩
  have HFew := Lib.hid (few14_any A n c gl w0 ⟨hP.1.below hb0, hP.2.1, fun p hp => ⟨Row.below (hP.2.2 p hp).1 hb0, (hP.2.2 p hp).2⟩⟩)
  clear HAw hP
  go_wp2_with fail
  refine HFew.out.mono ?_
  rintro e w1 ⟨A2, m, c2, L, rfl, hF, hm, hb1⟩
  obtain ⟨hG1, hL⟩ := hF.gls
  have HHv := Lib.hid (heavy_any A2 m c2 L w1 hG1 hm)
  have hbw1 := hb0.trans (hb1.mono hb0.size)
  clear HFew hb0 hb1 hF
  go_wp2_with fail
  refine HHv.out.mono ?_
  rintro e w2 ⟨b, rfl, hb2⟩
  have hbw2 := hbw1.trans (hb2.mono hbw1.size)
  have hG2 := hG1.below hb2
  have HB := Lib.hid (fun (x : Int) (y0 : -9223372036854775808 ≤ x) (y1 : x ≤ 9223372036854775807) (W : World) (hG : GlsIn W A2 m L) => flat_both (c := c2) hL hm x y0 y1 W hG)
  clear HHv hbw1 hG1 hb2
  cases b with
  | true =>
    go_wp2_with fail
    go_ret
    exact ⟨rfl, hbw2⟩
  | false =>
    go_wp2_with fail
    go_loopw [5] (fun i' wr => ∃ k : Nat, k ≤ m + 2 ∧ i' = .int .i64 ((k : Int) - 1) ∧ Below w.heap.size w wr ∧ GlsIn wr A2 m L) (fun i' _ => m + 2 - ((intOf i') + 1).toNat)
    case atStart => exact ⟨0, by omega, rfl, hbw2, hG2⟩
    case round =>
      clear hbw2 hG2
      obtain ⟨k, hk, rfl, hbel, hG⟩ := hrel
      by_cases hlt : k < m + 2
      · have HC := Lib.hid (HB.out ((k : Int) - 1) (by omega) (by omega) wr hG)
        have hle : (k : Int) - 1 ≤ (m : Int) := by omega
        have hx0 : -1 ≤ (k : Int) - 1 := by omega
        generalize hx : (k : Int) - 1 = x at *
        have Hx := Lib.hid hx
        clear hx
        go_wp2_with fail
        with_reducible refine HC.out.mono ?_
        rintro e W1 ⟨CA, n1, c1, rfl, hb3, hC2⟩
        have HC2 := Lib.hid hC2
        have hl3 := hbel.trans (hb3.mono hbel.size)
        have hG3 := hG.below hb3
        clear HC hC2
        go_wp2_with fail
        with_reducible refine HC2.out.mono ?_
        rintro e W2 ⟨DA, d1, rfl, hb4, hC3⟩
        have HC3 := Lib.hid hC3
        have hl4 := hl3.trans (hb4.mono hl3.size)
        have hG4 := hG3.below hb4
        clear HC2 hC3
        have hne : ((flatZ L x).1 != (flatZ L x).1) = false := by simp
        have heq : ((flatZ L x).1 == (flatZ L x).1) = true := by simp
        generalize (flatZ L x).1 = f1 at *
        go_wp2_with fail
        with_reducible refine HC3.out.mono ?_
        rintro e W3 ⟨rfl, hb5⟩
        have hl5 := hl4.trans (hb5.mono hl4.size)
        have hG5 := hG4.below hb5
        clear HC3 hne heq hl3 hl4 hG3 hG4 hb3 hb4 hb5
        go_wp2_with fail
        go_roundw
        case rel => exact ⟨k + 1, by omega, by rw [← Hx.out]; congr 1; omega, hl5, hG5⟩
        case measure => have := Hx.out; simp [intOf]; omega
      · have HC := Lib.hid (HB.out id x0 x1 wr hG)
        have hle : ¬ (k : Int) - 1 ≤ (m : Int) := by omega
        go_wp2_with fail
        with_reducible refine HC.out.mono ?_
        rintro e W1 ⟨CA, n1, c1, rfl, hb3, hC2⟩
        have HC2 := Lib.hid hC2
        have hl3 := hbel.trans (hb3.mono hbel.size)
        have hG3 := hG.below hb3
        clear HC hC2
        go_wp2_with fail
        with_reducible refine HC2.out.mono ?_
        rintro e W2 ⟨DA, d1, rfl, hb4, hC3⟩
        have HC3 := Lib.hid hC3
        have hl4 := hl3.trans (hb4.mono hl3.size)
        have hG4 := hG3.below hb4
        clear HC2 hC3
        have hne : ((flatZ L id).1 != (flatZ L id).1) = false := by simp
        have heq : ((flatZ L id).1 == (flatZ L id).1) = true := by simp
        generalize (flatZ L id).1 = f1 at *
        go_wp2_with fail
        with_reducible refine HC3.out.mono ?_
        rintro e W3 ⟨rfl, hb5⟩
        have hl5 := hl4.trans (hb5.mono hl4.size)
        have hG5 := hG4.below hb5
        clear HC3 hne heq hl3 hl4 hG3 hG4 hb3 hb4 hb5
        go_wp2_with fail
        go_ret
        exact ⟨rfl, hl5⟩

end Go.Proofs.Ytdaeffnaoeblpaa

namespace Go.Proofs.Ytdaeffnaoeblpaa.flatTells
open Go.ChangeShapes Go.WideShapes Go.ChangeAt Go.RowKit
open Go.ChangeMaps (open_string shut_string)
set_option linter.unusedVariables false

theorem own : ownKnob Try.prog.godebug = none := by kernel_rfl
theorem laidOut : laidOutB Try.prog = true := by kernel_rfl

set_option maxRecDepth 100000 in
theorem lifted (os : Os) (started : os.Started) (H : Type) (enc : TypeId × Value → H) :
    ReturnsInHanded {} Try.checked os 3 .any (Rows.flatTellsSpec.pre6 enc Try.prog Try.f3 Rows.flatTellsRow.domain false) (Rows.flatTellsSpec.post enc Try.prog Try.f3 false true false false) := by
  refine returnsInHanded_of_change (C := Try.checked) own started (by kernel_rfl) Try.func3
    (ChangeSpec.witness6 (enc := enc) (C := Try.checked) false ⟨#[], #[.slice none 0 0, .int .i64 0], []⟩ 8 (by kernel_rfl) (by kernel_rfl) (by kernel_rfl) (by kernel_rfl)) ?_
  intro W base args ds gs before hval0 hW hcnd _
  have hval : ∀ (j : Nat) t v, Try.f3.params[j]? = some t → args[j]? = some v → Value.okWide Try.prog W .any base t v := hval0
  have hW' := hW
  obtain ⟨p, q, hA0, hV, rfl, hfz, hnd⟩ := hW
  have hA : DataW.TrodAll enc Try.prog W 0 (fun _ => true) true Try.f3.params.toList args.toList ds p := hA0
  rw [Try.params3] at hA hval
  obtain ⟨v0, vs0, d0, ds0, p0, q0, hargs, rfl, rfl, h0, r0⟩ := trodAll_cons hA
  obtain ⟨v1, vs1, d1, ds1, p1, q1, rfl, rfl, rfl, h1, r1⟩ := trodAll_cons r0
  obtain ⟨rfl, rfl, rfl⟩ := trodAll_nil r1
  obtain rfl : args = #[v0, v1] := by cases args; simp_all
  obtain ⟨rfl, rfl⟩ := trodVars_none hV
  have k0 := h0
  have lt0 : ∀ x ∈ p0, x.block < W.heap.size := by obtain ⟨m, hm⟩ := k0; exact DataW.trod_lt m _ _ _ hm
  have k1 := h1
  have lt1 : ∀ x ∈ p1, x.block < W.heap.size := by obtain ⟨m, hm⟩ := k1; exact DataW.trod_lt m _ _ _ hm
  obtain ⟨A0, n0, c0, z0, rfl, hP0⟩ := open_bss (hval 0 22 v0 rfl rfl) k0
  obtain ⟨a1, rfl, rfl, rfl, u1⟩ := open_int Try.underlying3 (hval 1 3 v1 rfl rfl) h1
  have w1 := bounds_i64 u1
  clear hA0 hval0
  refine (law_FlatTells A0 n0 c0 z0 a1 W hP0 w1.1 w1.2).mono fun e W' ⟨he, bel⟩ => ?_
  subst he
  exact ⟨_, rfl, _, _, _, [], _, [], hW', trodAll_mk1 (shut_bool Try.underlying4 _), (trodAll_cons_mk (Below.trod laidOut (by kernel_rfl) (of_decide_eq_true (by kernel_rfl)) k0 bel lt0) (trodAll_cons_mk (Below.trod laidOut (by kernel_rfl) (of_decide_eq_true (by kernel_rfl)) k1 bel lt1) trodAll_mk0)), rfl, bel.frame _, fun h => by cases h⟩

theorem over : Rows.flatTellsRow.holds Try.pinned (OpenSpec.ofChange Rows.flatTellsSpec) :=
  OpenClaim.holds_of_wide 3 Try.f3 rfl rfl rfl rfl rfl rfl rfl ⟨rfl, rfl, rfl, rfl, rfl⟩ rfl rfl rfl rfl rfl (by kernel_rfl) Try.func3 (by kernel_rfl)
    (of_decide_eq_true (by kernel_rfl)) (by unfold Func.isWrapper; first | (rw [if_pos (by decide +kernel)]; kernel_rfl) | (rw [if_neg (by decide +kernel)]; exact ⟨rfl, rfl⟩))
    (fun os started H enc _ => lifted os started H enc)

theorem proved : Rows.FlatTellsSaid := over
#print axioms proved
end Go.Proofs.Ytdaeffnaoeblpaa.flatTells
