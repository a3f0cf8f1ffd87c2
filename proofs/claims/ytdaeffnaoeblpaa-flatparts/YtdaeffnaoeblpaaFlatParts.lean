/- Of any bytes, with others behind them, the glyphs of which they are made are the document's, or they are no glyph's. -/
import Derived.StillTailTactics
import Derived.Test.YtdaeffnaoeblpaaRows
import Derived.WalkKit
import Derived.ProofKit
import Derived.OpenShut
import Derived.ShutString
import Derived.ChangeOld
import Derived.Below
import Derived.Lib.SmallJoins
import Derived.Test.YtdaeffnaoeblpaaBase1
import Derived.Test.YtdaeffnaoeblpaaBase15

namespace Go.Proofs.Ytdaeffnaoeblpaa
open Go.RowKit
set_option linter.unusedVariables false
set_option linter.unusedSimpArgs false

theorem partsZ_ne {f : Int → Nat → Nat → VR} (hf : ∀ i m q, (f i m q).1 ≠ 2) : ∀ (ps : List Pt) (acc : List (List Sp)) (m q : Nat), (partsZ f ps acc m q).1 ≠ 2
  | [], _, _, _ => by unfold partsZ; show (0 : Int) ≠ 2; decide
  | p :: ps, acc, m, q => by
    unfold partsZ
    split
    · exact partsZ_ne hf ps _ _ _
    · exact hf _ _ _
theorem flatZ_self {z : List Int} {cs : List (List Sp)} {ps : List Pt} (h : shZ z = some (cs, ps)) : (flatZ [z] 0).1 ≠ 2 := by
  unfold flatZ
  have h0 : codeE ([z] : List (List Int)).length [] 0 0 = 0 := by show codeE 1 [] 0 0 = 0; decide
  rw [visitZ_code, if_pos h0]
  rw [show ([z] : List (List Int)).getD ((0 : Int).toNat) [] = z from rfl, h]
  unfold stepZ
  simp only
  split
  · show (9 : Int) ≠ 2
    decide
  · refine partsZ_ne (fun i m q => ?_) _ _ _ _
    rw [visitZ_code]
    have hc : codeE ([z] : List (List Int)).length ([] ++ [0]) i m = 6 ∨ codeE ([z] : List (List Int)).length ([] ++ [0]) i m = 8 := by
      unfold codeE
      by_cases h1 : i < 0 ∨ (([z] : List (List Int)).length : Int) ≤ i
      · rw [if_pos h1]; exact .inl rfl
      · have h2 : i = 0 := by simp at h1; omega
        subst h2
        rw [if_neg h1, if_pos (by decide)]
        exact .inr rfl
    rcases hc with e | e
    · rw [e, if_neg (by decide)]
      show (6 : Int) ≠ 2
      decide
    · rw [e, if_neg (by decide)]
      show (8 : Int) ≠ 2
      decide

set_option maxRecDepth 1000000 in
set_option maxHeartbeats 8000000 in
theorem law_FlatParts (A : Option Addr) (n c : Nat) (zs : List Int) (A' : Option Addr) (n' c' : Nat) (ys : List Int) (w : World) (hr : Row w A n (cellsOf .u8 zs)) (hB : Bytes zs) (hn : n ≤ 9223372036854775807) (hr' : Row w A' n' (cellsOf .u8 ys)) (hB' : Bytes ys) (hn' : n' ≤ 9223372036854775807) :
    Calls Try.prog 8 #[.slice A n c, .slice A' n' c'] w (True_ w) := by
  have HAw := Lib.hid (awake14_any w)
  have HC : Hid (∀ W, Below w.heap.size w W → Calls Try.prog 28 #[.slice A n c, .int .i64 160] W (RetB W (zs.take (160 : Int).toNat))) := fun W hW => cut_any _ _ _ zs 160 W (hr.below hW) hn (by omega)
  have HC' : Hid (∀ W, Below w.heap.size w W → Calls Try.prog 28 #[.slice A' n' c', .int .i64 5] W (RetB W (ys.take (5 : Int).toNat))) := fun W hW => cut_any _ _ _ ys 5 W (hr'.below hW) hn' (by omega)
  have HBt : Hid (Bytes (zs.take (160 : Int).toNat ++ ys.take (5 : Int).toNat)) := Lib.hid fun x hx => by
    rcases List.mem_append.1 hx with h | h
    · exact cut_bytes hB _ x h
    · exact cut_bytes hB' _ x h
  have hl1 : (zs.take (160 : Int).toNat).length ≤ 160 := by rw [List.length_take]; simp; omega
  have hl2 : (ys.take (5 : Int).toNat).length ≤ 5 := by rw [List.length_take]; simp; omega
  clear hr hB hr' hB'
  go_enter Try.func8, Try.ntmps8
  go_wp2_with fail
  with_reducible refine HAw.out.mono ?_
  rintro e w0 ⟨rfl, hb0⟩
  have HC0 := Lib.hid (HC.out w0 hb0)
  clear HAw HC
  go_wp2_with fail
  with_reducible refine HC0.out.mono ?_
  rintro e w1 ⟨A2, n2, c2, rfl, hown, hb1'⟩
  have hb1 : Below w.heap.size w w1 := hb0.trans (hb1'.mono hb0.size)
  have hrow := hown.row
  have HC1 := Lib.hid (HC'.out w1 hb1)
  clear HC0 HC' hb1' hb0 hown
  go_wp2_with fail
  with_reducible refine HC1.out.mono ?_
  rintro e w2 ⟨A3, n3, c3, rfl, hown3, hb2'⟩
  have hrow2 := hrow.below hb2'
  have hrow3 := hown3.row
  have hb2 := hb1.trans (hb2'.mono hb1.size)
  have HJ := Lib.hid (join2_any w2 w2.heap.size A2 A3 n2 c2 n3 c3 _ _ rfl hrow2 hrow3 (by omega))
  generalize zs.take (160 : Int).toNat = p1 at *
  generalize ys.take (5 : Int).toNat = p2 at *
  clear HC1 hb2' hown3 hrow hrow2 hrow3 hb1
  go_wp2_with fail
  with_reducible refine HJ.out.mono ?_
  rintro e w3 ⟨A4, n4, c4, rfl, hown4, hb3'⟩
  have hb3 := hb2.trans (hb3'.mono hb2.size)
  have hrow4 := hown4.row
  have hcap4 := hown4.cap
  have hlen4 := hown4.len
  rw [List.length_append] at hlen4
  generalize p1 ++ p2 = ps at *
  have HP := Lib.hid (fparts_any A4 n4 c4 ps w3 hrow4 HBt.out (by omega) hcap4)
  clear HJ hown4 hb3' hb2
  go_wp2_with fail
  with_reducible refine HP.out.mono ?_
  rintro e w4 ⟨hb4, hno, hyes⟩
  have hrow5 := hrow4.below hb4
  have HQ := Lib.hid (rparts_any A4 n4 c4 ps w4 hrow5 HBt.out (by omega) hcap4)
  have hb4w := hb3.trans (hb4.mono hb3.size)
  obtain ⟨hk1, hk2⟩ := shZ_kind HBt.out
  by_cases hk : 0 ≤ kindZ ps
  · obtain ⟨cs, qs, hz, hids⟩ := hk2 hk
    obtain ⟨PA, pn, pc, rfl, hpo, hq201⟩ := hyes cs qs hz
    rw [hids] at hpo
    have hF := flatZ_self hz
    clear hno hyes hk1 hk2 HP
    go_wp2_with fail
    with_reducible refine HQ.out.mono ?_
    rintro e w5 ⟨hb5, QA, qn, qc, rfl, hqo⟩
    have hpo5 := hpo.below hb5
    have hrow6 := hrow5.below hb5
    have hb5w := hb4w.trans (hb5.mono hb4w.size)
    have hpl := hpo5.len
    obtain rfl : qn = pn := by rw [← hqo.len, hpl]
    have hqb : qn ≤ 201 := by
      have h1 : (qs.map (·.i)).length = qn := by rw [hids]; exact hpl
      rw [List.length_map] at h1
      omega
    rw [decide_eq_true hk]
    have HPo := Lib.hid hpo5.row
    have HQo := Lib.hid hqo.row
    have hpb : ∀ x ∈ idsZ ps, 0 ≤ x ∧ x ≤ 65535 := by
      rw [← hids]
      intro x hx
      obtain ⟨p, hp, rfl⟩ := List.mem_map.1 hx
      exact (shZ_ok HBt.out hz p hp).i
    have HPb := Lib.hid hpb
    clear HQ hpo hpo5 hqo hb5 hids hk hpb
    go_wp2_with fail
    go_loopw [50] (fun i' wr => ∃ j : Nat, j ≤ qn ∧ i' = .int .i64 j ∧ Below w5.heap.size w5 wr) (fun i' _ => qn - (intOf i').toNat)
    case atStart => exact ⟨0, Nat.zero_le _, rfl, Below.refl _ _⟩
    case round =>
      obtain ⟨j, hj, rfl, hbel⟩ := hrel
      by_cases hlt : j < qn
      · obtain ⟨x, hx⟩ := get_some (zs := idsZ ps) (k := j) (by omega)
        obtain ⟨x0, x1⟩ := HPb.out x (List.mem_of_getElem? hx)
        obtain ⟨g1, o1, rfl, hg1, hc1⟩ := (HPo.out.below hbel).at (cellsOf_get (k := .u16) hx)
        obtain ⟨g2, o2, rfl, hg2, hc2⟩ := (HQo.out.below hbel).at (cellsOf_get (k := .i64) hx)
        have hbd := hbel.drew
        clear hx
        go_wp2_with fail
        refine wp_region_still_tail 9 (by kernel_rfl) (by kernel_rfl) ?_
        simp only [List.take_succ_cons, List.take_zero, List.drop_succ_cons, List.drop_zero]
        repeat still_step
        refine wpStill_nil ?_
        go_wp2_with fail
        go_roundw
        case rel => exact ⟨j + 1, by omega, by go_num, hbd⟩
        case measure => simp [intOf]; omega
      · obtain rfl : j = qn := by omega
        have hbw := hb5w.trans (hbel.mono hb5w.size)
        have hrow7 := hrow6.below hbel
        have hA := (Below.refl wr.heap.size wr).alloc (Nat.le_refl _) (.cells #[.slice A4 n4 c4] 42)
        have HFl := Lib.hid (flat_any [ps] (fun z hz => by simp at hz; subst hz; exact HBt.out) (wr.alloc (.cells #[.slice A4 n4 c4] 42)) (some ⟨wr.heap.size, 0, none⟩) 1 1 0 (glsIn_one wr 42 hrow7 HBt.out (by omega) hcap4) (by omega) (by omega) (by omega))
        have hbA := hbw.trans (hA.mono hbw.size)
        unfold RetFlat at HFl
        generalize flatZ [ps] 0 = fz at *
        obtain ⟨fe, fcs, fm, fq⟩ := fz
        simp only at HFl hF
        clear hbel hbw hrow7 hA HPo HQo hrow5 hrow6
        go_wp2_with fail
        with_reducible refine HFl.out.mono ?_
        rintro e w6 ⟨hb6, CA, cn, cc, rfl, -⟩
        have hbF := hbA.trans (hb6.mono hbA.size)
        have hF2 : (fe != 2) = true := by simpa using hF
        clear HFl hb6
        go_wp2_with fail
        go_ret
        exact ⟨rfl, hbF⟩
  · have hz := hk1 (by omega)
    have he := hno hz
    subst he
    clear hno hyes hk1 hk2 HP
    go_wp2_with fail
    with_reducible refine HQ.out.mono ?_
    rintro e w5 ⟨hb5, QA, qn, qc, rfl, hqo⟩
    have hb5w := hb4w.trans (hb5.mono hb4w.size)
    rw [show decide (0 ≤ kindZ ps) = false from decide_eq_false (by omega)]
    clear HQ hqo
    go_wp2
    go_ret
    exact ⟨rfl, hb5w⟩

end Go.Proofs.Ytdaeffnaoeblpaa

namespace Go.Proofs.Ytdaeffnaoeblpaa.flatParts
open Go.ChangeShapes Go.WideShapes Go.ChangeAt Go.RowKit
open Go.ChangeMaps (open_string shut_string)
set_option linter.unusedVariables false

theorem own : ownKnob Try.prog.godebug = none := by kernel_rfl
theorem laidOut : laidOutB Try.prog = true := by kernel_rfl

set_option maxRecDepth 100000 in
theorem lifted (os : Os) (started : os.Started) (H : Type) (enc : TypeId × Value → H) :
    ReturnsInHanded {} Try.checked os 8 .any (Rows.flatPartsSpec.pre6 enc Try.prog Try.f8 Rows.flatPartsRow.domain false) (Rows.flatPartsSpec.post enc Try.prog Try.f8 false true false false) := by
  refine returnsInHanded_of_change (C := Try.checked) own started (by kernel_rfl) Try.func8
    (ChangeSpec.witness6 (enc := enc) (C := Try.checked) false ⟨#[], #[.slice none 0 0, .slice none 0 0], []⟩ 8 (by kernel_rfl) (by kernel_rfl) (by kernel_rfl) (by kernel_rfl)) ?_
  intro W base args ds gs before hval0 hW hcnd _
  have hval : ∀ (j : Nat) t v, Try.f8.params[j]? = some t → args[j]? = some v → Value.okWide Try.prog W .any base t v := hval0
  have hW' := hW
  obtain ⟨p, q, hA0, hV, rfl, hfz, hnd⟩ := hW
  have hA : DataW.TrodAll enc Try.prog W 0 (fun _ => true) true Try.f8.params.toList args.toList ds p := hA0
  rw [Try.params8] at hA hval
  obtain ⟨v0, vs0, d0, ds0, p0, q0, hargs, rfl, rfl, h0, r0⟩ := trodAll_cons hA
  obtain ⟨v1, vs1, d1, ds1, p1, q1, rfl, rfl, rfl, h1, r1⟩ := trodAll_cons r0
  obtain ⟨rfl, rfl, rfl⟩ := trodAll_nil r1
  obtain rfl : args = #[v0, v1] := by cases args; simp_all
  obtain ⟨rfl, rfl⟩ := trodVars_none hV
  have k0 := h0
  have lt0 : ∀ x ∈ p0, x.block < W.heap.size := by obtain ⟨m, hm⟩ := k0; exact DataW.trod_lt m _ _ _ hm
  have k1 := h1
  have lt1 : ∀ x ∈ p1, x.block < W.heap.size := by obtain ⟨m, hm⟩ := k1; exact DataW.trod_lt m _ _ _ hm
  obtain ⟨A0, n0, c0, z0, rfl, hr0, hB0, hn0⟩ := open_bs (hval 0 42 v0 rfl rfl) k0
  obtain ⟨A1, n1, c1, z1, rfl, hr1, hB1, hn1⟩ := open_bs (hval 1 42 v1 rfl rfl) k1
  clear hA0 hval0
  refine (law_FlatParts A0 n0 c0 z0 A1 n1 c1 z1 W hr0 hB0 hn0 hr1 hB1 hn1).mono fun e W' ⟨he, bel⟩ => ?_
  subst he
  exact ⟨_, rfl, _, _, _, [], _, [], hW', trodAll_mk1 (shut_bool Try.underlying4 _), (trodAll_cons_mk (Below.trod laidOut (by kernel_rfl) (of_decide_eq_true (by kernel_rfl)) k0 bel lt0) (trodAll_cons_mk (Below.trod laidOut (by kernel_rfl) (of_decide_eq_true (by kernel_rfl)) k1 bel lt1) trodAll_mk0)), rfl, bel.frame _, fun h => by cases h⟩

theorem over : Rows.flatPartsRow.holds Try.pinned (OpenSpec.ofChange Rows.flatPartsSpec) :=
  OpenClaim.holds_of_wide 8 Try.f8 rfl rfl rfl rfl rfl rfl rfl ⟨rfl, rfl, rfl, rfl, rfl⟩ rfl rfl rfl rfl rfl (by kernel_rfl) Try.func8 (by kernel_rfl)
    (of_decide_eq_true (by kernel_rfl)) (by unfold Func.isWrapper; first | (rw [if_pos (by decide +kernel)]; kernel_rfl) | (rw [if_neg (by decide +kernel)]; exact ⟨rfl, rfl⟩))
    (fun os started H enc _ => lifted os started H enc)

theorem proved : Rows.FlatPartsSaid := over
#print axioms proved
end Go.Proofs.Ytdaeffnaoeblpaa.flatParts
