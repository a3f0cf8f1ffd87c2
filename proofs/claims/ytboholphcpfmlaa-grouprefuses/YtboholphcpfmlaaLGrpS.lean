/- The law GroupRefuses. -/
import Derived.Test.YtboholphcpfmlaaLGrpP
import Derived.Test.YtboholphcpfmlaaRunS
import Derived.Test.YtboholphcpfmlaaPrsA
namespace Go.Proofs.Ytboholphcpfmlaa
open Go.RowKit
set_option linter.unusedVariables false

set_option maxRecDepth 100000 in
set_option maxHeartbeats 4000000 in
theorem law_GroupRefuses (A1 : Option Addr) (n1 c1 : Nat) (z1 : List Int) (w : World) (hr1 : Row w A1 n1 (cellsOf .i32 z1)) (hW1 : Wf .i32 z1) (hn1 : n1 ≤ 9223372036854775807) :
    Calls Try.prog 13 #[.slice A1 n1 c1] w (True_ w) := by
  obtain ⟨i0, hi, hz0, hz1, hz2⟩ := info_parts Try.pairinfo
  have HW := Lib.hid hW1
  have Hn1 := Lib.hid hr1.len
  clear hW1
  go_enter Try.func13, Try.ntmps13
  go_wp2_with fail
  with_reducible refine (awake10_any w).mono ?_
  rintro e w0 ⟨rfl, hb0⟩
  go_wp2
  go_loopw [3, 4, 11] (fun s b i wr => ∃ (k : Nat) (Al : Option Addr) (m cl : Nat), k ≤ n1 ∧ m = min k 20 ∧ i = .int .i64 k ∧ s = .slice Al m cl ∧ b = .bool (risesF 1114111 (-1) (prsI (fun i => i) z1 m)) ∧ OwnS 42 encP 2 wr w.heap.size Al m cl (prsI (fun i => i) z1 m) ∧ Below w.heap.size w wr) (fun _ _ i _ => n1 - (intOf i).toNat)
  case atStart => exact ⟨0, none, 0, 0, Nat.zero_le _, rfl, rfl, rfl, rfl, OwnS.nil _ _ _ _ _, hb0⟩
  case round =>
    clear hb0
    obtain ⟨k, Al, m, cl, hk, hm, rfl, rfl, rfl, hown, hb⟩ := hrel
    by_cases hlt : k < n1
    · obtain ⟨x, hx⟩ := getP (l := z1) (j := k) (by have := Hn1.out; omega)
      obtain ⟨g, off, rfl, hg, hcx⟩ := (hr1.below hb).at (j := k) (u := .int .i32 x) (cellsOf_get hx)
      obtain ⟨x0, x1⟩ := i32_wf HW.out hx
      by_cases h20 : k < 20
      · obtain rfl : m = k := by omega
        have hsz := hb.size
        have hsn := prsI_succ (fun i => (i : Int)) z1 m hx
        have hrs : risesF 1114111 (-1) (prsI (fun i => i) z1 (m + 1)) = (risesF 1114111 (-1) (prsI (fun i => i) z1 m) && decide (lastC (-1) (prsI (fun i => i) z1 m) < x ∧ x ≤ 1114111)) := by rw [hsn, risesF_snoc]
        have HS := Lib.hid hsn
        have HR := Lib.hid hrs
        clear hsn hrs hm
        have hkk := m
        by_cases h0 : m = 0
        · subst h0
          have HL : Hid (lastC (-1) (prsI (fun i => i) z1 0) = -1) := rfl
          have HRZ : Hid (risesF 1114111 (-1) (prsI (fun i => i) z1 0) = true) := rfl
          rw [HRZ.out]
          rw [Nat.add_zero] at hcx
          by_cases ha : 0 ≤ x
          · by_cases hb' : x ≤ 1114111
            · have HT : Hid (risesF 1114111 (-1) (prsI (fun i => i) z1 (0 + 1)) = true) := by show _ = _; rw [HR.out, HRZ.out, HL.out]; simp; omega
              go_wp2_with (at_builtin; refine wpList_append_rowS rfl (.tmp 40) (.tmp 45) _ rfl 42 encP 2 encP_len (by omega) encP_one w.heap.size i0 _ 8 Try.underlying24 hi hz0 hz1 rfl hz2 _ 0 cl _ rfl (hown.alloc _) (some ⟨wr.heap.size, 0, none⟩) 1 1 [⟨x, ((0 : Nat) : Int)⟩] rfl (rowS_vals encP_len wr 42 [⟨x, ((0 : Nat) : Int)⟩] _ rfl 1 rfl) (by omega) (by omega) (by simp; omega) ?_; intro A6 c6 w6 ho6 hg6)
              go_roundw
              case rel => exact ⟨0 + 1, A6, 0 + 1, c6, by omega, by omega, by go_num, rfl, by rw [HT.out], by rw [HS.out]; exact ho6, (hb.alloc hb.size _).grown hg6 (hb.alloc hb.size _).size (fun q e => (hown.from_ q e).1)⟩
              case measure => simp [intOf]; omega
            · have HT : Hid (risesF 1114111 (-1) (prsI (fun i => i) z1 (0 + 1)) = false) := by show _ = _; rw [HR.out, HRZ.out, HL.out]; simp; omega
              go_wp2_with (at_builtin; refine wpList_append_rowS rfl (.tmp 40) (.tmp 45) _ rfl 42 encP 2 encP_len (by omega) encP_one w.heap.size i0 _ 8 Try.underlying24 hi hz0 hz1 rfl hz2 _ 0 cl _ rfl (hown.alloc _) (some ⟨wr.heap.size, 0, none⟩) 1 1 [⟨x, ((0 : Nat) : Int)⟩] rfl (rowS_vals encP_len wr 42 [⟨x, ((0 : Nat) : Int)⟩] _ rfl 1 rfl) (by omega) (by omega) (by simp; omega) ?_; intro A6 c6 w6 ho6 hg6)
              go_roundw
              case rel => exact ⟨0 + 1, A6, 0 + 1, c6, by omega, by omega, by go_num, rfl, by rw [HT.out], by rw [HS.out]; exact ho6, (hb.alloc hb.size _).grown hg6 (hb.alloc hb.size _).size (fun q e => (hown.from_ q e).1)⟩
              case measure => simp [intOf]; omega
          · have HT : Hid (risesF 1114111 (-1) (prsI (fun i => i) z1 (0 + 1)) = false) := by show _ = _; rw [HR.out, HRZ.out, HL.out]; simp; omega
            go_wp2_with (at_builtin; refine wpList_append_rowS rfl (.tmp 40) (.tmp 45) _ rfl 42 encP 2 encP_len (by omega) encP_one w.heap.size i0 _ 8 Try.underlying24 hi hz0 hz1 rfl hz2 _ 0 cl _ rfl (hown.alloc _) (some ⟨wr.heap.size, 0, none⟩) 1 1 [⟨x, ((0 : Nat) : Int)⟩] rfl (rowS_vals encP_len wr 42 [⟨x, ((0 : Nat) : Int)⟩] _ rfl 1 rfl) (by omega) (by omega) (by simp; omega) ?_; intro A6 c6 w6 ho6 hg6)
            go_roundw
            case rel => exact ⟨0 + 1, A6, 0 + 1, c6, by omega, by omega, by go_num, rfl, by rw [HT.out], by rw [HS.out]; exact ho6, (hb.alloc hb.size _).grown hg6 (hb.alloc hb.size _).size (fun q e => (hown.from_ q e).1)⟩
            case measure => simp [intOf]; omega
        · obtain ⟨j, rfl⟩ : ∃ j, m = j + 1 := ⟨m - 1, by omega⟩
          obtain ⟨y, hy⟩ := getP (l := z1) (j := j) (by have := Hn1.out; omega)
          obtain ⟨g', off', e', _, hcy⟩ := (hr1.below hb).at (j := j) (u := .int .i32 y) (cellsOf_get hy)
          simp only [Option.some.injEq, Addr.mk.injEq, and_true] at e'
          obtain ⟨rfl, rfl⟩ := e'
          have HL : Hid (lastC (-1) (prsI (fun i => i) z1 (j + 1)) = y) := prsI_last (fun i => (i : Int)) z1 j hy (-1)
          have HN : Hid (risesF 1114111 (-1) (prsI (fun i => i) z1 (j + 1)) = true → 0 ≤ y) := fun h => prsI_nonneg (f := fun i => (i : Int)) hy h
          have e1 : ((j : Int) + 1 == 0) = false := by simp; omega
          have e2 : (((j + 1 : Nat) : Int) == 0) = false := by simp; omega
          have e3 : ((j : Int) + 1 - 1) = (j : Int) := by omega
          have e4 : (((j + 1 : Nat) : Int) - 1) = (j : Int) := by omega
          have HV : Hid (((j + 1 : Nat) : Int) = (j : Int) + 1) := by show _ = _; omega
          clear hx hy
          cases hv : risesF 1114111 (-1) (prsI (fun i => i) z1 (j + 1)) with
          | false =>
            have HT : Hid (risesF 1114111 (-1) (prsI (fun i => i) z1 (j + 1 + 1)) = false) := by show _ = _; rw [HR.out, hv]; rfl
            clear hv HR HN
            go_wp2_with (at_builtin; refine wpList_append_rowS rfl (.tmp 40) (.tmp 45) _ rfl 42 encP 2 encP_len (by omega) encP_one w.heap.size i0 _ 8 Try.underlying24 hi hz0 hz1 rfl hz2 _ (j + 1) cl _ rfl (hown.alloc _) (some ⟨wr.heap.size, 0, none⟩) 1 1 [⟨x, ((j + 1 : Nat) : Int)⟩] rfl (rowS_vals encP_len wr 42 [⟨x, ((j + 1 : Nat) : Int)⟩] _ rfl 1 rfl) (by omega) (by omega) (by simp; omega) ?_; intro A6 c6 w6 ho6 hg6)
            go_roundw
            case rel => exact ⟨j + 1 + 1, A6, j + 1 + 1, c6, by omega, by omega, by go_num, rfl, by rw [HT.out], by rw [HS.out]; exact ho6, (hb.alloc hb.size _).grown hg6 (hb.alloc hb.size _).size (fun q e => (hown.from_ q e).1)⟩
            case measure => simp [intOf]; omega
          | true =>
            have hy0 := HN.out hv
            have HR2 : Hid (risesF 1114111 (-1) (prsI (fun i => i) z1 (j + 1 + 1)) = decide (y < x ∧ x ≤ 1114111)) := by show _ = _; rw [HR.out, hv, HL.out]; rfl
            clear hv HR HN HL
            by_cases ha : 0 ≤ x
            · by_cases hb' : x ≤ 1114111
              · by_cases hc : y < x
                · have HT : Hid (risesF 1114111 (-1) (prsI (fun i => i) z1 (j + 1 + 1)) = true) := by show _ = _; rw [HR2.out, decide_eq_true_eq]; omega
                  go_wp2_with (at_builtin; refine wpList_append_rowS rfl (.tmp 40) (.tmp 45) _ rfl 42 encP 2 encP_len (by omega) encP_one w.heap.size i0 _ 8 Try.underlying24 hi hz0 hz1 rfl hz2 _ (j + 1) cl _ rfl (hown.alloc _) (some ⟨wr.heap.size, 0, none⟩) 1 1 [⟨x, ((j + 1 : Nat) : Int)⟩] rfl (rowS_vals encP_len wr 42 [⟨x, ((j + 1 : Nat) : Int)⟩] _ rfl 1 rfl) (by omega) (by omega) (by simp; omega) ?_; intro A6 c6 w6 ho6 hg6)
                  go_roundw
                  case rel => exact ⟨j + 1 + 1, A6, j + 1 + 1, c6, by omega, by omega, by go_num, rfl, by rw [HT.out], by rw [HS.out]; exact ho6, (hb.alloc hb.size _).grown hg6 (hb.alloc hb.size _).size (fun q e => (hown.from_ q e).1)⟩
                  case measure => simp [intOf]; omega
                · have HT : Hid (risesF 1114111 (-1) (prsI (fun i => i) z1 (j + 1 + 1)) = false) := by show _ = _; rw [HR2.out, decide_eq_false_iff_not]; omega
                  go_wp2_with (at_builtin; refine wpList_append_rowS rfl (.tmp 40) (.tmp 45) _ rfl 42 encP 2 encP_len (by omega) encP_one w.heap.size i0 _ 8 Try.underlying24 hi hz0 hz1 rfl hz2 _ (j + 1) cl _ rfl (hown.alloc _) (some ⟨wr.heap.size, 0, none⟩) 1 1 [⟨x, ((j + 1 : Nat) : Int)⟩] rfl (rowS_vals encP_len wr 42 [⟨x, ((j + 1 : Nat) : Int)⟩] _ rfl 1 rfl) (by omega) (by omega) (by simp; omega) ?_; intro A6 c6 w6 ho6 hg6)
                  go_roundw
                  case rel => exact ⟨j + 1 + 1, A6, j + 1 + 1, c6, by omega, by omega, by go_num, rfl, by rw [HT.out], by rw [HS.out]; exact ho6, (hb.alloc hb.size _).grown hg6 (hb.alloc hb.size _).size (fun q e => (hown.from_ q e).1)⟩
                  case measure => simp [intOf]; omega
              · have HT : Hid (risesF 1114111 (-1) (prsI (fun i => i) z1 (j + 1 + 1)) = false) := by show _ = _; rw [HR2.out, decide_eq_false_iff_not]; omega
                go_wp2_with (at_builtin; refine wpList_append_rowS rfl (.tmp 40) (.tmp 45) _ rfl 42 encP 2 encP_len (by omega) encP_one w.heap.size i0 _ 8 Try.underlying24 hi hz0 hz1 rfl hz2 _ (j + 1) cl _ rfl (hown.alloc _) (some ⟨wr.heap.size, 0, none⟩) 1 1 [⟨x, ((j + 1 : Nat) : Int)⟩] rfl (rowS_vals encP_len wr 42 [⟨x, ((j + 1 : Nat) : Int)⟩] _ rfl 1 rfl) (by omega) (by omega) (by simp; omega) ?_; intro A6 c6 w6 ho6 hg6)
                go_roundw
                case rel => exact ⟨j + 1 + 1, A6, j + 1 + 1, c6, by omega, by omega, by go_num, rfl, by rw [HT.out], by rw [HS.out]; exact ho6, (hb.alloc hb.size _).grown hg6 (hb.alloc hb.size _).size (fun q e => (hown.from_ q e).1)⟩
                case measure => simp [intOf]; omega
            · have HT : Hid (risesF 1114111 (-1) (prsI (fun i => i) z1 (j + 1 + 1)) = false) := by show _ = _; rw [HR2.out, decide_eq_false_iff_not]; omega
              go_wp2_with (at_builtin; refine wpList_append_rowS rfl (.tmp 40) (.tmp 45) _ rfl 42 encP 2 encP_len (by omega) encP_one w.heap.size i0 _ 8 Try.underlying24 hi hz0 hz1 rfl hz2 _ (j + 1) cl _ rfl (hown.alloc _) (some ⟨wr.heap.size, 0, none⟩) 1 1 [⟨x, ((j + 1 : Nat) : Int)⟩] rfl (rowS_vals encP_len wr 42 [⟨x, ((j + 1 : Nat) : Int)⟩] _ rfl 1 rfl) (by omega) (by omega) (by simp; omega) ?_; intro A6 c6 w6 ho6 hg6)
              go_roundw
              case rel => exact ⟨j + 1 + 1, A6, j + 1 + 1, c6, by omega, by omega, by go_num, rfl, by rw [HT.out], by rw [HS.out]; exact ho6, (hb.alloc hb.size _).grown hg6 (hb.alloc hb.size _).size (fun q e => (hown.from_ q e).1)⟩
              case measure => simp [intOf]; omega
      · go_wp2
        go_roundw
        case rel => exact ⟨k + 1, Al, m, cl, by omega, by omega, by go_num, rfl, rfl, hown, hb⟩
        case measure => simp [intOf]; omega
    · have hm20 : m ≤ 20 := by omega
      clear hm
      have hPG : PrG (prsI (fun i => (i : Int)) z1 m) := prsI_g z1 (fun i hi => by omega)
      have HG := Lib.hid (gbuild_any Al m cl _ wr (hown.row encP_len) (by omega) hPG)
      have hlen : ((gOut (prsI (fun i => i) z1 m)).length > 0) = (risesF 1114111 (-1) (prsI (fun i => (i : Int)) z1 m) = true) := by
        cases hv : risesF 1114111 (-1) (prsI (fun i => (i : Int)) z1 m) with
        | false => rw [gOut_nil hv]; simp
        | true => rw [(gOut_right hPG hv (by rw [prsI_len]; omega)).2.2.2.2.2]; simp; omega
      have HLn := Lib.hid hlen
      clear hlen hPG hown
      generalize gOut (prsI (fun i => i) z1 m) = zs at *
      generalize risesF 1114111 (-1) (prsI (fun i => i) z1 m) = R at *
      go_wp2_with fail
      with_reducible refine HG.out.mono ?_
      rintro e w2 ⟨A2, n2, c2, rfl, hown2, hb2⟩
      have hl2 := hown2.len
      have hbw := hb.trans (hb2.mono hb.size)
      rw [hl2] at HLn
      cases R with
      | true =>
        have hpos : 0 < n2 := by have := HLn.out; simpa using this
        go_wp2
        go_ret
        exact ⟨rfl, hbw⟩
      | false =>
        have hpos : ¬ 0 < n2 := by have := HLn.out; simpa using this
        go_wp2
        go_ret
        exact ⟨rfl, hbw⟩

end Go.Proofs.Ytboholphcpfmlaa
