/- The law SegRises. -/
import Derived.Test.YtboholphcpfmlaaLSegA
namespace Go.Proofs.Ytboholphcpfmlaa
open Go.RowKit
set_option linter.unusedVariables false

theorem i32_wf9 {z1 : List Int} (h : Wf .i32 z1) {j : Nat} {x : Int} (hx : z1[j]? = some x) : -2147483648 ≤ x ∧ x ≤ 2147483647 := bounds_i32 (h x (List.mem_of_getElem? hx))

set_option maxRecDepth 100000 in
set_option maxHeartbeats 8000000 in
theorem law_SegRises (A1 : Option Addr) (n1 c1 : Nat) (z1 : List Int) (most : Int) (w : World) (hr1 : Row w A1 n1 (cellsOf .i32 z1)) (hW1 : Wf .i32 z1) (hn1 : n1 ≤ 9223372036854775807) :
    Calls Try.prog 7 #[.slice A1 n1 c1, .int .i32 most] w (True_ w) := by
  obtain ⟨i0, hi, hz0, hz1, hz2⟩ := info_parts Try.pairinfo
  have HW := Lib.hid hW1
  have Hn1 := Lib.hid hr1.len
  clear hW1
  go_enter Try.func7, Try.ntmps7
  go_wp2_with fail
  with_reducible refine (awake09_any w).mono ?_
  rintro e w0 ⟨rfl, hb0⟩
  go_wp2
  go_loopw [5, 6, 7, 15] (fun s b b' i wr => ∃ (k : Nat) (Al : Option Addr) (m cl : Nat), k ≤ n1 ∧ (m = k ∧ k ≤ 20) ∧ i = .int .i64 k ∧ s = .slice Al m cl ∧ b = .bool (risesF most (-1) (prsI (fun _ => 1) z1 m)) ∧ b' = .bool (risesF 65534 (-1) (prsI (fun _ => 1) z1 m)) ∧ OwnS 42 encP 2 wr w.heap.size Al m cl (prsI (fun _ => 1) z1 m) ∧ Below w.heap.size w wr) (fun _ _ _ i _ => n1 - (intOf i).toNat)
  case atStart => exact ⟨0, none, 0, 0, Nat.zero_le _, ⟨rfl, by omega⟩, rfl, rfl, rfl, rfl, OwnS.nil _ _ _ _ _, hb0⟩
  case round =>
    clear hb0
    obtain ⟨k, Al, m, cl, hk, ⟨rfl, hk20⟩, rfl, rfl, rfl, rfl, hown, hb⟩ := hrel
    have HEnd : Hid (∀ (W : World), Below wr.heap.size wr W → Calls Try.prog 30 #[.slice Al m cl, .int .i32 most] W (Ret W (.bool (risesF most (-1) (prsI (fun _ => 1) z1 m))))) := fun W hW => rises_any Al m cl _ most W ((hown.row encP_len).below hW) (by omega)
    have hPG : PrG (prsI (fun _ => 1) z1 m) := prsI_g z1 (fun i hi => by omega)
    have HBd : Hid (∀ (W : World), Below wr.heap.size wr W → Calls Try.prog 17 #[.slice Al m cl] W (RetB W (sOut (prsI (fun _ => 1) z1 m)))) := fun W hW => sbuild_any Al m cl _ W ((hown.row encP_len).below hW) (by omega) hPG
    have HLn : Hid ((risesF 65534 (-1) (prsI (fun _ => 1) z1 m) = true → 0 < (sOut (prsI (fun _ => 1) z1 m)).length) ∧ (risesF 65534 (-1) (prsI (fun _ => 1) z1 m) = false → (sOut (prsI (fun _ => 1) z1 m)).length = 0)) := ⟨fun h => by rw [(sOut_right hPG h (by rw [prsI_len]; omega)).2.2.2.2.2]; omega, fun h => by rw [sOut_nil h]; rfl⟩
    have hmi : m ≤ 20 := hk20
    clear hPG
    by_cases hlt : m < n1 ∧ m < 20
    · clear HEnd HBd HLn
      obtain ⟨hlt, h20⟩ := hlt
      obtain ⟨x, hx⟩ := getP (l := z1) (j := m) (by have := Hn1.out; omega)
      obtain ⟨g, off, rfl, hg, hcx⟩ := (hr1.below hb).at (j := m) (u := .int .i32 x) (cellsOf_get hx)
      obtain ⟨x0, x1⟩ := i32_wf9 HW.out hx
      have hsz := hb.size
      have HS := Lib.hid (prsI_succ (fun _ => (1 : Int)) z1 m hx)
      have HR1 : Hid (risesF most (-1) (prsI (fun _ => 1) z1 (m + 1)) = (risesF most (-1) (prsI (fun _ => 1) z1 m) && decide (lastC (-1) (prsI (fun _ => 1) z1 m) < x ∧ x ≤ most))) := by show _ = _; rw [HS.out, risesF_snoc]
      have HR2 : Hid (risesF 65534 (-1) (prsI (fun _ => 1) z1 (m + 1)) = (risesF 65534 (-1) (prsI (fun _ => 1) z1 m) && decide (lastC (-1) (prsI (fun _ => 1) z1 m) < x ∧ x ≤ 65534))) := by show _ = _; rw [HS.out, risesF_snoc]
      by_cases h0 : m = 0
      · subst h0
        have HL : Hid (lastC (-1) (prsI (fun _ => 1) z1 0) = -1) := rfl
        have Z1 : Hid (risesF most (-1) (prsI (fun _ => 1) z1 0) = true) := rfl
        have Z2 : Hid (risesF 65534 (-1) (prsI (fun _ => 1) z1 0) = true) := rfl
        rw [Z1.out, Z2.out]
        rw [Nat.add_zero] at hcx
        rw [Z1.out, HL.out, Bool.true_and] at HR1
        rw [Z2.out, HL.out, Bool.true_and] at HR2
        have T1 := HR1
        have T2 := HR2
        by_cases ha : 0 ≤ x
        · have d1 : (decide (-1 < x ∧ x ≤ most)) = decide (x ≤ most) := by rw [decide_eq_decide]; omega
          have d2 : (decide (-1 < x ∧ x ≤ 65534)) = decide (x < 65535) := by rw [decide_eq_decide]; omega
          rw [d1] at T1
          rw [d2] at T2
          clear HR1 HR2 d1 d2
          go_wp2_with (at_builtin; refine wpList_append_rowS rfl (.tmp 54) (.tmp 57) _ rfl 42 encP 2 encP_len (by omega) encP_one w.heap.size i0 _ 8 Try.underlying24 hi hz0 hz1 rfl hz2 _ 0 cl _ rfl (hown.alloc _) (some ⟨wr.heap.size, 0, none⟩) 1 1 [⟨x, 1⟩] rfl (rowS_vals encP_len wr 42 [⟨x, 1⟩] _ rfl 1 rfl) (by omega) (by omega) (by simp; omega) ?_; intro A6 c6 w6 ho6 hg6)
          go_roundw
          case rel => exact ⟨0 + 1, A6, 0 + 1, c6, by omega, by omega, by go_num, rfl, by rw [T1.out], by rw [T2.out], by rw [HS.out]; exact ho6, (hb.alloc hb.size _).grown hg6 (hb.alloc hb.size _).size (fun q e => (hown.from_ q e).1)⟩
          case measure => simp [intOf]; omega
        · have d1 : (decide (-1 < x ∧ x ≤ most)) = false := decide_eq_false (by omega)
          have d2 : (decide (-1 < x ∧ x ≤ 65534)) = false := decide_eq_false (by omega)
          rw [d1] at T1
          rw [d2] at T2
          clear HR1 HR2 d1 d2
          go_wp2_with (at_builtin; refine wpList_append_rowS rfl (.tmp 54) (.tmp 57) _ rfl 42 encP 2 encP_len (by omega) encP_one w.heap.size i0 _ 8 Try.underlying24 hi hz0 hz1 rfl hz2 _ 0 cl _ rfl (hown.alloc _) (some ⟨wr.heap.size, 0, none⟩) 1 1 [⟨x, 1⟩] rfl (rowS_vals encP_len wr 42 [⟨x, 1⟩] _ rfl 1 rfl) (by omega) (by omega) (by simp; omega) ?_; intro A6 c6 w6 ho6 hg6)
          go_roundw
          case rel => exact ⟨0 + 1, A6, 0 + 1, c6, by omega, by omega, by go_num, rfl, by rw [T1.out], by rw [T2.out], by rw [HS.out]; exact ho6, (hb.alloc hb.size _).grown hg6 (hb.alloc hb.size _).size (fun q e => (hown.from_ q e).1)⟩
          case measure => simp [intOf]; omega
      · obtain ⟨j, rfl⟩ : ∃ j, m = j + 1 := ⟨m - 1, by omega⟩
        obtain ⟨y, hy⟩ := getP (l := z1) (j := j) (by have := Hn1.out; omega)
        obtain ⟨g', off', e', _, hcy⟩ := (hr1.below hb).at (j := j) (u := .int .i32 y) (cellsOf_get hy)
        simp only [Option.some.injEq, Addr.mk.injEq, and_true] at e'
        obtain ⟨rfl, rfl⟩ := e'
        have HL : Hid (lastC (-1) (prsI (fun _ => 1) z1 (j + 1)) = y) := prsI_last (fun _ => (1 : Int)) z1 j hy (-1)
        rw [HL.out] at HR1 HR2
        have N1 : Hid (risesF most (-1) (prsI (fun _ => 1) z1 (j + 1)) = true → 0 ≤ y) := fun h => prsI_nonneg (f := fun _ => (1 : Int)) hy h
        have N2 : Hid (risesF 65534 (-1) (prsI (fun _ => 1) z1 (j + 1)) = true → 0 ≤ y) := fun h => prsI_nonneg (f := fun _ => (1 : Int)) hy h
        have e1 : ((j : Int) + 1 == 0) = false := by simp; omega
        have e2 : (((j + 1 : Nat) : Int) == 0) = false := by simp; omega
        have e3 : ((j : Int) + 1 - 1) = (j : Int) := by omega
        have e4 : (((j + 1 : Nat) : Int) - 1) = (j : Int) := by omega
        clear hx hy HL
        generalize risesF most (-1) (prsI (fun _ => 1) z1 (j + 1)) = P1 at *
        generalize risesF 65534 (-1) (prsI (fun _ => 1) z1 (j + 1)) = P2 at *
        have T1 := HR1
        have T2 := HR2
        clear HR1 HR2
        by_cases ha : 0 ≤ x
        · by_cases hc : y < x
          · have d1 : (decide (y < x ∧ x ≤ most)) = decide (x ≤ most) := by rw [decide_eq_decide]; omega
            have d2 : (decide (y < x ∧ x ≤ 65534)) = decide (x < 65535) := by rw [decide_eq_decide]; omega
            rw [d1] at T1
            rw [d2] at T2
            clear d1 d2
            cases P1 <;> cases P2
            all_goals
              simp only [Bool.true_and, Bool.false_and] at T1 T2
              go_wp2_with (at_builtin; refine wpList_append_rowS rfl (.tmp 54) (.tmp 57) _ rfl 42 encP 2 encP_len (by omega) encP_one w.heap.size i0 _ 8 Try.underlying24 hi hz0 hz1 rfl hz2 _ (j + 1) cl _ rfl (hown.alloc _) (some ⟨wr.heap.size, 0, none⟩) 1 1 [⟨x, 1⟩] rfl (rowS_vals encP_len wr 42 [⟨x, 1⟩] _ rfl 1 rfl) (by omega) (by omega) (by simp; omega) ?_; intro A6 c6 w6 ho6 hg6)
              go_roundw
              case rel => exact ⟨j + 1 + 1, A6, j + 1 + 1, c6, by omega, by omega, by go_num, rfl, by rw [T1.out], by rw [T2.out], by rw [HS.out]; exact ho6, (hb.alloc hb.size _).grown hg6 (hb.alloc hb.size _).size (fun q e => (hown.from_ q e).1)⟩
              case measure => simp [intOf]; omega
          · have d1 : (decide (y < x ∧ x ≤ most)) = false := decide_eq_false (by omega)
            have d2 : (decide (y < x ∧ x ≤ 65534)) = false := decide_eq_false (by omega)
            rw [d1, Bool.and_false] at T1
            rw [d2, Bool.and_false] at T2
            clear d1 d2
            cases P1 <;> cases P2
            all_goals
              go_wp2_with (at_builtin; refine wpList_append_rowS rfl (.tmp 54) (.tmp 57) _ rfl 42 encP 2 encP_len (by omega) encP_one w.heap.size i0 _ 8 Try.underlying24 hi hz0 hz1 rfl hz2 _ (j + 1) cl _ rfl (hown.alloc _) (some ⟨wr.heap.size, 0, none⟩) 1 1 [⟨x, 1⟩] rfl (rowS_vals encP_len wr 42 [⟨x, 1⟩] _ rfl 1 rfl) (by omega) (by omega) (by simp; omega) ?_; intro A6 c6 w6 ho6 hg6)
              go_roundw
              case rel => exact ⟨j + 1 + 1, A6, j + 1 + 1, c6, by omega, by omega, by go_num, rfl, by rw [T1.out], by rw [T2.out], by rw [HS.out]; exact ho6, (hb.alloc hb.size _).grown hg6 (hb.alloc hb.size _).size (fun q e => (hown.from_ q e).1)⟩
              case measure => simp [intOf]; omega
        · have d1 : (P1 && decide (y < x ∧ x ≤ most)) = false := by
            cases P1 with
            | false => rfl
            | true => have := N1.out rfl; rw [Bool.true_and]; exact decide_eq_false (by omega)
          have d2 : (P2 && decide (y < x ∧ x ≤ 65534)) = false := by
            cases P2 with
            | false => rfl
            | true => have := N2.out rfl; rw [Bool.true_and]; exact decide_eq_false (by omega)
          rw [d1] at T1
          rw [d2] at T2
          clear d1 d2
          cases P1 <;> cases P2
          all_goals
            go_wp2_with (at_builtin; refine wpList_append_rowS rfl (.tmp 54) (.tmp 57) _ rfl 42 encP 2 encP_len (by omega) encP_one w.heap.size i0 _ 8 Try.underlying24 hi hz0 hz1 rfl hz2 _ (j + 1) cl _ rfl (hown.alloc _) (some ⟨wr.heap.size, 0, none⟩) 1 1 [⟨x, 1⟩] rfl (rowS_vals encP_len wr 42 [⟨x, 1⟩] _ rfl 1 rfl) (by omega) (by omega) (by simp; omega) ?_; intro A6 c6 w6 ho6 hg6)
            go_roundw
            case rel => exact ⟨j + 1 + 1, A6, j + 1 + 1, c6, by omega, by omega, by go_num, rfl, by rw [T1.out], by rw [T2.out], by rw [HS.out]; exact ho6, (hb.alloc hb.size _).grown hg6 (hb.alloc hb.size _).size (fun q e => (hown.from_ q e).1)⟩
            case measure => simp [intOf]; omega
    · have hbr := Below.refl wr.heap.size wr
      by_cases hlt2 : m < n1
      · obtain ⟨x, hx⟩ := getP (l := z1) (j := m) (by have := Hn1.out; omega)
        obtain ⟨g, off, rfl, hg, hcx⟩ := (hr1.below hb).at (j := m) (u := .int .i32 x) (cellsOf_get hx)
        have h20 : ¬ m < 20 := by omega
        clear hlt hx
        generalize risesF most (-1) (prsI (fun _ => 1) z1 m) = P1 at *
        generalize risesF 65534 (-1) (prsI (fun _ => 1) z1 m) = P2 at *
        go_wp2_with fail
        with_reducible refine (HEnd.out _ hbr).mono ?_
        rintro e w2 ⟨rfl, hb2⟩
        have hbw := hb.trans (hb2.mono hb.size)
        have HB2 := Lib.hid (HBd.out _ hb2)
        cases P1
        all_goals
          go_wp2_with fail
          with_reducible refine HB2.out.mono ?_
          rintro e w3 ⟨A3, n3, c3, rfl, hown3, hb3⟩
          have hl3 := hown3.len
          have hbf := hbw.trans (hb3.mono hbw.size)
          rw [hl3] at HLn
          cases P2 with
          | true =>
            have hp : 0 < n3 := HLn.out.1 rfl
            go_wp2
            go_ret
            exact ⟨rfl, hbf⟩
          | false =>
            have hp : ¬ 0 < n3 := by have := HLn.out.2 rfl; omega
            go_wp2
            go_ret
            exact ⟨rfl, hbf⟩
      · clear hlt
        generalize risesF most (-1) (prsI (fun _ => 1) z1 m) = P1 at *
        generalize risesF 65534 (-1) (prsI (fun _ => 1) z1 m) = P2 at *
        go_wp2_with fail
        with_reducible refine (HEnd.out _ hbr).mono ?_
        rintro e w2 ⟨rfl, hb2⟩
        have hbw := hb.trans (hb2.mono hb.size)
        have HB2 := Lib.hid (HBd.out _ hb2)
        cases P1
        all_goals
          go_wp2_with fail
          with_reducible refine HB2.out.mono ?_
          rintro e w3 ⟨A3, n3, c3, rfl, hown3, hb3⟩
          have hl3 := hown3.len
          have hbf := hbw.trans (hb3.mono hbw.size)
          rw [hl3] at HLn
          cases P2 with
          | true =>
            have hp : 0 < n3 := HLn.out.1 rfl
            go_wp2
            go_ret
            exact ⟨rfl, hbf⟩
          | false =>
            have hp : ¬ 0 < n3 := by have := HLn.out.2 rfl; omega
            go_wp2
            go_ret
            exact ⟨rfl, hbf⟩

end Go.Proofs.Ytboholphcpfmlaa
