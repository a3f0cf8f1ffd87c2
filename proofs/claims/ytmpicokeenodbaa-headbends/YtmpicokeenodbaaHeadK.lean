/- What the document's Right of a head, and the laws' example, answer. -/
import Derived.Test.YtmpicokeenodbaaHeadP
import Derived.Test.YtmpicokeenodbaaHeadT
namespace Go.Proofs.Ytmpicokeenodbaa
open Go.RowKit
set_option linter.unusedVariables false

theorem hrt_bools (zs : List Int) (h : zs.length = 54) : hrt zs = (((((n4at zs 0 == 65536) && (n4at zs 12 == 1594834165)) && decide (16 ≤ n2at zs 18)) && decide (n2at zs 18 ≤ 16384)) && decide (n2at zs 50 ≤ 1) && (n2at zs 52 == 0)) := by
  unfold hrt
  rw [Bool.eq_iff_iff]
  simp [h, and_assoc]

set_option maxHeartbeats 4000000 in
theorem rright5_any (A : Option Addr) (n c : Nat) (zs : List Int) (w : World) (hr : Row w A n (cellsOf .u8 zs)) (hB : Bytes zs) :
    Calls Try.prog 20 #[.slice A n c] w (Quiet w (.bool (hrt zs))) := by
  have hl := hr.len
  by_cases h54 : n = 54
  · subst h54
    have h4 : ∀ i : Nat, i + 4 ≤ 54 → ∀ W, Row W A 54 (cellsOf .u8 zs) → Calls Try.prog 43 #[.slice A 54 c, .int .i64 i] W (Quiet W (.tuple #[.int .u32 (n4at zs i), .bool true])) := fun i hi W hW => by
      have h := n4_any A 54 c zs i W hW hB (by omega) (by omega)
      rw [n4v_at, show n4b zs i = true by unfold n4b; simp; omega] at h
      exact h
    have h2 : ∀ i : Nat, i + 2 ≤ 54 → ∀ W, Row W A 54 (cellsOf .u8 zs) → Calls Try.prog 44 #[.slice A 54 c, .int .i64 i] W (Quiet W (.tuple #[.int .i64 (n2at zs i), .bool true])) := fun i hi W hW => by
      have h := n2_any A 54 c zs i W hW hB (by omega) (by omega)
      rw [n2v_at, show n2b zs i = true by unfold n2b; simp; omega] at h
      exact h
    have H0 := Lib.hid (h4 0 (by omega))
    have H12 := Lib.hid (h4 12 (by omega))
    have H18 := Lib.hid (h2 18 (by omega))
    have H50 := Lib.hid (h2 50 (by omega))
    have H52 := Lib.hid (h2 52 (by omega))
    have HT := Lib.hid (hrt_bools zs hl)
    clear h4 h2 hB hl
    generalize n4at zs 0 = x at *
    generalize n4at zs 12 = y at *
    generalize n2at zs 18 = u at *
    generalize n2at zs 50 = l at *
    generalize n2at zs 52 = z at *
    cases e0 : (x == 65536) with
    | false =>
      have HF : Hid (hrt zs = false) := by show hrt zs = false; rw [HT.out, e0]; simp
      clear HT
      rw [HF.out]
      go_enter Try.func20, Try.ntmps20
      go_wp2_with fail
      refine (H0.out _ hr).mono ?_
      rintro e w1 ⟨rfl, q1, rfl⟩
      go_wp2_with fail
      refine (H12.out _ (hr.drewN _)).mono ?_
      rintro e w1 ⟨rfl, q2, rfl⟩
      go_wp2_with fail
      refine (H18.out _ (hr.drewN _)).mono ?_
      rintro e w1 ⟨rfl, q3, rfl⟩
      go_wp2_with fail
      refine (H50.out _ (hr.drewN _)).mono ?_
      rintro e w1 ⟨rfl, q4, rfl⟩
      go_wp2_with fail
      refine (H52.out _ (hr.drewN _)).mono ?_
      rintro e w1 ⟨rfl, q5, rfl⟩
      go_wp2
      go_ret
      exact ⟨rfl, q1 + q2 + q3 + q4 + q5, rfl⟩
    | true =>
      cases e1 : (y == 1594834165) with
      | false =>
        have HF : Hid (hrt zs = false) := by show hrt zs = false; rw [HT.out, e0, e1]; simp
        clear HT
        rw [HF.out]
        go_enter Try.func20, Try.ntmps20
        go_wp2_with fail
        refine (H0.out _ hr).mono ?_
        rintro e w1 ⟨rfl, q1, rfl⟩
        go_wp2_with fail
        refine (H12.out _ (hr.drewN _)).mono ?_
        rintro e w1 ⟨rfl, q2, rfl⟩
        go_wp2_with fail
        refine (H18.out _ (hr.drewN _)).mono ?_
        rintro e w1 ⟨rfl, q3, rfl⟩
        go_wp2_with fail
        refine (H50.out _ (hr.drewN _)).mono ?_
        rintro e w1 ⟨rfl, q4, rfl⟩
        go_wp2_with fail
        refine (H52.out _ (hr.drewN _)).mono ?_
        rintro e w1 ⟨rfl, q5, rfl⟩
        go_wp2
        go_ret
        exact ⟨rfl, q1 + q2 + q3 + q4 + q5, rfl⟩
      | true =>
        cases e2 : decide (16 ≤ u) with
        | false =>
          have HF : Hid (hrt zs = false) := by show hrt zs = false; rw [HT.out, e0, e1, e2]; simp
          clear HT
          rw [HF.out]
          go_enter Try.func20, Try.ntmps20
          go_wp2_with fail
          refine (H0.out _ hr).mono ?_
          rintro e w1 ⟨rfl, q1, rfl⟩
          go_wp2_with fail
          refine (H12.out _ (hr.drewN _)).mono ?_
          rintro e w1 ⟨rfl, q2, rfl⟩
          go_wp2_with fail
          refine (H18.out _ (hr.drewN _)).mono ?_
          rintro e w1 ⟨rfl, q3, rfl⟩
          go_wp2_with fail
          refine (H50.out _ (hr.drewN _)).mono ?_
          rintro e w1 ⟨rfl, q4, rfl⟩
          go_wp2_with fail
          refine (H52.out _ (hr.drewN _)).mono ?_
          rintro e w1 ⟨rfl, q5, rfl⟩
          go_wp2
          go_ret
          exact ⟨rfl, q1 + q2 + q3 + q4 + q5, rfl⟩
        | true =>
          cases e3 : decide (u ≤ 16384) with
          | false =>
            have HF : Hid (hrt zs = false) := by show hrt zs = false; rw [HT.out, e0, e1, e2, e3]; simp
            clear HT
            rw [HF.out]
            go_enter Try.func20, Try.ntmps20
            go_wp2_with fail
            refine (H0.out _ hr).mono ?_
            rintro e w1 ⟨rfl, q1, rfl⟩
            go_wp2_with fail
            refine (H12.out _ (hr.drewN _)).mono ?_
            rintro e w1 ⟨rfl, q2, rfl⟩
            go_wp2_with fail
            refine (H18.out _ (hr.drewN _)).mono ?_
            rintro e w1 ⟨rfl, q3, rfl⟩
            go_wp2_with fail
            refine (H50.out _ (hr.drewN _)).mono ?_
            rintro e w1 ⟨rfl, q4, rfl⟩
            go_wp2_with fail
            refine (H52.out _ (hr.drewN _)).mono ?_
            rintro e w1 ⟨rfl, q5, rfl⟩
            go_wp2
            go_ret
            exact ⟨rfl, q1 + q2 + q3 + q4 + q5, rfl⟩
          | true =>
            cases e4 : decide (l ≤ 1) with
            | false =>
              have HF : Hid (hrt zs = false) := by show hrt zs = false; rw [HT.out, e0, e1, e2, e3, e4]; simp
              clear HT
              rw [HF.out]
              go_enter Try.func20, Try.ntmps20
              go_wp2_with fail
              refine (H0.out _ hr).mono ?_
              rintro e w1 ⟨rfl, q1, rfl⟩
              go_wp2_with fail
              refine (H12.out _ (hr.drewN _)).mono ?_
              rintro e w1 ⟨rfl, q2, rfl⟩
              go_wp2_with fail
              refine (H18.out _ (hr.drewN _)).mono ?_
              rintro e w1 ⟨rfl, q3, rfl⟩
              go_wp2_with fail
              refine (H50.out _ (hr.drewN _)).mono ?_
              rintro e w1 ⟨rfl, q4, rfl⟩
              go_wp2_with fail
              refine (H52.out _ (hr.drewN _)).mono ?_
              rintro e w1 ⟨rfl, q5, rfl⟩
              go_wp2
              go_ret
              exact ⟨rfl, q1 + q2 + q3 + q4 + q5, rfl⟩
            | true =>
              cases e5 : (z == 0) with
              | false =>
                have HF : Hid (hrt zs = false) := by show hrt zs = false; rw [HT.out, e0, e1, e2, e3, e4, e5]; simp
                clear HT
                rw [HF.out]
                go_enter Try.func20, Try.ntmps20
                go_wp2_with fail
                refine (H0.out _ hr).mono ?_
                rintro e w1 ⟨rfl, q1, rfl⟩
                go_wp2_with fail
                refine (H12.out _ (hr.drewN _)).mono ?_
                rintro e w1 ⟨rfl, q2, rfl⟩
                go_wp2_with fail
                refine (H18.out _ (hr.drewN _)).mono ?_
                rintro e w1 ⟨rfl, q3, rfl⟩
                go_wp2_with fail
                refine (H50.out _ (hr.drewN _)).mono ?_
                rintro e w1 ⟨rfl, q4, rfl⟩
                go_wp2_with fail
                refine (H52.out _ (hr.drewN _)).mono ?_
                rintro e w1 ⟨rfl, q5, rfl⟩
                go_wp2
                go_ret
                exact ⟨rfl, q1 + q2 + q3 + q4 + q5, rfl⟩
              | true =>
                have HF : Hid (hrt zs = true) := by show hrt zs = true; rw [HT.out, e0, e1, e2, e3, e4, e5]; rfl
                clear HT
                rw [HF.out]
                go_enter Try.func20, Try.ntmps20
                go_wp2_with fail
                refine (H0.out _ hr).mono ?_
                rintro e w1 ⟨rfl, q1, rfl⟩
                go_wp2_with fail
                refine (H12.out _ (hr.drewN _)).mono ?_
                rintro e w1 ⟨rfl, q2, rfl⟩
                go_wp2_with fail
                refine (H18.out _ (hr.drewN _)).mono ?_
                rintro e w1 ⟨rfl, q3, rfl⟩
                go_wp2_with fail
                refine (H50.out _ (hr.drewN _)).mono ?_
                rintro e w1 ⟨rfl, q4, rfl⟩
                go_wp2_with fail
                refine (H52.out _ (hr.drewN _)).mono ?_
                rintro e w1 ⟨rfl, q5, rfl⟩
                go_wp2
                go_ret
                exact ⟨rfl, q1 + q2 + q3 + q4 + q5, rfl⟩
  · have hne : ((n : Int) != 54) = true := by simp; omega
    rw [hrt_len (by rw [hl]; exact h54)]
    clear hl hB hr h54
    go_enter Try.func20, Try.ntmps20
    go_wp2
    go_ret
    exact ⟨rfl, 0, rfl⟩

theorem hd2048_ok : Hd.ok ⟨0, 0, 0, 2048, 0, 0, 0, 0, 0, 0, 0, 0, 0, false⟩ := ⟨by decide, by decide, by decide, by decide, by decide, by decide, by intro x hx; simp [Hd.box] at hx; omega, by decide, by decide, by decide⟩

set_option maxRecDepth 100000 in
theorem awake5_any (w : World) : Calls Try.prog 12 #[] w (True_ w) := by
  have H := Lib.hid (fun W => hbytes_any ⟨0, 0, 0, 2048, 0, 0, 0, 0, 0, 0, 0, 0, 0, false⟩ W hd2048_ok (by decide))
  have hT := fun W => hthou_any ⟨0, 0, 0, 2048, 0, 0, 0, 0, 0, 0, 0, 0, 0, false⟩ 1024 W (by decide) (by decide) (by decide)
  rw [show hthou ⟨0, 0, 0, 2048, 0, 0, 0, 0, 0, 0, 0, 0, 0, false⟩ 1024 = 500 by decide] at hT
  have HT := Lib.hid hT
  have hk := heap_alloc_new w (.cells (hdC ⟨0, 0, 0, 2048, 0, 0, 0, 0, 0, 0, 0, 0, 0, false⟩) 28)
  have hA : Below w.heap.size w (w.alloc (.cells (hdC ⟨0, 0, 0, 2048, 0, 0, 0, 0, 0, 0, 0, 0, 0, false⟩) 28)) := (Below.refl _ _).alloc (Nat.le_refl _) _
  simp only [hdC] at hk hA
  clear hT
  go_enter Try.func12, Try.ntmps12
  go_wp2_with fail
  generalize w.alloc _ = V at *
  refine (HT.out _).mono ?_
  rintro e w1 ⟨rfl, hb1⟩
  have hk1 := kept_block hk hb1
  have hB1 := hA.trans (hb1.mono hA.size)
  obtain ⟨c0, c1, c2, c3, c4, c5, c6, c7, c8, c9, c10, c11, c12, c13⟩ := cells14 hk1
  clear hk hA hb1 hk1
  go_wp2_with fail
  refine (H.out _).mono ?_
  rintro e w2 ⟨A, n, c, rfl, hown, hb⟩
  have hl := hown.len
  rw [hdL_len] at hl
  subst hl
  have hB2 := hB1.trans (hb.mono hB1.size)
  clear hown
  go_wp2
  go_ret
  exact ⟨rfl, hB2⟩

end Go.Proofs.Ytmpicokeenodbaa
