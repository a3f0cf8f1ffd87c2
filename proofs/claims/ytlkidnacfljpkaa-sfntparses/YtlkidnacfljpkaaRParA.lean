/- What the document's Parse of a font answers: all cases together. -/
import Derived.Test.YtlkidnacfljpkaaRParH
namespace Go.Proofs.Ytlkidnacfljpkaa
open Go.RowKit
set_option linter.unusedVariables false

set_option maxRecDepth 100000 in
set_option maxHeartbeats 4000000 in
theorem rparse_any (A : Option Addr) (n c : Nat) (zs : List Int) (w : World) (hr : Row w A n (cellsOf .u8 zs)) (hB : Bytes zs) (hn : n ≤ 100000) (hc : n ≤ c) :
    Calls Try.prog 15 #[.slice A n c] w (RetRP w zs) := by
  have hl := hr.len
  have h4k : n2at zs 4 = (cntN zs : Int) := by have := n2at_lt hB 4; unfold cntN; omega
  have hk16 : cntN zs < 65536 := by have := n2at_lt hB 4; unfold cntN; omega
  have h4 : ∀ W, Row W A n (cellsOf .u8 zs) → Calls Try.prog 44 #[.slice A n c, .int .i64 0] W (Quiet W (.tuple #[.int .u32 (n4at zs 0), .bool (n4b zs 0)])) := fun W hW => by
    have h := n4_any A n c zs 0 W hW hB (by omega) (by omega)
    rw [n4v_at] at h
    exact h
  have h2 : ∀ W, Row W A n (cellsOf .u8 zs) → Calls Try.prog 46 #[.slice A n c, .int .i64 4] W (Quiet W (.tuple #[.int .i64 (cntN zs : Int), .bool (n2b zs 4)])) := fun W hW => by
    have h := n2_any A n c zs 4 W hW hB (by omega) (by omega)
    rw [n2v_at, h4k] at h
    exact h
  have HNO := Lib.hid (fun h => front_no (zs := zs) h h4k)
  rw [hl] at HNO
  have H4 := Lib.hid h4
  have H2 := Lib.hid h2
  have HB := Lib.hid hB
  have HL := Lib.hid hl
  have Hk4 := Lib.hid h4k
  clear h4 h2 hB hl h4k
  generalize hv : n4at zs 0 = v at *
  generalize hk : cntN zs = k at *
  generalize n4b zs 0 = b1 at *
  generalize n2b zs 4 = b2 at *
  have Hv := Lib.hid hv
  have Hk := Lib.hid hk
  clear hv hk
  have hk0 : (0 : Int) ≤ (k : Int) := by omega
  have hk1 : (k : Int) < 65536 := by omega
  cases e0 : (b1) with
  | false =>
    have HN : Hid (formB zs = false) := HNO.out (.inl e0)
    go_enter Try.func15, Try.ntmps15
    go_wp2_with fail
    with_reducible refine (H4.out w hr).mono ?_
    rintro e w1 ⟨rfl, q1, rfl⟩
    go_wp2_with fail
    with_reducible refine (H2.out _ (hr.drewN _)).mono ?_
    rintro e w1 ⟨rfl, q2, rfl⟩
    go_wp2
    go_ret2
    exact ⟨below_drewN (Below.refl _ _) (q1 + q2), .inl ⟨HN.out, rfl⟩⟩
  | true =>
    cases e1 : (b2) with
    | false =>
      have HN : Hid (formB zs = false) := HNO.out (.inr (.inl e1))
      go_enter Try.func15, Try.ntmps15
      go_wp2_with fail
      with_reducible refine (H4.out w hr).mono ?_
      rintro e w1 ⟨rfl, q1, rfl⟩
      go_wp2_with fail
      with_reducible refine (H2.out _ (hr.drewN _)).mono ?_
      rintro e w1 ⟨rfl, q2, rfl⟩
      go_wp2
      go_ret2
      exact ⟨below_drewN (Below.refl _ _) (q1 + q2), .inl ⟨HN.out, rfl⟩⟩
    | true =>
      cases e2 : (v != 65536) with
      | true =>
        have HN : Hid (formB zs = false) := HNO.out (.inr (.inr (.inl e2)))
        go_enter Try.func15, Try.ntmps15
        go_wp2_with fail
        with_reducible refine (H4.out w hr).mono ?_
        rintro e w1 ⟨rfl, q1, rfl⟩
        go_wp2_with fail
        with_reducible refine (H2.out _ (hr.drewN _)).mono ?_
        rintro e w1 ⟨rfl, q2, rfl⟩
        go_wp2
        go_ret2
        exact ⟨below_drewN (Below.refl _ _) (q1 + q2), .inl ⟨HN.out, rfl⟩⟩
      | false =>
        cases e3 : decide ((k : Int) < 1) with
        | true =>
          have HN : Hid (formB zs = false) := HNO.out (.inr (.inr (.inr (.inl e3))))
          go_enter Try.func15, Try.ntmps15
          go_wp2_with fail
          with_reducible refine (H4.out w hr).mono ?_
          rintro e w1 ⟨rfl, q1, rfl⟩
          go_wp2_with fail
          with_reducible refine (H2.out _ (hr.drewN _)).mono ?_
          rintro e w1 ⟨rfl, q2, rfl⟩
          go_wp2
          go_ret2
          exact ⟨below_drewN (Below.refl _ _) (q1 + q2), .inl ⟨HN.out, rfl⟩⟩
        | false =>
          cases e4 : decide (64 < (k : Int)) with
          | true =>
            have HN : Hid (formB zs = false) := HNO.out (.inr (.inr (.inr (.inr (.inl e4)))))
            go_enter Try.func15, Try.ntmps15
            go_wp2_with fail
            with_reducible refine (H4.out w hr).mono ?_
            rintro e w1 ⟨rfl, q1, rfl⟩
            go_wp2_with fail
            with_reducible refine (H2.out _ (hr.drewN _)).mono ?_
            rintro e w1 ⟨rfl, q2, rfl⟩
            go_wp2
            go_ret2
            exact ⟨below_drewN (Below.refl _ _) (q1 + q2), .inl ⟨HN.out, rfl⟩⟩
          | false =>
            cases e5 : decide ((n : Int) < 12 + 16 * (k : Int)) with
            | true =>
              have HN : Hid (formB zs = false) := HNO.out (.inr (.inr (.inr (.inr (.inr (e5))))))
              go_enter Try.func15, Try.ntmps15
              go_wp2_with fail
              with_reducible refine (H4.out w hr).mono ?_
              rintro e w1 ⟨rfl, q1, rfl⟩
              go_wp2_with fail
              with_reducible refine (H2.out _ (hr.drewN _)).mono ?_
              rintro e w1 ⟨rfl, q2, rfl⟩
              go_wp2
              go_ret2
              exact ⟨below_drewN (Below.refl _ _) (q1 + q2), .inl ⟨HN.out, rfl⟩⟩
            | false =>
              exact rparse_fit A n c zs k w hr HB.out hn hc Hk.out (by simp at e3; omega) (by simp at e4; omega) (by simp at e5; omega) (by rw [Hv.out]; simpa using e2)

end Go.Proofs.Ytlkidnacfljpkaa
