/- The document's Right and Look of groups, as contracts over this seat's translation. -/
import Derived.Test.YthkaeimpflggjaaDoorGrpM
import Derived.Test.YthkaeimpflggjaaDoorPrs
namespace Go.Proofs.YthkaeimpflggjaaDoor
open Go.RowKit
set_option linter.unusedVariables false

set_option maxRecDepth 100000 in
theorem rat10_any (A : Option Addr) (n c : Nat) (zs : List Int) (a : Int) (i : Nat) (w : World) (hr : Row w A n (cellsOf .u8 zs)) (hB : Bytes zs) (hn : n ≤ 140737488351232) (ha : a = i) (hi : i ≤ 140737488351232) :
    Calls Tryd.prog 58 #[.slice A n c, .int .i64 a] w (Ret w (.int .u64 (n4at zs i))) := by
  subst ha
  have h0 := n4at_lt hB i
  have H := Lib.hid (n4_any A n c zs i w hr hB hn hi)
  rw [n4v_at] at H
  clear hr hB
  generalize n4at zs i = v at *
  go_enter Tryd.func58, Tryd.ntmps58
  go_wp2_with fail
  refine H.out.mono ?_
  rintro e w1 ⟨rfl, q, rfl⟩
  go_wp2
  go_ret
  exact ⟨rfl, below_drewN (Below.refl _ _) _⟩

/-- How many, or none. -/
def gRV (zs : List Int) : Int := if gRight zs then (gN zs : Int) else 0

set_option maxRecDepth 100000 in
set_option maxHeartbeats 2000000 in
theorem rright10_front (A : Option Addr) (n c : Nat) (zs : List Int) (w : World) (hr : Row w A n (cellsOf .u8 zs)) (hB : Bytes zs) (hn : n ≤ 1000000) (hf : gFront zs = false) :
    Calls Tryd.prog 37 #[.slice A n c] w (Ret w (.tuple #[.int .i64 0, .bool false])) := by
  have H12 : Hid (∀ W, Below w.heap.size w W → Calls Tryd.prog 58 #[.slice A n c, .int .i64 12] W (Ret W (.int .u64 (n4at zs 12)))) := fun W hW => rat10_any A n c zs 12 12 W (hr.below hW) hB (by omega) rfl (by omega)
  have H0 : Hid (∀ W, Below w.heap.size w W → Calls Tryd.prog 58 #[.slice A n c, .int .i64 0] W (Ret W (.int .u64 (n4at zs 0)))) := fun W hW => rat10_any A n c zs 0 0 W (hr.below hW) hB (by omega) rfl (by omega)
  have H4 : Hid (∀ W, Below w.heap.size w W → Calls Tryd.prog 58 #[.slice A n c, .int .i64 4] W (Ret W (.int .u64 (n4at zs 4)))) := fun W hW => rat10_any A n c zs 4 4 W (hr.below hW) hB (by omega) rfl (by omega)
  have e12 := n4at_lt hB 12
  have e0 := n4at_lt hB 0
  have e4 := n4at_lt hB 4
  have hl := hr.len
  have hb := Below.refl w.heap.size w
  by_cases h16 : n < 16
  · clear hf hr hB hl
    go_enter Tryd.func37, Tryd.ntmps37
    go_wp2_with (go_at_call 58; (first | (with_reducible refine (H12.out _ hb).mono ?_) | (with_reducible refine (H0.out _ hb).mono ?_) | (with_reducible refine (H4.out _ hb).mono ?_)); rintro e wn ⟨rfl, hbn⟩; replace hb := hb.trans (hbn.mono hb.size); clear hbn)
    go_ret2
    exact ⟨rfl, hb⟩
  · by_cases hz : n4at zs 0 = 786432
    · have hz0 : (n4at zs 0 != 786432) = false := by simp [hz]
      by_cases hs : n4at zs 4 = 16 + 12 * n4at zs 12
      · have hs0 : (n4at zs 4 != 16 + 12 * n4at zs 12) = false := by simp [hs]
        have hgt : (n : Int) < n4at zs 4 := by
          have h2 := n4at_two (zs := zs) (i := 0) (by omega)
          have a1 := n2at_lt hB 0
          have a2 := n2at_lt hB 2
          simp only [Nat.zero_add] at h2
          simp [gFront, hs] at hf
          have := hf (by omega) (by omega)
          omega
        clear hf hr hB hl hz
        generalize n4at zs 0 = v0 at *
        generalize n4at zs 4 = v4 at *
        generalize n4at zs 12 = v12 at *
        clear hs
        go_enter Tryd.func37, Tryd.ntmps37
        go_wp2_with (go_at_call 58; (first | (with_reducible refine (H12.out _ hb).mono ?_) | (with_reducible refine (H0.out _ hb).mono ?_) | (with_reducible refine (H4.out _ hb).mono ?_)); rintro e wn ⟨rfl, hbn⟩; replace hb := hb.trans (hbn.mono hb.size); clear hbn)
        go_ret2
        exact ⟨rfl, hb⟩
      · have hs0 : (n4at zs 4 != 16 + 12 * n4at zs 12) = true := by simp [hs]
        clear hf hr hB hl hz hs
        generalize n4at zs 0 = v0 at *
        generalize n4at zs 4 = v4 at *
        generalize n4at zs 12 = v12 at *
        go_enter Tryd.func37, Tryd.ntmps37
        go_wp2_with (go_at_call 58; (first | (with_reducible refine (H12.out _ hb).mono ?_) | (with_reducible refine (H0.out _ hb).mono ?_) | (with_reducible refine (H4.out _ hb).mono ?_)); rintro e wn ⟨rfl, hbn⟩; replace hb := hb.trans (hbn.mono hb.size); clear hbn)
        go_ret2
        exact ⟨rfl, hb⟩
    · have hz0 : (n4at zs 0 != 786432) = true := by simp [hz]
      clear hf hr hB hl hz
      generalize n4at zs 0 = v0 at *
      generalize n4at zs 4 = v4 at *
      generalize n4at zs 12 = v12 at *
      go_enter Tryd.func37, Tryd.ntmps37
      go_wp2_with (go_at_call 58; (first | (with_reducible refine (H12.out _ hb).mono ?_) | (with_reducible refine (H0.out _ hb).mono ?_) | (with_reducible refine (H4.out _ hb).mono ?_)); rintro e wn ⟨rfl, hbn⟩; replace hb := hb.trans (hbn.mono hb.size); clear hbn)
      go_ret2
      exact ⟨rfl, hb⟩

set_option maxRecDepth 100000 in
set_option maxHeartbeats 4000000 in
theorem rright10_fit (A : Option Addr) (n c : Nat) (zs : List Int) (w : World) (hr : Row w A n (cellsOf .u8 zs)) (hB : Bytes zs) (hn : n ≤ 1000000) (hf : gFront zs = true) :
    Calls Tryd.prog 37 #[.slice A n c] w (Ret w (.tuple #[.int .i64 (gRV zs), .bool (gRight zs)])) := by
  have H12 : Hid (∀ W, Below w.heap.size w W → Calls Tryd.prog 58 #[.slice A n c, .int .i64 12] W (Ret W (.int .u64 (n4at zs 12)))) := fun W hW => rat10_any A n c zs 12 12 W (hr.below hW) hB (by omega) rfl (by omega)
  have H0 : Hid (∀ W, Below w.heap.size w W → Calls Tryd.prog 58 #[.slice A n c, .int .i64 0] W (Ret W (.int .u64 (n4at zs 0)))) := fun W hW => rat10_any A n c zs 0 0 W (hr.below hW) hB (by omega) rfl (by omega)
  have H4 : Hid (∀ W, Below w.heap.size w W → Calls Tryd.prog 58 #[.slice A n c, .int .i64 4] W (Ret W (.int .u64 (n4at zs 4)))) := fun W hW => rat10_any A n c zs 4 4 W (hr.below hW) hB (by omega) rfl (by omega)
  have HAll : Hid (∀ (i : Nat) (a : Int), a = i → i ≤ 100000000 → ∀ W, Below w.heap.size w W → Calls Tryd.prog 58 #[.slice A n c, .int .i64 a] W (Ret W (.int .u64 (n4at zs i)))) := fun i a ha hi W hW => rat10_any A n c zs a i W (hr.below hW) hB (by omega) ha (by omega)
  have HB := Lib.hid hB
  have hl := hr.len
  have e12 := n4at_lt hB 12
  have hgr := gRight_is hf
  have hg : n4at zs 0 = 786432 ∧ n4at zs 4 = 16 + 12 * (gN zs : Int) ∧ n4at zs 12 = (gN zs : Int) ∧ 16 + 12 * gN zs ≤ n := by
    simp [gFront] at hf
    have hN : n4at zs 12 = (gN zs : Int) := by unfold gN; omega
    have h2 := n4at_two (zs := zs) (i := 0) (by omega)
    simp only [Nat.zero_add] at h2
    omega
  obtain ⟨g0, g4, g12, gl⟩ := hg
  have hv : gRV zs = if gRight zs then (gN zs : Int) else 0 := rfl
  rw [g0] at H0
  rw [g4] at H4
  rw [g12] at H12
  have HR := Lib.hid hgr
  have HV := Lib.hid hv
  have hb := Below.refl w.heap.size w
  clear hf hr hB hl hgr hv g0 g4 g12 e12
  generalize gRV zs = V at *
  generalize gRight zs = R at *
  generalize gN zs = N at *
  go_enter Tryd.func37, Tryd.ntmps37
  go_wp2_with (go_at_call 58; (first | (with_reducible refine (H12.out _ hb).mono ?_) | (with_reducible refine (H0.out _ hb).mono ?_) | (with_reducible refine (H4.out _ hb).mono ?_)); rintro e wn ⟨rfl, hbn⟩; replace hb := hb.trans (hbn.mono hb.size); clear hbn)
  clear H12 H0 H4
  go_loopw [5] (fun i wr => ∃ k : Nat, k ≤ N ∧ i = .int .i64 k ∧ Hid (gOkK zs k = true) ∧ Below w.heap.size w wr) (fun i _ => N - (intOf i).toNat)
  case atStart => exact ⟨0, Nat.zero_le _, rfl, Lib.hid rfl, hb⟩
  case round =>
    clear hb
    obtain ⟨k, hk, rfl, hok, hb⟩ := hrel
    by_cases hlt : k < N
    · have H16 := Lib.hid (HAll.out (16 + 12 * k) (16 + 12 * (k : Int)) (by omega) (by omega))
      have H20 := Lib.hid (HAll.out (20 + 12 * k) (20 + 12 * (k : Int)) (by omega) (by omega))
      have H24 := Lib.hid (HAll.out (24 + 12 * k) (24 + 12 * (k : Int)) (by omega) (by omega))
      have H8 := Lib.hid (HAll.out (8 + 12 * k) (8 + 12 * (k : Int)) (by omega) (by omega))
      have l16 := n4at_lt HB.out (16 + 12 * k)
      have l20 := n4at_lt HB.out (20 + 12 * k)
      have l24 := n4at_lt HB.out (24 + 12 * k)
      have l8 := n4at_lt HB.out (8 + 12 * k)
      have hgo : gOkAt zs k = (decide (n4at zs (16 + 12 * k) ≤ n4at zs (20 + 12 * k) ∧ n4at zs (20 + 12 * k) ≤ 1114111 ∧ n4at zs (24 + 12 * k) + (n4at zs (20 + 12 * k) - n4at zs (16 + 12 * k)) ≤ 65535) && decide ((if k = 0 then 0 else n4at zs (8 + 12 * k) + 1) ≤ n4at zs (16 + 12 * k))) := rfl
      have HGO := Lib.hid hgo
      clear hgo
      generalize n4at zs (16 + 12 * k) = a at *
      generalize n4at zs (20 + 12 * k) = z at *
      generalize n4at zs (24 + 12 * k) = g at *
      generalize n4at zs (8 + 12 * k) = p at *
      have HNO : Hid (gOkAt zs k = false → V = 0 ∧ R = false) := fun h => by
        have := HR.out
        rw [gOkK_not hlt h] at this
        exact ⟨by rw [HV.out, this]; rfl, this⟩
      have HYES : Hid (gOkAt zs k = true → gOkK zs (k + 1) = true) := fun h => by rw [gOkK_succ, hok.out, h]; rfl
      clear HAll HR HV
      by_cases h1 : a ≤ z
      · by_cases h2 : z ≤ 1114111
        · by_cases h0 : ¬ 0 < k
          · by_cases h4 : g + z - a ≤ 65535
            · have HT := Lib.hid (HYES.out (by rw [HGO.out, if_pos (by omega)]; simp; omega))
              clear HNO HYES HGO
              go_wp2_with (go_at_call 58; (first | (with_reducible refine (H16.out _ hb).mono ?_) | (with_reducible refine (H20.out _ hb).mono ?_) | (with_reducible refine (H24.out _ hb).mono ?_) | (with_reducible refine (H8.out _ hb).mono ?_)); rintro e wn ⟨rfl, hbn⟩; replace hb := hb.trans (hbn.mono hb.size); clear hbn)
              go_roundw
              case rel => exact ⟨k + 1, by omega, by go_num, HT, hb⟩
              case measure => simp [intOf]; omega
            · have HT := Lib.hid (HNO.out (by rw [HGO.out]; simp; omega))
              clear HNO HYES HGO
              go_wp2_with (go_at_call 58; (first | (with_reducible refine (H16.out _ hb).mono ?_) | (with_reducible refine (H20.out _ hb).mono ?_) | (with_reducible refine (H24.out _ hb).mono ?_) | (with_reducible refine (H8.out _ hb).mono ?_)); rintro e wn ⟨rfl, hbn⟩; replace hb := hb.trans (hbn.mono hb.size); clear hbn)
              go_ret2
              rw [HT.out.1, HT.out.2]
              exact ⟨rfl, hb⟩
          · have h0' : 0 < k := by omega
            clear h0
            by_cases h3 : p < a
            · by_cases h4 : g + z - a ≤ 65535
              · have HT := Lib.hid (HYES.out (by rw [HGO.out, if_neg (by omega)]; simp; omega))
                clear HNO HYES HGO
                go_wp2_with (go_at_call 58; (first | (with_reducible refine (H16.out _ hb).mono ?_) | (with_reducible refine (H20.out _ hb).mono ?_) | (with_reducible refine (H24.out _ hb).mono ?_) | (with_reducible refine (H8.out _ hb).mono ?_)); rintro e wn ⟨rfl, hbn⟩; replace hb := hb.trans (hbn.mono hb.size); clear hbn)
                go_roundw
                case rel => exact ⟨k + 1, by omega, by go_num, HT, hb⟩
                case measure => simp [intOf]; omega
              · have HT := Lib.hid (HNO.out (by rw [HGO.out, if_neg (by omega)]; simp; omega))
                clear HNO HYES HGO
                go_wp2_with (go_at_call 58; (first | (with_reducible refine (H16.out _ hb).mono ?_) | (with_reducible refine (H20.out _ hb).mono ?_) | (with_reducible refine (H24.out _ hb).mono ?_) | (with_reducible refine (H8.out _ hb).mono ?_)); rintro e wn ⟨rfl, hbn⟩; replace hb := hb.trans (hbn.mono hb.size); clear hbn)
                go_ret2
                rw [HT.out.1, HT.out.2]
                exact ⟨rfl, hb⟩
            · have HT := Lib.hid (HNO.out (by rw [HGO.out, if_neg (by omega)]; simp; omega))
              clear HNO HYES HGO
              go_wp2_with (go_at_call 58; (first | (with_reducible refine (H16.out _ hb).mono ?_) | (with_reducible refine (H20.out _ hb).mono ?_) | (with_reducible refine (H24.out _ hb).mono ?_) | (with_reducible refine (H8.out _ hb).mono ?_)); rintro e wn ⟨rfl, hbn⟩; replace hb := hb.trans (hbn.mono hb.size); clear hbn)
              go_ret2
              rw [HT.out.1, HT.out.2]
              exact ⟨rfl, hb⟩
        · have HT := Lib.hid (HNO.out (by rw [HGO.out]; simp; omega))
          clear HNO HYES HGO
          go_wp2_with (go_at_call 58; (first | (with_reducible refine (H16.out _ hb).mono ?_) | (with_reducible refine (H20.out _ hb).mono ?_) | (with_reducible refine (H24.out _ hb).mono ?_) | (with_reducible refine (H8.out _ hb).mono ?_)); rintro e wn ⟨rfl, hbn⟩; replace hb := hb.trans (hbn.mono hb.size); clear hbn)
          go_ret2
          rw [HT.out.1, HT.out.2]
          exact ⟨rfl, hb⟩
      · have HT := Lib.hid (HNO.out (by rw [HGO.out]; simp; omega))
        clear HNO HYES HGO
        go_wp2_with (go_at_call 58; (first | (with_reducible refine (H16.out _ hb).mono ?_) | (with_reducible refine (H20.out _ hb).mono ?_) | (with_reducible refine (H24.out _ hb).mono ?_) | (with_reducible refine (H8.out _ hb).mono ?_)); rintro e wn ⟨rfl, hbn⟩; replace hb := hb.trans (hbn.mono hb.size); clear hbn)
        go_ret2
        rw [HT.out.1, HT.out.2]
        exact ⟨rfl, hb⟩
    · obtain rfl : k = N := by omega
      have HT : Hid (R = true ∧ V = (k : Int)) := by
        have := HR.out
        rw [hok.out] at this
        exact ⟨this, by rw [HV.out, this]; rfl⟩
      clear HAll HR HV
      go_wp2
      go_ret2
      rw [HT.out.1, HT.out.2]
      exact ⟨rfl, hb⟩

theorem rright10_any (A : Option Addr) (n c : Nat) (zs : List Int) (w : World) (hr : Row w A n (cellsOf .u8 zs)) (hB : Bytes zs) (hn : n ≤ 1000000) :
    Calls Tryd.prog 37 #[.slice A n c] w (Ret w (.tuple #[.int .i64 (gRV zs), .bool (gRight zs)])) := by
  cases hf : gFront zs with
  | true => exact rright10_fit A n c zs w hr hB hn hf
  | false =>
    have h := gRight_front hf
    unfold gRV
    rw [h]
    exact rright10_front A n c zs w hr hB hn hf

set_option maxRecDepth 100000 in
set_option maxHeartbeats 2000000 in
theorem rlook10_any (A : Option Addr) (n c : Nat) (zs : List Int) (N : Nat) (code : Int) (w : World) (hr : Row w A n (cellsOf .u8 zs)) (hB : Bytes zs) (hn : n ≤ 1000000) (hN : N ≤ 1000000) (c0 : -2147483648 ≤ code) (c1 : code ≤ 2147483647) :
    Calls Tryd.prog 39 #[.slice A n c, .int .i64 N, .int .i64 code] w (Ret w (.int .i64 (findG code (grps zs N)))) := by
  have HAll : Hid (∀ (i : Nat) (a : Int), a = i → i ≤ 100000000 → ∀ W, Below w.heap.size w W → Calls Tryd.prog 58 #[.slice A n c, .int .i64 a] W (Ret W (.int .u64 (n4at zs i)))) := fun i a ha hi W hW => rat10_any A n c zs a i W (hr.below hW) hB (by omega) ha (by omega)
  have HB := Lib.hid hB
  clear hr hB
  have hb := Below.refl w.heap.size w
  have hneg : code < 0 → findG code (grps zs N) = 0 := fun h => by
    have key : ∀ l : List Rn, (∀ x ∈ l, 0 ≤ x.a) → findG code l = 0 := by
      intro l
      induction l with
      | nil => intro _; rfl
      | cons x l ih => intro hx; rw [findG, if_neg (by have := hx x (by simp); omega)]; exact ih (fun y hy => hx y (by simp [hy]))
    refine key _ (fun x hx => ?_)
    obtain ⟨i, hi⟩ := List.mem_iff_getElem?.1 hx
    obtain ⟨_, rfl⟩ := grps_get _ _ _ _ hi
    exact (n4at_lt HB.out _).1
  have HNeg := Lib.hid hneg
  clear hneg
  by_cases hc : 0 ≤ code
  · go_enter Tryd.func39, Tryd.ntmps39
    go_wp2
    go_loopw [7] (fun i wr => ∃ k : Nat, k ≤ N ∧ i = .int .i64 k ∧ Hid (findG code (grps zs N) = findG code ((grps zs N).drop k)) ∧ Below w.heap.size w wr) (fun i _ => N - (intOf i).toNat)
    case atStart => exact ⟨0, Nat.zero_le _, rfl, Lib.hid rfl, hb⟩
    case round =>
      clear hb
      obtain ⟨k, hk, rfl, hok, hb⟩ := hrel
      by_cases hlt : k < N
      · have H16 := Lib.hid (HAll.out (16 + 12 * k) (16 + 12 * (k : Int)) (by omega) (by omega))
        have H20 := Lib.hid (HAll.out (20 + 12 * k) (20 + 12 * (k : Int)) (by omega) (by omega))
        have H24 := Lib.hid (HAll.out (24 + 12 * k) (24 + 12 * (k : Int)) (by omega) (by omega))
        have l16 := n4at_lt HB.out (16 + 12 * k)
        have l20 := n4at_lt HB.out (20 + 12 * k)
        have l24 := n4at_lt HB.out (24 + 12 * k)
        have hgo : findG code (grps zs N) = if n4at zs (16 + 12 * k) ≤ code ∧ code ≤ n4at zs (20 + 12 * k) then n4at zs (24 + 12 * k) + (code - n4at zs (16 + 12 * k)) else findG code ((grps zs N).drop (k + 1)) := by
          rw [hok.out, drop_consP (p := gAt zs k) (by unfold grps; simp [hlt]), findG]
          rfl
        have HGO := Lib.hid hgo
        clear hgo HAll hok
        generalize n4at zs (16 + 12 * k) = a at *
        generalize n4at zs (20 + 12 * k) = z at *
        generalize n4at zs (24 + 12 * k) = g at *
        by_cases h1 : a ≤ code
        · by_cases h2 : code ≤ z
          · have HT : Hid (findG code (grps zs N) = g + code - a) := by show _ = _; rw [HGO.out, if_pos ⟨h1, h2⟩]; omega
            clear HGO
            go_wp2_with (go_at_call 58; (first | (with_reducible refine (H16.out _ hb).mono ?_) | (with_reducible refine (H20.out _ hb).mono ?_) | (with_reducible refine (H24.out _ hb).mono ?_)); rintro e wn ⟨rfl, hbn⟩; replace hb := hb.trans (hbn.mono hb.size); clear hbn)
            go_ret
            rw [HT.out]
            exact ⟨rfl, hb⟩
          · have HT : Hid (findG code (grps zs N) = findG code ((grps zs N).drop (k + 1))) := by show _ = _; rw [HGO.out, if_neg (by omega)]
            clear HGO
            go_wp2_with (go_at_call 58; (first | (with_reducible refine (H16.out _ hb).mono ?_) | (with_reducible refine (H20.out _ hb).mono ?_) | (with_reducible refine (H24.out _ hb).mono ?_)); rintro e wn ⟨rfl, hbn⟩; replace hb := hb.trans (hbn.mono hb.size); clear hbn)
            go_roundw
            case rel => exact ⟨k + 1, by omega, by go_num, HT, hb⟩
            case measure => simp [intOf]; omega
        · have HT : Hid (findG code (grps zs N) = findG code ((grps zs N).drop (k + 1))) := by show _ = _; rw [HGO.out, if_neg (by omega)]
          clear HGO
          go_wp2_with (go_at_call 58; (first | (with_reducible refine (H16.out _ hb).mono ?_) | (with_reducible refine (H20.out _ hb).mono ?_) | (with_reducible refine (H24.out _ hb).mono ?_)); rintro e wn ⟨rfl, hbn⟩; replace hb := hb.trans (hbn.mono hb.size); clear hbn)
          go_roundw
          case rel => exact ⟨k + 1, by omega, by go_num, HT, hb⟩
          case measure => simp [intOf]; omega
      · have HT : Hid (findG code (grps zs N) = 0) := by show _ = _; rw [hok.out, List.drop_of_length_le (by rw [grps_len]; omega)]; rfl
        clear HAll
        go_wp2
        go_ret
        rw [HT.out]
        exact ⟨rfl, hb⟩
  · have HT := Lib.hid (HNeg.out (by omega))
    clear HAll
    go_enter Tryd.func39, Tryd.ntmps39
    go_wp2
    go_loopw [7] (fun i wr => i = .int .i64 0 ∧ Below w.heap.size w wr) (fun i _ => 0)
    case atStart => exact ⟨rfl, hb⟩
    case round =>
      clear hb
      obtain ⟨rfl, hb⟩ := hrel
      by_cases h0 : 0 < N
      · go_wp2
        go_ret
        rw [HT.out]
        exact ⟨rfl, hb⟩
      · go_wp2
        go_ret
        rw [HT.out]
        exact ⟨rfl, hb⟩

end Go.Proofs.YthkaeimpflggjaaDoor
