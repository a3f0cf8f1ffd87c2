/- The document's Search and Look of segments, as contracts over this seat's translation. -/
import Derived.Test.YthkaeimpflggjaaDoorSegM
import Derived.Test.YthkaeimpflggjaaDoorPrs
import Derived.Test.YthkaeimpflggjaaDoorGot
namespace Go.Proofs.YthkaeimpflggjaaDoor
open Go.RowKit
set_option linter.unusedVariables false

set_option maxRecDepth 100000 in
theorem rat9_any (A : Option Addr) (n c : Nat) (zs : List Int) (a : Int) (i : Nat) (w : World) (hr : Row w A n (cellsOf .u8 zs)) (hB : Bytes zs) (hn : n ≤ 140737488351232) (ha : a = i) (hi : i ≤ 140737488351232) :
    Calls Tryd.prog 59 #[.slice A n c, .int .i64 a] w (Ret w (.int .i64 (n2at zs i))) := by
  subst ha
  have H := Lib.hid (n2_any A n c zs i w hr hB hn hi)
  rw [n2v_at] at H
  clear hr hB
  generalize n2at zs i = v at *
  go_enter Tryd.func59, Tryd.ntmps59
  go_wp2_with fail
  refine H.out.mono ?_
  rintro e w1 ⟨rfl, q, rfl⟩
  go_wp2
  go_ret
  exact ⟨rfl, below_drewN (Below.refl _ _) _⟩

/-- The three numbers, written out. -/
def srB (n : Nat) : List Int := b2 (2 * ((2 ^ expoS n : Nat) : Int)) ++ (b2 (expoS n : Int) ++ b2 (2 * (n : Int) - 2 * ((2 ^ expoS n : Nat) : Int)))
theorem srB_len (n : Nat) : (srB n).length = 6 := rfl

set_option maxRecDepth 100000 in
set_option maxHeartbeats 2000000 in
theorem rsearch9_any (n : Nat) (w : World) (h0 : 1 ≤ n) (h1 : n < 32768) : Calls Tryd.prog 53 #[.int .i64 n] w (RetB w (srB n)) := by
  go_enter Tryd.func53, Tryd.ntmps53
  go_wp2
  go_loopw [3, 4] (fun t x wr => ∃ e q : Nat, Hid (q = 2 ^ e) ∧ e < 16 ∧ q ≤ n ∧ x = .int .i64 e ∧ t = .int .i64 q ∧ Below w.heap.size w wr) (fun t _ _ => 32768 - (intOf t).toNat)
  case atStart => exact ⟨0, 1, Lib.hid rfl, by omega, h0, rfl, rfl, Below.refl _ _⟩
  case round =>
    obtain ⟨e, q, HQ, he, hqn, rfl, rfl, hb⟩ := hrel
    have hp : 1 ≤ q := by have := HQ.out; rw [this]; exact Nat.one_le_two_pow
    by_cases hlt : 2 * q ≤ n
    · go_wp2
      go_roundw
      case rel => exact ⟨e + 1, q * 2, Lib.hid (by rw [HQ.out, Nat.pow_succ]), by
        rcases Nat.lt_or_ge e 15 with h | h
        · omega
        · have : 2 ^ 15 ≤ 2 ^ e := Nat.pow_le_pow_right (by omega) h
          have := HQ.out
          omega, by omega, by go_num, by go_num, hb⟩
      case measure => simp [intOf]; omega
    · have hu := expoS_uniq n e h0 (by rw [← HQ.out]; exact hqn) (by rw [Nat.pow_succ, ← HQ.out]; omega)
      have HS : Hid (srB n = b2 (2 * (q : Int)) ++ (b2 (e : Int) ++ b2 (2 * (n : Int) - 2 * (q : Int)))) := by show _ = _; unfold srB; rw [← hu, ← HQ.out]
      have hsz := hb.size
      clear hu HQ
      go_wp2_with fail
      refine (b2_any (2 * (q : Int)) _ (by omega) (by omega)).mono ?_
      rintro e1 w1 ⟨A1, n1, c1, rfl, o1, hb1⟩
      have hgt := (Got.nil wr).add (c := c1) hb1 o1
      have hB := hb.trans (hb1.mono hb.size)
      clear o1 hb1 hb
      go_wp2_with fail
      refine (b2_any (e : Int) _ (by omega) (by omega)).mono ?_
      rintro e2 w2 ⟨A2, n2, c2, rfl, o2, hb2⟩
      replace hgt := hgt.add (c := c2) hb2 o2
      replace hB := hB.trans (hb2.mono hB.size)
      clear o2 hb2
      go_wp2_with fail
      refine (b2_any (2 * (n : Int) - 2 * (q : Int)) _ (by omega) (by omega)).mono ?_
      rintro e3 w3 ⟨A3, n3, c3, rfl, o3, hb3⟩
      replace hgt := hgt.add (c := c3) hb3 o3
      replace hB := hB.trans (hb3.mono hB.size)
      clear o3 hb3
      have HJ := Lib.hid (joinN_any w3 _ _ 3 _ rfl rfl rfl hgt (by omega) (by simp [joined, b2]))
      simp only [joined, List.nil_append, List.cons_append, List.flatMap_cons, List.flatMap_nil, List.append_nil, List.map_cons, List.map_nil, BsV.val] at HJ
      rw [← HS.out] at HJ
      clear hgt
      go_wp2_with fail
      refine HJ.out.mono ?_
      rintro e6 w6 ⟨A6, n6, c6, rfl, o6, hb6⟩
      go_wp2
      go_ret
      exact ⟨A6, n6, c6, rfl, o6.mono hB.size, hB.trans (hb6.mono hB.size)⟩

set_option maxRecDepth 100000 in
set_option maxHeartbeats 4000000 in
theorem rlook9_any (A : Option Addr) (n c : Nat) (zs : List Int) (N : Nat) (code : Int) (w : World) (hr : Row w A n (cellsOf .u8 zs)) (hB : Bytes zs) (hn : n ≤ 1000000) (hN : N ≤ 32767) (c0 : -2147483648 ≤ code) (c1 : code ≤ 2147483647) :
    Calls Tryd.prog 40 #[.slice A n c, .int .i64 N, .int .i64 code] w (Ret w (.int .i64 (lookS zs N code 0 N))) := by
  have HAll : Hid (∀ (i : Nat) (a : Int), a = i → i ≤ 100000000 → ∀ W, Below w.heap.size w W → Calls Tryd.prog 59 #[.slice A n c, .int .i64 a] W (Ret W (.int .i64 (n2at zs i)))) := fun i a ha hi W hW => rat9_any A n c zs a i W (hr.below hW) hB (by omega) ha (by omega)
  have HB := Lib.hid hB
  clear hr hB
  have hb := Below.refl w.heap.size w
  by_cases hc0 : code < 0
  · have HT : Hid (lookS zs N code 0 N = 0) := by
      show _ = _
      cases N with
      | zero => rfl
      | succ N =>
        have k1 := n2at_lt HB.out (14 + 2 * 0)
        have k2 : 0 ≤ (sqAt zs (N + 1) 0).a := (n2at_lt HB.out _).1
        rw [lookS, if_pos (by omega)]
        unfold valS
        rw [if_neg (by omega)]
    clear HAll
    go_enter Tryd.func40, Tryd.ntmps40
    go_wp2
    go_ret
    rw [HT.out]
    exact ⟨rfl, hb⟩
  · by_cases hc1 : 65535 < code
    · have HT : Hid (lookS zs N code 0 N = 0) := lookS_none (fun j _ => by have := n2at_lt HB.out (14 + 2 * j); omega)
      clear HAll
      go_enter Tryd.func40, Tryd.ntmps40
      go_wp2
      go_ret
      rw [HT.out]
      exact ⟨rfl, hb⟩
    · go_enter Tryd.func40, Tryd.ntmps40
      go_wp2
      go_loopw [7] (fun i wr => ∃ k : Nat, k ≤ N ∧ i = .int .i64 k ∧ Hid (lookS zs N code 0 N = lookS zs N code k (N - k)) ∧ Below w.heap.size w wr) (fun i _ => N - (intOf i).toNat)
      case atStart => exact ⟨0, Nat.zero_le _, rfl, Lib.hid rfl, hb⟩
      case round =>
        clear hb
        obtain ⟨k, hk, rfl, hok, hb⟩ := hrel
        by_cases hlt : k < N
        · have hE := Lib.hid (HAll.out (14 + 2 * k) (14 + 2 * (k : Int)) (by omega) (by omega))
          have hSt := Lib.hid (HAll.out (16 + 2 * N + 2 * k) (16 + 2 * (N : Int) + 2 * (k : Int)) (by omega) (by omega))
          have hDe := Lib.hid (HAll.out (16 + 4 * N + 2 * k) (16 + 4 * (N : Int) + 2 * (k : Int)) (by omega) (by omega))
          have hOf := Lib.hid (HAll.out (16 + 6 * N + 2 * k) (16 + 6 * (N : Int) + 2 * (k : Int)) (by omega) (by omega))
          have kS := n2at_lt HB.out (16 + 2 * N + 2 * k)
          have kD := n2at_lt HB.out (16 + 4 * N + 2 * k)
          have kO := n2at_lt HB.out (16 + 6 * N + 2 * k)
          have kE := n2at_lt HB.out (14 + 2 * k)
          have hgo : lookS zs N code 0 N = if code ≤ n2at zs (14 + 2 * k) then valS zs N k code else lookS zs N code (k + 1) (N - (k + 1)) := by
            rw [hok.out]
            obtain ⟨f, hf⟩ : ∃ f, N - k = f + 1 := ⟨N - k - 1, by omega⟩
            rw [hf, lookS, show N - (k + 1) = f by omega]
          have HGO := Lib.hid hgo
          have HV : Hid (valS zs N k code = if n2at zs (16 + 2 * N + 2 * k) ≤ code then (if n2at zs (16 + 6 * N + 2 * k) = 0 then (code + n2at zs (16 + 4 * N + 2 * k)) % 65536 else if n2at zs (16 + 6 * N + 2 * k + (n2at zs (16 + 6 * N + 2 * k)).toNat + 2 * (code - n2at zs (16 + 2 * N + 2 * k)).toNat) = 0 then 0 else (n2at zs (16 + 6 * N + 2 * k + (n2at zs (16 + 6 * N + 2 * k)).toNat + 2 * (code - n2at zs (16 + 2 * N + 2 * k)).toNat) + n2at zs (16 + 4 * N + 2 * k)) % 65536) else 0) := rfl
          have HGl := Lib.hid (fun (o s : Int) (h1 : 0 ≤ o) (h2 : o < 65536) (h3 : 0 ≤ s) (h4 : s ≤ code) => HAll.out (16 + 6 * N + 2 * k + o.toNat + 2 * (code - s).toNat) (16 + 6 * (N : Int) + 2 * (k : Int) + o + 2 * (code - s)) (by omega) (by omega))
          have HGb := Lib.hid (fun (o s : Int) => n2at_lt HB.out (16 + 6 * N + 2 * k + o.toNat + 2 * (code - s).toNat))
          clear hgo HAll hok
          generalize n2at zs (16 + 2 * N + 2 * k) = st at *
          generalize n2at zs (16 + 4 * N + 2 * k) = de at *
          generalize n2at zs (16 + 6 * N + 2 * k) = ofs at *
          generalize n2at zs (14 + 2 * k) = en at *
          by_cases h1 : code ≤ en
          · by_cases h2 : st ≤ code
            · by_cases h3 : ofs = 0
              · have HT : Hid (lookS zs N code 0 N = (code + de) % 65536) := by show _ = _; rw [HGO.out, if_pos h1, HV.out, if_pos h2, if_pos h3]
                have h3' : ¬ 0 < ofs := by omega
                clear HGO HV HGl HGb h3
                go_wp2_with (go_at_call 59; (first | (with_reducible refine (hE.out _ hb).mono ?_) | (with_reducible refine (hSt.out _ hb).mono ?_) | (with_reducible refine (hDe.out _ hb).mono ?_) | (with_reducible refine (hOf.out _ hb).mono ?_)); rintro e wn ⟨rfl, hbn⟩; replace hb := hb.trans (hbn.mono hb.size); clear hbn)
                go_ret
                rw [HT.out]
                exact ⟨rfl, hb⟩
              · have h3' : 0 < ofs := by omega
                have hGx := Lib.hid (HGl.out ofs st (by omega) (by omega) (by omega) h2)
                have kx := HGb.out ofs st
                have HV2 : Hid (lookS zs N code 0 N = if n2at zs (16 + 6 * N + 2 * k + ofs.toNat + 2 * (code - st).toNat) = 0 then 0 else (n2at zs (16 + 6 * N + 2 * k + ofs.toNat + 2 * (code - st).toNat) + de) % 65536) := by show _ = _; rw [HGO.out, if_pos h1, HV.out, if_pos h2, if_neg h3]
                clear HGO HV HGl HGb h3
                generalize n2at zs (16 + 6 * N + 2 * k + ofs.toNat + 2 * (code - st).toNat) = gv at *
                by_cases h4 : gv = 0
                · have HT : Hid (lookS zs N code 0 N = 0) := by show _ = _; rw [HV2.out, if_pos h4]
                  have b4 : (gv == 0) = true := by simp [h4]
                  clear HV2 h4
                  go_wp2_with (go_at_call 59; (first | (with_reducible refine (hE.out _ hb).mono ?_) | (with_reducible refine (hSt.out _ hb).mono ?_) | (with_reducible refine (hDe.out _ hb).mono ?_) | (with_reducible refine (hOf.out _ hb).mono ?_) | (with_reducible refine (hGx.out _ hb).mono ?_)); rintro e wn ⟨rfl, hbn⟩; replace hb := hb.trans (hbn.mono hb.size); clear hbn)
                  go_ret
                  rw [HT.out]
                  exact ⟨rfl, hb⟩
                · have HT : Hid (lookS zs N code 0 N = (gv + de) % 65536) := by show _ = _; rw [HV2.out, if_neg h4]
                  have b4 : (gv == 0) = false := by simp [h4]
                  clear HV2 h4
                  go_wp2_with (go_at_call 59; (first | (with_reducible refine (hE.out _ hb).mono ?_) | (with_reducible refine (hSt.out _ hb).mono ?_) | (with_reducible refine (hDe.out _ hb).mono ?_) | (with_reducible refine (hOf.out _ hb).mono ?_) | (with_reducible refine (hGx.out _ hb).mono ?_)); rintro e wn ⟨rfl, hbn⟩; replace hb := hb.trans (hbn.mono hb.size); clear hbn)
                  go_ret
                  rw [HT.out]
                  exact ⟨rfl, hb⟩
            · have HT : Hid (lookS zs N code 0 N = 0) := by show _ = _; rw [HGO.out, if_pos h1, HV.out, if_neg h2]
              clear HGO HV HGl HGb
              go_wp2_with (go_at_call 59; (first | (with_reducible refine (hE.out _ hb).mono ?_) | (with_reducible refine (hSt.out _ hb).mono ?_) | (with_reducible refine (hDe.out _ hb).mono ?_) | (with_reducible refine (hOf.out _ hb).mono ?_)); rintro e wn ⟨rfl, hbn⟩; replace hb := hb.trans (hbn.mono hb.size); clear hbn)
              go_ret
              rw [HT.out]
              exact ⟨rfl, hb⟩
          · have HT : Hid (lookS zs N code 0 N = lookS zs N code (k + 1) (N - (k + 1))) := by show _ = _; rw [HGO.out, if_neg h1]
            clear HGO HV HGl HGb
            go_wp2_with (go_at_call 59; (with_reducible refine (hE.out _ hb).mono ?_); rintro e wn ⟨rfl, hbn⟩; replace hb := hb.trans (hbn.mono hb.size); clear hbn)
            go_roundw
            case rel => exact ⟨k + 1, by omega, by go_num, HT, hb⟩
            case measure => simp [intOf]; omega
        · obtain rfl : k = N := by omega
          have HT : Hid (lookS zs k code 0 k = 0) := by show _ = _; rw [hok.out, Nat.sub_self]; rfl
          clear HAll
          go_wp2
          go_ret
          rw [HT.out]
          exact ⟨rfl, hb⟩

end Go.Proofs.YthkaeimpflggjaaDoor
