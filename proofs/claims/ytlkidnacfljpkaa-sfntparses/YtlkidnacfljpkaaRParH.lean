/- The document's Parse of a font whose directory fits. -/
import Derived.Test.YtlkidnacfljpkaaRParF
import Derived.Test.YtlkidnacfljpkaaRParG
import Derived.Deep.RegionHeld3
namespace Go.Proofs.Ytlkidnacfljpkaa
open Go.RowKit
set_option linter.unusedVariables false

theorem pure_dir {zs : List Int} {l : List Tab} {k : Nat} (hk : cntN zs = k) (k64 : k ≤ 64) (h : l.map Tab.pure = (List.range k).map fun i => pureOf zs (entOf zs i)) : l.map Tab.pure = (dirL (zs.take 1036)).map (pureOf zs) := by
  rw [h, dirL_take zs (by omega), hk, List.map_map]
  rfl

set_option maxRecDepth 1000000 in
set_option maxHeartbeats 4000000 in
theorem rparse_fit (A : Option Addr) (n c : Nat) (zs : List Int) (k : Nat) (w : World) (hr : Row w A n (cellsOf .u8 zs)) (hB : Bytes zs) (hn : n ≤ 100000) (hc : n ≤ c) (hk : cntN zs = k) (k1 : 1 ≤ k) (k64 : k ≤ 64) (hkn : 12 + 16 * k ≤ n) (hv : n4at zs 0 = 65536) :
    Calls Try.prog 15 #[.slice A n c] w (RetRP w zs) := by
  obtain ⟨i0, hi, hz0, hz1, hz2⟩ := info_parts Try.rtabinfo
  have hl := hr.len
  have h4k : n2at zs 4 = (k : Int) := by have := n2at_lt hB 4; rw [← hk]; unfold cntN; omega
  have H4 : Hid (∀ W, Row W A n (cellsOf .u8 zs) → Calls Try.prog 44 #[.slice A n c, .int .i64 0] W (Quiet W (.tuple #[.int .u32 65536, .bool true]))) := fun W hW => by
    have h := n4_any A n c zs 0 W hW hB (by omega) (by omega)
    rw [n4v_at, hv, show n4b zs 0 = true by unfold n4b; simp; omega] at h
    exact h
  have H2 : Hid (∀ W, Row W A n (cellsOf .u8 zs) → Calls Try.prog 46 #[.slice A n c, .int .i64 4] W (Quiet W (.tuple #[.int .i64 (k : Int), .bool true]))) := fun W hW => by
    have h := n2_any A n c zs 4 W hW hB (by omega) (by omega)
    rw [n2v_at, h4k, show n2b zs 4 = true by unfold n2b; simp; omega] at h
    exact h
  have HN4 : Hid (∀ (W : World) (i : Nat), Row W A n (cellsOf .u8 zs) → i + 4 ≤ n → Calls Try.prog 44 #[.slice A n c, .int .i64 (i : Int)] W (Quiet W (.tuple #[.int .u32 (n4at zs i), .bool true]))) := fun W i hW hi => by
    have h := n4_any A n c zs i W hW hB (by omega) (by omega)
    rw [n4v_at, show n4b zs i = true by unfold n4b; simp; omega] at h
    exact h
  have HD := Lib.hid (dirB_fit hk k1 k64 hl hkn hv h4k)
  have HSS := Lib.hid (search_same hB (by omega) (by omega) (by omega))
  rw [hk] at HSS
  have hsr := sr_le k k1 k64
  have HB := Lib.hid hB
  have HL := Lib.hid hl
  have Hk := Lib.hid hk
  have hk0 : (0 : Int) ≤ (k : Int) := by omega
  have hk1 : (k : Int) < 65536 := by omega
  have e4 : decide ((k : Int) < 1) = false := by simp; omega
  have e5 : decide (64 < (k : Int)) = false := by simp; omega
  have e6 : decide ((n : Int) < 12 + 16 * (k : Int)) = false := by simp; omega
  obtain ⟨fg, foff, rfl, hjunk⟩ := hr.2 (show 0 < n by omega)
  clear hB hl hk hv h4k hjunk
  have hrw := hr
  go_enter Try.func15, Try.ntmps15
  go_wp2_with fail
  with_reducible refine (H4.out w hr).mono ?_
  rintro e w1 ⟨rfl, q1, rfl⟩
  go_wp2_with fail
  with_reducible refine (H2.out _ (hr.drewN _)).mono ?_
  rintro e w1 ⟨rfl, q2, hw⟩
  replace hr : Row w1 _ _ _ := (by rw [hw]; exact (hr.drewN q1).drewN q2)
  have hb1 : Below w.heap.size w w1 := (by rw [hw]; exact below_drewN (below_drewN (Below.refl _ _) q1) q2)
  clear hw
  go_wp2_with fail
  with_reducible refine (rsearch_any k w1 k1 k64).mono ?_
  rintro e w' ⟨rfl, rfl⟩
  clear e4 e5 e6
  generalize sr1 k = s1 at *
  generalize sr2 k = s2 at *
  generalize sr3 k = s3 at *
  obtain ⟨s0, s00, t0, t00, u0, _, u00⟩ := hsr
  have hp6 : Row w1 (some ⟨fg, foff + 6, none⟩) 6 (cellsOf .u8 ((zs.drop 6).take 6)) := by
    have h := (hr.drop 6).take (k := 6) (by omega)
    rw [cellsOf_drop, cellsOf_take] at h
    simpa only [Option.map_some, Addr.add_lit] using h
  have c1 : (12 : Int) ≤ (c : Int) := by omega
  have c2 : (6 : Int) < (c : Int) := by omega
  have c6 : ¬ c = 6 := by omega
  have hg := (Got.nil w1).drew
  have HS1 := Lib.hid (fun W => b2_any s1 W (by omega) (by omega))
  have HS2 := Lib.hid (fun W => b2_any s2 W (by omega) (by omega))
  have HS3 := Lib.hid (fun W => b2_any s3 W (by omega) (by omega))
  replace hp6 := hp6.drew
  have hbd := hb1.drew
  go_upto_region 6 with fail
  go_cut [75] (fun b wx => b = .bool (!searchB zs) ∧ Below w.heap.size w wx)
  case first =>
    go_region_held3 (fun w' => True)
      (trivial)
      (first
        | (go_at_call 41; (first | (with_reducible refine (HS1.out _).mono ?_) | (with_reducible refine (HS2.out _).mono ?_) | (with_reducible refine (HS3.out _).mono ?_)); rintro e w2 ⟨A2, n2, k2, rfl, o, hb⟩; replace hg := hg.add (c := k2) hb o; replace hp6 := hp6.below hb; replace hbd := hbd.trans (hb.mono hbd.size); clear o hb)
        | (go_at_call 17; refine (joinN_any _ _ _ 3 _ rfl rfl rfl hg (by omega) (by simp [joined, b2])).mono ?_; rintro e w2 ⟨A2, n2, k2, rfl, o, hb⟩; simp only [joined, List.nil_append, List.cons_append, List.flatMap_cons, List.flatMap_nil, List.append_nil] at o; replace hp6 := hp6.below hb; have hj := o.row; replace hbd := hbd.trans (hb.mono hbd.size); clear o hb hg)
        | (go_at_call 10; refine (same_any _ _ _ _ _ _ _ _ _ hp6 hj (by omega) (by have := hj.len; simp [b2] at this; omega)).mono ?_; rintro e w2 ⟨rfl, q, hw⟩; rw [HSS.out]; replace hbd : Below w.heap.size w w2 := (by rw [hw]; exact below_drewN hbd q); clear hw))
    all_goals go_wp2_with fail
    all_goals go_meet
    all_goals exact ⟨rfl, hbd⟩
  case rest =>
    obtain ⟨rfl, hbd⟩ := hcut
    clear hp6
    clear HSS HS1 HS2 HS3 hr hb1 c1 c2 c6 H4 H2
    cases hS : searchB zs with
    | false =>
      have HN := Lib.hid (formB_not (show dirB (zs.take 1036) = false by rw [HD.out]; exact hS))
      go_wp2
      go_ret2
      exact ⟨hbd, .inl ⟨HN.out, rfl⟩⟩
    | true =>
      have HD2 : Hid (dirB (zs.take 1036) = true) := by show dirB (zs.take 1036) = true; rw [HD.out]; exact hS
      have HF := Lib.hid (formB_is HD2.out (by rw [Hk.out]; exact k64))
      rw [Hk.out] at HF
      have HRw := Lib.hid hrw
      clear hS hrw HD
      go_wp2_with fail
      refine rp1_loop fg foff n c zs k w wc HRw.out HB.out hn hc Hk.out k1 k64 hkn HD2.out hbd ?_ ?_
      · intro a' w' h0 t2 t3 hd hb
        exact bodyPost_ret (v := .tuple #[.slice none 0 0, .int .i64 2]) (results_pair Try.results15 a'.tmps w' t2 t3) hd ⟨hb, .inl ⟨h0, rfl⟩⟩
      intro u2 u3 u13 u14 u15 u16 u17 u76 u77 u78 u79 u80 u81 u82 u83 u84 u85 u86 u87 u88 u89 u90 u91 u92 u93 u94 u95 u96 u97 u98 u99 u100 u101 u102 u103 u104 u105 u106 u107 u108 u109 u110 u111 u112 u113 u114 u115 u116 u117 u118 u119 u120 u121 u122 u123 u124 u125 u126 u127 u128 u129 u130 u131 u132 u133 u134 u135 u136 u137 u138 u139 u140 u141 u142 u143 u144 u145 u146 u147 u148 u149 u150 u151 u152 u153 u154 u155 u156 u157 A2 c2 l wr hO hs
      have HFt : Hid (formB zs = true) := by show _ = _; rw [HF.out]; exact hO
      have HPu := Lib.hid (pure_dir Hk.out k64 hs.pure)
      have Hs := Lib.hid hs
      clear hO hbd
      go_wp2_with fail
      refine rp2_loop fg foff n c zs k A2 c2 l w wr HRw.out HB.out hn hc Hk.out k1 k64 hkn Hs.out ?_ ?_
      · intro a' w' h0 t2 t3 hd hb
        exact bodyPost_ret (v := .tuple #[.slice none 0 0, .int .i64 3]) (results_pair Try.results15 a'.tmps w' t2 t3) hd ⟨hb, .inr ⟨HFt.out, l, HPu.out, .inl ⟨h0, rfl⟩⟩⟩
      intro u2 u3 u18 u19 u20 u21 u161 u162 u163 u164 u165 u166 u167 u168 u169 u170 u171 u172 u173 u174 u175 u176 u177 u178 u179 u180 u181 u182 u183 u184 u185 u186 u187 u188 u189 u190 u191 u192 u193 wr2 hS hb2
      have HS1 : Hid (summedP zs (dirL (zs.take 1036)) (l.map Tab.pure) = true) := by show _ = _; rw [summedP_ok Hs.out.own.len Hk.out k64]; exact hS
      have Hs2 := Lib.hid (Hs.out.below hb2)
      clear hs hS hb2 Hs
      go_wp2
      go_ret2
      exact ⟨Hs2.out.bel, .inr ⟨HFt.out, l, HPu.out, .inr ⟨HS1.out, A2, k, c2, rfl, Hs2.out.own, Hs2.out.ok⟩⟩⟩

end Go.Proofs.Ytlkidnacfljpkaa
