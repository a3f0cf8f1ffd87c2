/- The law SfntOwns. -/
import Derived.Test.YtlkidnacfljpkaaSOwn
import Derived.Test.YtlkidnacfljpkaaNil
import Derived.Test.YtlkidnacfljpkaaGrow
namespace Go.Proofs.Ytlkidnacfljpkaa
open Go.RowKit
set_option linter.unusedVariables false

/-- What stands in the loops over what was read. -/
structure SO (w wr : World) (L : List Tab) (Af : Option Addr) (nf cf : Nat) (B : Nat) (Ab : Option Addr) (nb cb : Nat) (ts : List Tab) : Prop where
  f : Row wr Af nf (cellsOf .u8 (fontOf L))
  own : OwnS 30 encT 2 wr B Ab nb cb ts
  tab : ∀ t ∈ ts, OwnB wr B t.A t.n t.c t.zs ∧ Bytes t.zs ∧ t.n ≤ 100000000
  bel : Below w.heap.size w wr
theorem SO.below {w wr w' : World} {L ts : List Tab} {Af Ab : Option Addr} {nf cf B nb cb : Nat} (h : SO w wr L Af nf cf B Ab nb cb ts) (hb : Below wr.heap.size wr w') : SO w w' L Af nf cf B Ab nb cb ts :=
  ⟨h.f.below hb, h.own.below hb, fun t ht => ⟨(h.tab t ht).1.below hb, (h.tab t ht).2⟩, h.bel.trans (hb.mono h.bel.size)⟩

/-- Of any table the call of Find tells bytes of its own, or none. -/
theorem find_own (A : Option Addr) (n c : Nat) (l : List Tab) (tag : ByteArray) (w : World) (hr : RowS encT 2 w A n l) (h0 : 0 < n) (hn : n ≤ 1000000) (fa : ∀ t ∈ l, t.fair w ∧ t.n ≤ 100000000) :
    Calls Try.prog 18 #[.slice A n c, .string tag] w fun e w' => ∃ A2 n2 c2 b ms, e = .returned (.tuple #[.slice A2 n2 c2, .bool b]) ∧ OwnB w' w.heap.size A2 n2 c2 ms ∧ Below w.heap.size w w' := by
  refine (find_any A n c l tag w hr h0 hn fa).mono ?_
  rintro e w' (⟨_, rfl, hb⟩ | ⟨i, t, A2, n2, c2, _, _, rfl, ho, hb⟩)
  · exact ⟨none, 0, 0, false, [], rfl, Own.nil _ _ _ _, hb⟩
  · exact ⟨A2, n2, c2, true, _, rfl, ho, hb⟩

/-- What stood there before stays, beside a block that turns. -/
theorem row_aside {w w' : World} {A : Option Addr} {n : Nat} {xs : List Value} {row : Option Nat} (h : Row w A n xs) (hg : w.grownBy w' row) (hne : ∀ q, blockOf A = some q → some q ≠ row) : Row w' A n xs := h.grown hg hne

set_option maxRecDepth 100000 in
set_option maxHeartbeats 4000000 in
theorem law_SfntOwns (A : Option Addr) (n c : Nat) (l : List Tab) (w : World) (hr : RowS encT 2 w A n l) (hok : ∀ t ∈ l, Row w t.A t.n (cellsOf .u8 t.zs) ∧ Bytes t.zs ∧ t.n ≤ 9223372036854775807) (hn : n ≤ 9223372036854775807) :
    Calls Try.prog 5 #[.slice A n c] w (True_ w) := by
  have HR := Lib.hid hr
  have HO := Lib.hid hok
  clear hr hok
  go_enter Try.func5, Try.ntmps5
  go_wp2_with fail
  refine (awake3_any _).mono ?_
  rintro e w0 ⟨rfl, hb0⟩
  go_wp2_with fail
  refine (few_any A n c l _ (HR.out.below hb0) (fun t ht => ⟨(HO.out t ht).1.below hb0, (HO.out t ht).2⟩) hn).mono ?_
  rintro e w1 ⟨A1, A2, m, c1, c2, L, rfl, hm9, hF0⟩
  have hs0 := hb0.size
  have hF : FewL w w1 A1 A2 m c1 c2 L := ⟨hF0.1.mono hs0, hF0.2.1.mono hs0, fun t ht => ⟨(hF0.2.2.1 t ht).1.mono hs0, (hF0.2.2.1 t ht).2⟩, hF0.2.2.2.1, hb0.trans (hF0.2.2.2.2.mono hs0)⟩
  have HFL := Lib.hid (few_fineL hF hm9)
  clear hF0 hb0 hs0 HR HO
  have HF := Lib.hid hF
  clear hF
  go_wp2_with fail
  refine (build_few A1 m c1 L L w1 (HF.out.1.row encT_len) (fun t ht => (HF.out.2.2.1 t ht).ok) (List.Perm.refl _) HFL.out).mono ?_
  rintro e w2 ⟨Af, nf, cf, rfl, hf2, hb2⟩
  have hF2 := Lib.hid (HF.out.below hb2)
  have Hf2 := Lib.hid hf2
  have hnf : nf ≤ 696 := by have := hf2.len; have := HFL.out.len; omega
  clear HF hf2 hb2
  have Hml := Lib.hid hF2.out.1.len
  go_wp2
  go_loopw [30] (fun i wr => ∃ k : Nat, k ≤ m ∧ i = .int .i64 k ∧ Below w2.heap.size w2 wr) (fun i _ => m - (intOf i).toNat)
  case atStart => exact ⟨0, Nat.zero_le _, rfl, Below.refl _ _⟩
  case round =>
    obtain ⟨k, hk, rfl, hbr⟩ := hrel
    have hF3 := Lib.hid (hF2.out.below hbr)
    by_cases hlt : k < m
    · obtain ⟨t, ht⟩ : ∃ t, L[k]? = some t := ⟨_, List.getElem?_eq_getElem (by have := Hml.out; omega)⟩
      obtain ⟨g, off, rfl, hg, hc⟩ := (hF3.out.1.row encT_len).at encT_len (by omega) ht
      obtain ⟨g', off', rfl, hg', hc'⟩ := (hF3.out.2.1.row encT_len).at encT_len (by omega) ht
      have q0 : wr.cell? ⟨g, off + k * 2, none⟩ = some (.string t.tag) := hc 0 _ rfl
      have q1 : wr.cell? ⟨g, off + k * 2 + 1, none⟩ = some (.slice t.A t.n t.c) := hc 1 _ rfl
      have p0 : wr.cell? ⟨g', off' + k * 2, none⟩ = some (.string t.tag) := hc' 0 _ rfl
      have p1 : wr.cell? ⟨g', off' + k * 2 + 1, none⟩ = some (.slice t.A t.n t.c) := hc' 1 _ rfl
      have HT := Lib.hid (hF3.out.2.2.1 t (List.mem_of_getElem? ht))
      have htn : t.n ≤ 60 := HT.out.2.2.1
      clear hc hc' ht
      obtain ⟨tg, tA, tn, tc, zs⟩ := t
      simp only at q0 q1 p0 p1 HT htn
      have hsb : sameB zs zs = true := by unfold sameB; simp
      have hHs : Hid (∀ W q os, Below wr.heap.size wr W → Calls Try.prog 10 #[.slice tA tn tc, .slice tA tn tc] (gw W q os) fun e w' => e = .returned (.bool true) ∧ Below (gw W q os).heap.size (gw W q os) w') := fun W q os hW =>
        (same_any tA tA tn tc tn tc zs zs _ ((HT.out.1.row.below hW).below (gw_below W q os)) ((HT.out.1.row.below hW).below (gw_below W q os)) (by omega) (by omega)).mono fun e w' ⟨he, z, hw⟩ => ⟨by rw [he, hsb], by rw [hw]; exact below_drewN (Below.refl _ _) z⟩
      have hA := (Below.refl wr.heap.size wr).alloc (Nat.le_refl _) (.cells #[.string tg, .slice tA tn tc] 30)
      have HBr := Lib.hid (hbr.trans (hA.mono hbr.size))
      have HA := Lib.hid hA
      have e1 : (tg.toList == tg.toList) = true := by simp
      have p0' := Lib.cell?_alloc_some (.cells #[.string tg, .slice tA tn tc] 30) p0
      have p1' := Lib.cell?_alloc_some (.cells #[.string tg, .slice tA tn tc] 30) p1
      have hk0 := heap_alloc_new wr (.cells #[.string tg, .slice tA tn tc] 30)
      clear hA hbr hsb
      go_upto_region 8 with fail
      generalize wr.alloc _ = V at *
      have r0 := cell_of_row V _ 0 _ _ _ hk0
      have r1 := cell_of_row V _ 1 _ _ _ hk0
      have N0 := gw_cell (show V.cell? ⟨wr.heap.size, 0, none⟩ = some (.string tg) from r0)
      have N1 := gw_cell (show V.cell? ⟨wr.heap.size, 1, none⟩ = some (.slice tA tn tc) from r1)
      have M0 := gw_cell p0'
      have M1 := gw_cell p1'
      have HS : Hid (∀ q os, Calls Try.prog 10 #[.slice tA tn tc, .slice tA tn tc] (gw V q os) fun e w' => e = .returned (.bool true) ∧ Below (gw V q os).heap.size (gw V q os) w') := Lib.hid fun q os => hHs.out V q os HA.out
      clear q0 q1 p0 p1 p0' p1' hk0 r0 r1 hHs
      refine region_below (by kernel_rfl) (by kernel_rfl) ?_
      repeat (first | go_big_quiet_step (first | (go_at_call 10; exact calls_gw (HS.out _ _))) | quiet_step (first | (go_at_call 10; exact calls_gw (HS.out _ _))))
      refine wpQuiet_nil ?_
      rintro _ ⟨p, rfl⟩
      have hB3 := HBr.out.trans ((gw_below V p.n p.os).mono HBr.out.size)
      clear N0 N1 M0 M1 HS
      go_wp2
      go_roundw
      case rel => exact ⟨k + 1, by omega, by go_num, hB3⟩
      case measure => simp [intOf]; omega
    · obtain rfl : k = m := by omega
      have hB3 := hF3.out.2.2.2.2
      rcases Nat.eq_zero_or_pos k with h0 | h0
      · subst h0
        go_wp2
        go_ret
        exact ⟨rfl, hB3⟩
      · have hf3 := Hf2.out.below hbr
        have Hf3 := Lib.hid hf3.row
        have HfB : Hid (∀ q, blockOf Af = some q → q < wr.heap.size) := fun q hq => (hf3.from_ q hq).2
        have hcf : nf ≤ cf := hf3.cap
        have h1L : 1 ≤ L.length := by have := Hml.out; omega
        have hlen := hf3.len
        have HB3 := Lib.hid hB3
        have hkk : ((k : Int) == 0) = false := by simp; omega
        have Hbq := Lib.hid (hbr.size)
        clear hf3 hB3 hbr hF2 hF3
        go_wp2_with fail
        refine (joinN_any wr _ [⟨Af, nf, cf, fontOf L⟩] 1 _ rfl rfl rfl ((Got.nil wr).put Hf3.out) (by omega) (by rw [join_one]; omega)).mono ?_
        rintro e w4 ⟨Ag, ng, cg, rfl, ho4, hb4⟩
        rw [join_one] at ho4
        have hs4 := hb4.size
        have hng : ng ≤ 696 := by have := ho4.len; omega
        have Hg4 := Lib.hid ho4
        have Hf4 := Lib.hid (Hf3.out.below hb4)
        have HB4 := Lib.hid (HB3.out.trans (hb4.mono HB3.out.size))
        clear ho4 hb4 hkk
        go_wp2_with fail
        refine (parse_font Ag ng cg L w4 Hg4.out.row Hg4.out.cap HFL.out h1L).mono ?_
        rintro e w5 ⟨Ab, nb, cb, ts, rfl, hob, htb, hpu, hb5⟩
        have hnb : nb ≤ 9 := by have h1 := hob.len; have h2 := congrArg List.length hpu; simp at h2; have := HFL.out.few; omega
        have HSO : Hid (∀ W, w5.grownBy W (blockOf Ag) → SO w W L Af nf cf w4.heap.size Ab nb cb ts) := Lib.hid fun W hg => by
          have hgg := fun g e => (Hg4.out.from_ g e)
          have ne : ∀ q, w4.heap.size ≤ q → some q ≠ blockOf Ag := fun q hq e => by have := (hgg q e.symm).2; omega
          refine ⟨row_aside (Hf4.out.below hb5) hg ?_, hob.grown hg (fun q e => ne q (hob.from_ q e).1), fun t ht => ⟨(htb t ht).1.grown hg (fun q e => ne q ((htb t ht).1.from_ q e).1), (htb t ht).2⟩, ?_⟩
          · intro q hq e
            have h1 := (hgg q e.symm).1
            have := HfB.out q hq
            omega
          · exact ((HB4.out.trans (hb5.mono HB4.out.size)).grown hg (Nat.le_trans HB4.out.size hb5.size) (fun q e => by have := (hgg q e).1; have := HB3.out.size; omega))
        have Hg5 := Lib.hid (Hg4.out.below hb5)
        have Hpu := Lib.hid hpu
        clear hob htb hpu hb5 HB3 HB4 Hf3
        go_wp2
        go_loopw [68] (fun i wq => ∃ k : Nat, k ≤ ng ∧ i = .int .i64 k ∧ Inc w5 wr.heap.size Ag ng cg wq) (fun i _ => ng - (intOf i).toNat)
        case atStart => exact ⟨0, Nat.zero_le _, rfl, Inc.start Hg5.out⟩
        case round =>
          obtain ⟨j, hj, rfl, hinc⟩ := hrel
          by_cases hlt : j < ng
          · obtain ⟨g, x, hA, hc, hf, hnext⟩ := hinc.at hlt
            subst hA
            have Hn := Lib.hid hnext
            clear hnext hinc
            go_wp2
            go_roundw
            case rel => exact ⟨j + 1, by omega, by go_num, Hn.out _⟩
            case measure => simp [intOf]; omega
          · have hS := Lib.hid (HSO.out _ hinc.2)
            clear HSO hinc Hg4 Hg5 Hf4 HfB
            go_wp2
            go_loopw [80] (fun i wq => ∃ k : Nat, k ≤ nb ∧ i = .int .i64 k ∧ SO w wq L Af nf cf w4.heap.size Ab nb cb ts) (fun i _ => nb - (intOf i).toNat)
            case atStart => exact ⟨0, Nat.zero_le _, rfl, hS.out⟩
            case round =>
              clear hS
              obtain ⟨i, hi, rfl, hS⟩ := hrel
              have HS := Lib.hid hS
              clear hS
              by_cases hlt : i < nb
              · obtain ⟨t, ht⟩ : ∃ t, ts[i]? = some t := ⟨_, List.getElem?_eq_getElem (by have := HS.out.own.len; omega)⟩
                obtain ⟨g, off, rfl, hg, hc⟩ := (HS.out.own.row encT_len).at encT_len (by omega) ht
                have q0 : wr.cell? ⟨g, off + i * 2, none⟩ = some (.string t.tag) := hc 0 _ rfl
                have q1 : wr.cell? ⟨g, off + i * 2 + 1, none⟩ = some (.slice t.A t.n t.c) := hc 1 _ rfl
                have hA := (Below.refl wr.heap.size wr).alloc (Nat.le_refl _) (.cells #[.string t.tag, .slice t.A t.n t.c] 30)
                have HS6 := Lib.hid (HS.out.below hA)
                clear hc ht HS
                go_wp2_with fail
                refine (find_own _ nb cb ts t.tag _ (HS6.out.own.row encT_len) (by omega) (by omega) (fun t ht => ⟨⟨(HS6.out.tab t ht).1.row, (HS6.out.tab t ht).2.1⟩, (HS6.out.tab t ht).2.2⟩)).mono ?_
                rintro e w7 ⟨Ap, np, cp, bp, ms, rfl, hop, hb7⟩
                have HP : Hid (∀ W, w7.grownBy W (blockOf Ap) → SO w W L Af nf cf w4.heap.size (some ⟨g, off, none⟩) nb cb ts) := Lib.hid fun W hg => HS6.out.below (hb7.grown hg hb7.size (fun q e => (hop.from_ q e).1))
                have hnp : np ≤ 9223372036854775807 := by have h1 := hop.cap; rcases hop.shape with ⟨_, _, h, _⟩ | ⟨_, _, _, _, _, _, _, h, _⟩ <;> (try simp only [maxLen] at h) <;> omega
                have Hop := Lib.hid hop
                clear hop hb7 HS6 hA
                go_wp2
                go_loopw [93] (fun i wv => ∃ k : Nat, k ≤ np ∧ i = .int .i64 k ∧ Inc w7 0 Ap np cp wv) (fun i _ => np - (intOf i).toNat)
                case atStart => exact ⟨0, Nat.zero_le _, rfl, Inc.start (Hop.out.mono (Nat.zero_le _))⟩
                case round =>
                  obtain ⟨j, hj, rfl, hinc⟩ := hrel
                  by_cases hlt : j < np
                  · obtain ⟨g, x, hA, hc, hf, hnext⟩ := hinc.at hlt
                    subst hA
                    have Hn := Lib.hid hnext
                    clear hnext hinc
                    go_wp2
                    go_roundw
                    case rel => exact ⟨j + 1, by omega, by go_num, Hn.out _⟩
                    case measure => simp [intOf]; omega
                  · have hS := Lib.hid (HP.out _ hinc.2)
                    clear HP hinc Hop
                    go_wp2
                    go_roundw
                    case rel => exact ⟨i + 1, by omega, by go_num, hS.out⟩
                    case measure => simp [intOf]; omega
              · go_wp2_with fail
                refine (parse_font Af nf cf L wr HS.out.f hcf HFL.out h1L).mono ?_
                rintro e w8 ⟨Ac, nc, cc, us, rfl, hoc, htc, hpc, hb8⟩
                have hS8 := HS.out.below hb8
                have hSm := sameT_any Ab Ac nb cb nc cc ts us w8 (hS8.own.row encT_len) (hoc.row encT_len) (fun t ht => ⟨(hS8.tab t ht).1.row, (hS8.tab t ht).2.1⟩) (fun t ht => ⟨(htc t ht).1.row, (htc t ht).2.1⟩) (by omega) (by have h1 := hoc.len; have h2 := congrArg List.length hpc; simp at h2; have := HFL.out.few; omega)
                rw [sameL_pure (Hpu.out.trans hpc.symm)] at hSm
                have HSm := Lib.hid hSm
                have HB8 := Lib.hid hS8.bel
                clear hSm hS8 hoc htc hpc hb8 HS
                go_wp2_with fail
                with_reducible refine HSm.out.mono ?_
                rintro e w9 ⟨rfl, hb9⟩
                go_wp2
                go_ret
                exact ⟨rfl, HB8.out.trans (hb9.mono HB8.out.size)⟩

end Go.Proofs.Ytlkidnacfljpkaa
