/- The law SfntBuilds. -/
import Derived.Test.YtlkidnacfljpkaaRBld
import Derived.Test.YtlkidnacfljpkaaNil
import Derived.Test.YtlkidnacfljpkaaGrow
namespace Go.Proofs.Ytlkidnacfljpkaa
open Go.RowKit
set_option linter.unusedVariables false

theorem ownS_some {α : Type} {t : TypeId} {enc : α → List Value} {k : Nat} {w : World} {B : Nat} {A : Option Addr} {n c : Nat} {l : List α} (h : OwnS t enc k w B A n c l) (hn : 0 < n) : ∃ g, A = some ⟨g, 0, none⟩ ∧ B ≤ g := by
  rcases h.shape with ⟨_, _, h0, _⟩ | ⟨g, _, h1, h2, _⟩
  · omega
  · exact ⟨g, h1, h2⟩

/-- The cells of an element of a slice of one's own. -/
theorem own_cell {α : Type} {t : TypeId} {enc : α → List Value} {k : Nat} (hk : ∀ x, (enc x).length = k) (hk0 : 0 < k) {w : World} {B g n c : Nat} {l : List α} (h : OwnS t enc k w B (some ⟨g, 0, none⟩) n c l) {j : Nat} {x : α} (hj : l[j]? = some x) {i : Nat} {u : Value} (hi : (enc x)[i]? = some u) : w.cell? ⟨g, j * k + i, none⟩ = some u := by
  obtain ⟨g', off, e, _, hc⟩ := (h.row hk).at hk hk0 hj
  cases e
  have := hc i u hi
  rwa [Nat.zero_add] at this

theorem any_take {l : List Tab} {k : Nat} {t : Tab} (h : l[k]? = some t) : (l.take (k + 1)).any adjN = ((l.take k).any adjN || adjN t) := by
  rw [List.take_add_one, h]
  simp

theorem below_cell {V W : World} {b o : Nat} {v : Value} (hb : Below V.heap.size V W) (hc : V.cell? ⟨b, o, none⟩ = some v) : W.cell? ⟨b, o, none⟩ = some v :=
  (World.cell?_of_block (w := V) (a := ⟨b, o, none⟩) (hb.block b (World.block_lt_of_cell? V _ hc))).trans hc

/-- The tables that were read: is a head among them that makes the font whole? -/
theorem any_adj {L ts : List Tab} {x : Int} (h : ts.map Tab.pure = L.map (fun t => (t.tag.toList, laidL x t.pure))) (hl : ∀ t ∈ ts, t.zs.length = t.n) : ts.any adjN = (L.map Tab.pure).any fun t => adjB t.1 t.2 := by
  have h1 : ts.any adjN = (ts.map Tab.pure).any fun t => adjB t.1 t.2 := by
    rw [List.any_map]
    rw [Bool.eq_iff_iff, List.any_eq_true, List.any_eq_true]
    constructor
    · rintro ⟨t, ht, h2⟩
      exact ⟨t, ht, by rw [adjN_eq (hl t ht)] at h2; exact h2⟩
    · rintro ⟨t, ht, h2⟩
      exact ⟨t, ht, by rw [adjN_eq (hl t ht)]; exact h2⟩
  rw [h1, h, List.any_map, List.any_map]
  congr 1
  funext t
  exact laid_adj x t.pure

set_option maxRecDepth 100000 in
set_option maxHeartbeats 4000000 in
theorem law_SfntBuilds (A : Option Addr) (n c : Nat) (l : List Tab) (z : Int) (w : World) (hr : RowS encT 2 w A n l) (hok : ∀ t ∈ l, Row w t.A t.n (cellsOf .u8 t.zs) ∧ Bytes t.zs ∧ t.n ≤ 9223372036854775807) (hn : n ≤ 9223372036854775807) (z0 : 0 ≤ z) (z1 : z ≤ 255) :
    Calls Try.prog 3 #[.slice A n c, .int .u8 z] w (True_ w) := by
  obtain ⟨i1, hi1, hz01, hz11, hz21⟩ := info_parts Try.tabinfo
  have HR := Lib.hid hr
  have HO := Lib.hid hok
  clear hr hok
  go_enter Try.func3, Try.ntmps3
  go_wp2_with fail
  refine (awake3_any _).mono ?_
  rintro e w0 ⟨rfl, hb0⟩
  go_wp2_with fail
  refine (few_any A n c l _ (HR.out.below hb0) (fun t ht => ⟨(HO.out t ht).1.below hb0, (HO.out t ht).2⟩) hn).mono ?_
  rintro e w1 ⟨A1, A2, m, c1, c2, L, rfl, hm9, hF0⟩
  have hs0 := hb0.size
  have hF : FewL w w1 A1 A2 m c1 c2 L := ⟨hF0.1.mono hs0, hF0.2.1.mono hs0, fun t ht => ⟨(hF0.2.2.1 t ht).1.mono hs0, (hF0.2.2.1 t ht).2⟩, hF0.2.2.2.1, hb0.trans (hF0.2.2.2.2.mono hs0)⟩
  have HFL := Lib.hid (few_fineL hF hm9)
  clear hF0 hb0 hs0 HR HO
  have HF := Lib.hid hF
  clear hF
  rcases Nat.eq_zero_or_pos m with h0 | h0
  · subst h0
    have HB := Lib.hid HF.out.2.2.2.2
    clear HF HFL
    go_wp2_with fail
    refine (build_none none 0 0 _ (by decide)).mono ?_
    rintro e w2 ⟨rfl, rfl⟩
    go_wp2
    go_ret
    exact ⟨rfl, HB.out⟩
  · have hm0 : ((m : Int) == 0) = false := by simp; omega
    have HO0 : Hid (OwnS 30 encT 2 (w1.alloc (.cells #[] 30)) w1.heap.size (some ⟨w1.heap.size, 0, none⟩) 0 0 []) := ownS_lit w1 w1.heap.size 30 encT 2 encT_len [] #[] rfl 0 rfl (Nat.le_refl _) (by decide)
    have hA0 := (Below.refl w1.heap.size w1).alloc (Nat.le_refl _) (.cells #[] 30)
    have HA0 := Lib.hid hA0
    have HR1 : Hid (RowS encT 2 (w1.alloc (.cells #[] 30)) A1 m L) := (HF.out.1.row encT_len).below hA0
    clear hA0
    go_wp2_with (at_builtin; refine wpList_append_rowS rfl (.tmp 30) (.tmp 31) _ rfl 30 encT 2 encT_len (by omega) encT_one w1.heap.size i1 _ 40 Try.underlying22 hi1 hz01 hz11 rfl hz21 (some ⟨w1.heap.size, 0, none⟩) 0 0 [] rfl HO0.out A1 m c1 L rfl HR1.out (by omega) (by omega) (by simp) ?_; intro A3 c3 w3 ho3 hg3; rw [Nat.zero_add] at ho3 ⊢; rw [List.nil_append] at ho3; have HB3 : Hid (Below w1.heap.size w1 w3) := Lib.hid (HA0.out.grown hg3 (by simp) (fun q e => by cases e; exact Nat.le_refl _)); have HO3 := Lib.hid ho3; obtain ⟨g3, rfl, hg3w⟩ := ownS_some ho3 h0; clear ho3 hg3 HO0 HA0 HR1)
    go_loopw [35] (fun i wr => ∃ (k : Nat) (l' : List Tab), k ≤ m ∧ i = .int .i64 k ∧ l'.Perm L ∧ OwnS 30 encT 2 wr w1.heap.size (some ⟨g3, 0, none⟩) m c3 l' ∧ Below w1.heap.size w1 wr) (fun i _ => m - (intOf i).toNat)
    case atStart => exact ⟨0, L, Nat.zero_le _, rfl, List.Perm.refl _, HO3.out, HB3.out⟩
    case round =>
      clear HO3 HB3
      obtain ⟨k, l', hk, rfl, hp, ho, hb⟩ := hrel
      by_cases hlt : k < m
      · obtain ⟨j, hj⟩ : ∃ j : Nat, ((k : Int) + z) % (m : Int) = (j : Int) := Int.eq_ofNat_of_zero_le (Int.emod_nonneg _ (by omega))
        have hjm : j < m := by have := Int.emod_lt_of_pos ((k : Int) + z) (show (0 : Int) < m by omega); omega
        have hl := ho.len
        obtain ⟨s, hs⟩ : ∃ s, l'[k]? = some s := ⟨_, List.getElem?_eq_getElem (by omega)⟩
        obtain ⟨t, ht⟩ : ∃ t, l'[j]? = some t := ⟨_, List.getElem?_eq_getElem (by omega)⟩
        have q0 : wr.cell? ⟨g3, k * 2, none⟩ = some (.string s.tag) := own_cell encT_len (by omega) ho hs (i := 0) rfl
        have q1 : wr.cell? ⟨g3, k * 2 + 1, none⟩ = some (.slice s.A s.n s.c) := own_cell encT_len (by omega) ho hs (i := 1) rfl
        have p0 : wr.cell? ⟨g3, j * 2, none⟩ = some (.string t.tag) := own_cell encT_len (by omega) ho ht (i := 0) rfl
        have p1 : wr.cell? ⟨g3, j * 2 + 1, none⟩ = some (.slice t.A t.n t.c) := own_cell encT_len (by omega) ho ht (i := 1) rfl
        have hz := ho.thaw
        have r0 : (wr.setCell ⟨g3, k * 2, none⟩ (.string t.tag)).cell? ⟨g3, j * 2, none⟩ = some (.string t.tag) := by
          by_cases e : k = j
          · subst e
            exact World.cell?_setCell_same _ _ _ q0
          · rw [World.cell?_setCell_other _ _ _ _ (by simp <;> omega)]
            exact p0
        have r1 : ((wr.setCell ⟨g3, k * 2, none⟩ (.string t.tag)).setCell ⟨g3, k * 2 + 1, none⟩ (.slice t.A t.n t.c)).cell? ⟨g3, j * 2 + 1, none⟩ = some (.slice t.A t.n t.c) := by
          by_cases e : k = j
          · subst e
            refine World.cell?_setCell_same _ _ _ (u := .slice s.A s.n s.c) ?_
            rw [World.cell?_setCell_other _ _ _ _ (by simp)]
            exact q1
          · rw [World.cell?_setCell_other _ _ _ _ (by simp <;> omega), World.cell?_setCell_other _ _ _ _ (by simp <;> omega)]
            exact p1
        have HP : Hid (((l'.set k t).set j s).Perm L) := by
          have h1 := (List.getElem?_eq_some_iff.1 hs).2
          have h2 := (List.getElem?_eq_some_iff.1 ht).2
          rw [← h1, ← h2]
          exact (List.set_set_perm (by omega) (by omega)).trans hp
        have HW : Hid (OwnS 30 encT 2 (setCells (setCells wr g3 (k * 2) (encT t)) g3 (j * 2) (encT s)) w1.heap.size (some ⟨g3, 0, none⟩) m c3 ((l'.set k t).set j s)) := ownS_store encT_len (ownS_store encT_len ho hlt t) hjm s
        have HB2 : Hid (Below w1.heap.size w1 (setCells (setCells wr g3 (k * 2) (encT t)) g3 (j * 2) (encT s))) := setCells_below hg3w _ _ _ (setCells_below hg3w _ _ _ hb)
        clear hs ht ho hb hp
        go_upto_region 11 with fail
        rw [hj]
        go_region
        all_goals go_wp2
        all_goals go_roundw
        case rel => exact ⟨k + 1, (l'.set k t).set j s, by omega, by go_num, HP.out, HW.out.drew, HB2.out.drew⟩
        case measure => simp [intOf]; omega
      · obtain rfl : k = m := by omega
        have hb2 := hb
        have HF3 := Lib.hid (HF.out.below hb)
        have HOW := Lib.hid ho
        have HPm := Lib.hid hp
        have h1L : 1 ≤ L.length := by have := HF.out.1.len; omega
        have Hm := Lib.hid HF.out.1.len
        clear hb hb2 ho hp HF
        go_wp2_with fail
        refine (build_few (some ⟨g3, 0, none⟩) k c3 l' L wr (HOW.out.row encT_len) (fun t ht => (HF3.out.2.2.1 t (HPm.out.mem_iff.1 ht)).ok) HPm.out HFL.out).mono ?_
        rintro e w4 ⟨Af, nf, cf, rfl, hf4, hb4⟩
        have hnf : nf ≤ 696 := by have := hf4.len; have := HFL.out.len; omega
        have HF4 := Lib.hid (HF3.out.below hb4)
        have Hf4 := Lib.hid hf4
        clear hf4 hb4 HF3 HOW HPm
        go_wp2_with fail
        refine (parse_font Af nf cf L w4 Hf4.out.row Hf4.out.cap HFL.out h1L).mono ?_
        rintro e w5 ⟨Ab, nb, cb, ts, rfl, hob, htb, hpu, hb5⟩
        have hnb : nb = k := by have h1 := hob.len; have h2 := congrArg List.length hpu; have h3 := Hm.out; simp at h2; omega
        subst hnb
        have HF5 := Lib.hid (HF4.out.below hb5)
        have Hf5 := Lib.hid (Hf4.out.below hb5)
        have Hob := Lib.hid hob
        have Htb := Lib.hid htb
        have Hpu := Lib.hid hpu
        clear hob htb hpu hb5 HF4 Hf4
        go_wp2_with fail
        refine (rbuild_any A2 nb c2 L w5 (HF5.out.2.1.row encT_len) (fun t ht => ⟨(HF5.out.2.2.1 t ht).ok, (HF5.out.2.2.1 t ht).1.cap⟩) HFL.out (by omega)).mono ?_
        rintro e w6 ⟨Ag, ng, cg, rfl, hg6, hb6⟩
        have hng : ng ≤ 696 := by have := hg6.len; have := HFL.out.len; omega
        have HF6 := Lib.hid (HF5.out.below hb6)
        have Hf6 := Lib.hid (Hf5.out.below hb6)
        have Hg6 := Lib.hid hg6
        have Hob6 := Lib.hid (Hob.out.below hb6)
        have Htb6 : Hid (∀ t ∈ ts, OwnB w6 w4.heap.size t.A t.n t.c t.zs ∧ Bytes t.zs ∧ t.n ≤ 100000000) := Lib.hid fun t ht => ⟨(Htb.out t ht).1.below hb6, (Htb.out t ht).2⟩
        have hsb : sameB (fontOf L) (fontOf L) = true := by unfold sameB; simp
        clear hg6 hb6 HF5 Hf5 Hob Htb
        go_wp2_with fail
        with_reducible refine (same_any Af Ag nf cf ng cg (fontOf L) (fontOf L) w6 Hf6.out.row Hg6.out.row (by omega) (by omega)).mono ?_
        rintro e w7 ⟨rfl, q, rfl⟩
        rw [hsb]
        clear hsb Hg6
        go_wp2
        go_loopw [13, 85] (fun b i wr => ∃ j : Nat, j ≤ nb ∧ i = .int .i64 j ∧ b = .bool ((ts.take j).any adjN) ∧ Below w6.heap.size w6 wr) (fun _ i _ => nb - (intOf i).toNat)
        case atStart => exact ⟨0, Nat.zero_le _, rfl, rfl, below_drewN (Below.refl _ _) q⟩
        case round =>
          obtain ⟨j, hj, rfl, rfl, hbr⟩ := hrel
          have HF7 := Lib.hid (HF6.out.below hbr)
          have Hob7 := Lib.hid (Hob6.out.below hbr)
          have Htb7 : Hid (∀ t ∈ ts, OwnB wr w4.heap.size t.A t.n t.c t.zs ∧ Bytes t.zs ∧ t.n ≤ 100000000) := Lib.hid fun t ht => ⟨(Htb6.out t ht).1.below hbr, (Htb6.out t ht).2⟩
          have htl := Hob6.out.len
          have hml := Hm.out
          by_cases hlt : j < nb
          · obtain ⟨t, ht⟩ : ∃ t, ts[j]? = some t := ⟨_, List.getElem?_eq_getElem (by omega)⟩
            obtain ⟨s, hs⟩ : ∃ s, L[j]? = some s := ⟨_, List.getElem?_eq_getElem (by omega)⟩
            have htt : t.tag.toList = s.tag.toList ∧ t.zs = laidL (wholeX (L.map Tab.pure)) s.pure := by
              have h := congrArg (fun l => l[j]?) Hpu.out
              simp only [List.getElem?_map, ht, hs, Option.map_some, Option.some.injEq] at h
              exact ⟨congrArg Prod.fst h, congrArg Prod.snd h⟩
            obtain ⟨g, off, rfl, hg, hc⟩ := (Hob7.out.row encT_len).at encT_len (by omega) ht
            obtain ⟨g', off', rfl, hg', hc'⟩ := (HF7.out.2.1.row encT_len).at encT_len (by omega) hs
            have q0 : wr.cell? ⟨g, off + j * 2, none⟩ = some (.string t.tag) := hc 0 _ rfl
            have q1 : wr.cell? ⟨g, off + j * 2 + 1, none⟩ = some (.slice t.A t.n t.c) := hc 1 _ rfl
            have p0 : wr.cell? ⟨g', off' + j * 2, none⟩ = some (.string s.tag) := hc' 0 _ rfl
            have p1 : wr.cell? ⟨g', off' + j * 2 + 1, none⟩ = some (.slice s.A s.n s.c) := hc' 1 _ rfl
            have hT := Htb7.out t (List.mem_of_getElem? ht)
            have hS := HF7.out.2.2.1 s (List.mem_of_getElem? hs)
            have hst : stillL t.tag.toList t.zs = stillL s.tag.toList s.zs := by
              rw [htt.1, htt.2]
              exact laid_still _ s.pure
            have Hany := Lib.hid (any_take ht)
            have e1 : (t.tag.toList == s.tag.toList) = true := by rw [htt.1]; simp
            have HSl : Hid ((stillL s.tag.toList s.zs).length ≤ 100) := by show _ ≤ _; rw [stillL_len, hS.1.len]; have := hS.2.2.1; omega
            have HZ1 : Hid (∀ W, Below wr.heap.size wr W → Calls Try.prog 12 #[.agg #[.string t.tag, .slice t.A t.n t.c]] W (RetB W (stillL s.tag.toList s.zs))) := Lib.hid fun W hW => by
              have h := rzeroed_any t W ⟨hT.1.row.below hW, hT.2.1, hT.2.2⟩ hT.1.cap
              rwa [hst] at h
            have HZ2 : Hid (∀ W, Below wr.heap.size wr W → Calls Try.prog 12 #[.agg #[.string s.tag, .slice s.A s.n s.c]] W (RetB W (stillL s.tag.toList s.zs))) := Lib.hid fun W hW => rzeroed_any s W (hS.ok.below hW) hS.1.cap
            have hss : sameB (stillL s.tag.toList s.zs) (stillL s.tag.toList s.zs) = true := by unfold sameB; simp
            have HSS := Lib.hid hss
            clear hc hc' ht hs htt hT hS hst hss
            have hk0 := heap_alloc_new wr (.cells #[.string t.tag, .slice t.A t.n t.c] 30)
            have hV1 : (wr.alloc (.cells #[.string t.tag, .slice t.A t.n t.c] 30)).heap.size = wr.heap.size + 1 := by simp
            have hA0 := (Below.refl wr.heap.size wr).alloc (Nat.le_refl _) (.cells #[.string t.tag, .slice t.A t.n t.c] 30)
            have hA1 := (Below.refl (wr.alloc (.cells #[.string t.tag, .slice t.A t.n t.c] 30)).heap.size (wr.alloc (.cells #[.string t.tag, .slice t.A t.n t.c] 30))).alloc (Nat.le_refl _) (.cells #[.string t.tag, .slice t.A t.n t.c] 36)
            have hk1 := (hA1.block wr.heap.size (by omega)).trans hk0
            have hk2 := heap_alloc_new (wr.alloc (.cells #[.string t.tag, .slice t.A t.n t.c] 30)) (.cells #[.string t.tag, .slice t.A t.n t.c] 36)
            rw [hV1] at hk2
            have hAA := hA0.trans (hA1.mono hA0.size)
            have HAA := Lib.hid hAA
            have p0' := below_cell hAA p0
            have p1' := below_cell hAA p1
            clear hk0 hV1 hA0 hA1 hAA
            obtain ⟨tg, tA, tn, tc, tz⟩ := t
            obtain ⟨sg, sA, sn, sc, sz⟩ := s
            simp only at q0 q1 p0 p1 p0' p1' e1 HSl HZ1 HZ2 HSS hk1 hk2 HAA
            generalize stillL sg.toList sz = S at *
            go_upto_region 22 with fail
            generalize (wr.alloc _).alloc _ = V at *
            have HC : Hid (∀ W, Below V.heap.size V W → W.cell? ⟨wr.heap.size, 0, none⟩ = some (.string tg) ∧ W.cell? ⟨wr.heap.size + 1, 0, none⟩ = some (.string tg) ∧ W.cell? ⟨wr.heap.size + 1, 1, none⟩ = some (.slice tA tn tc) ∧ W.cell? ⟨g', off' + j * 2, none⟩ = some (.string sg) ∧ W.cell? ⟨g', off' + j * 2 + 1, none⟩ = some (.slice sA sn sc)) := Lib.hid fun W hW =>
              ⟨below_cell hW (cell_of_row V _ 0 _ _ _ hk1), below_cell hW (cell_of_row V _ 0 _ _ _ hk2), below_cell hW (cell_of_row V _ 1 _ _ _ hk2), below_cell hW p0', below_cell hW p1'⟩
            have HC1 : Hid (∀ W, Below V.heap.size V W → W.cell? ⟨wr.heap.size, 1, none⟩ = some (.slice tA tn tc)) := Lib.hid fun W hW => below_cell hW (cell_of_row V _ 1 _ _ _ hk1)
            have hg9 := (G9.start V).drew
            clear q0 q1 p0 p1 p0' p1' hk1 hk2
            go_cut [85, 113] from 85 to 126 (fun i b wx => i = .int .i64 j ∧ b = .bool false ∧ Below V.heap.size V wx)
            case first =>
              go_region_held3 (fun w' => w'.cell? ⟨wr.heap.size, 0, none⟩ = some (.string tg) ∧ w'.cell? ⟨wr.heap.size + 1, 0, none⟩ = some (.string tg) ∧ w'.cell? ⟨wr.heap.size + 1, 1, none⟩ = some (.slice tA tn tc) ∧ w'.cell? ⟨g', off' + j * 2, none⟩ = some (.string sg) ∧ w'.cell? ⟨g', off' + j * 2 + 1, none⟩ = some (.slice sA sn sc))
                (first | exact HC.out _ hg9.bel | exact HC.out _ HJ.out)
                (first
                  | (go_at_call 12; (first | (with_reducible refine (HZ1.out _ (HAA.out.trans (hg9.bel.mono HAA.out.size))).mono ?_) | (with_reducible refine (HZ2.out _ (HAA.out.trans (hg9.bel.mono HAA.out.size))).mono ?_)); rintro e w8 ⟨A8, n8, c8, rfl, o8, hb8⟩; have h60 : n8 ≤ 100 := (by have h1 := o8.len; have h2 := HSl.out; omega); replace hg9 := hg9.call hb8 o8; clear hb8 o8)
                  | (go_at_call 10; (with_reducible refine (same_any _ _ _ _ _ _ S S _ (hg9.row ?_) (hg9.row ?_) ?_ ?_).mono ?_); (iterate 2 (focus (simp; done))); (iterate 2 (focus omega)); rintro e w10 ⟨rfl, q9, rfl⟩; rw [HSS.out]; have HJ := Lib.hid (below_drewN hg9.bel q9)))
              all_goals go_wp2_with fail
              all_goals go_meet
              all_goals exact ⟨rfl, rfl, HJ.out⟩
            case rest =>
              obtain ⟨rfl, rfl, hbx⟩ := hcut
              have HBx := Lib.hid (hbr.trans ((HAA.out.trans (hbx.mono HAA.out.size)).mono hbr.size))
              obtain ⟨c0, _⟩ := HC.out wc hbx
              have c1 := HC1.out wc hbx
              have HAd : Hid (adjN ⟨tg, tA, tn, tc, tz⟩ = ((tg.toList == [104, 101, 97, 100]) && decide (12 ≤ (tn : Int)))) := by
                show _ = _
                unfold adjN headL
                rw [Bool.eq_iff_iff]
                simp only [Bool.and_eq_true, decide_eq_true_eq, beq_iff_eq]
                exact and_congr Iff.rfl (by omega)
              clear hbx HC HC1 HZ1 HZ2 HAA hbr hg9 HSl HSS
              cases hw : (ts.take j).any adjN with
              | true =>
                go_wp2
                go_roundw
                case rel => exact ⟨j + 1, by omega, by go_num, by rw [Hany.out, hw]; rfl, HBx.out⟩
                case measure => simp [intOf]; omega
              | false =>
                cases e3 : (tg.toList == [104, 101, 97, 100]) with
                | false =>
                  go_wp2
                  go_roundw
                  case rel => exact ⟨j + 1, by omega, by go_num, by rw [Hany.out, hw, HAd.out, e3]; rfl, HBx.out⟩
                  case measure => simp [intOf]; omega
                | true =>
                  cases e4 : decide (12 ≤ (tn : Int)) with
                  | false =>
                    go_wp2
                    go_roundw
                    case rel => exact ⟨j + 1, by omega, by go_num, by rw [Hany.out, hw, HAd.out, e3, e4]; rfl, HBx.out⟩
                    case measure => simp [intOf]; omega
                  | true =>
                    go_wp2
                    go_roundw
                    case rel => exact ⟨j + 1, by omega, by go_num, by rw [Hany.out, hw, HAd.out, e3, e4]; rfl, HBx.out⟩
                    case measure => simp [intOf]; omega
          · obtain rfl : j = nb := by omega
            have htk : ts.take j = ts := List.take_of_length_le (by omega)
            have hx : ts.any adjN = (L.map Tab.pure).any fun t => adjB t.1 t.2 := any_adj Hpu.out (fun t ht => (Htb7.out t ht).1.len)
            rw [htk]
            have h1L' : 1 ≤ L.length := by omega
            have hfo := fontOf_some (L := L) h1L'
            have HFT := Lib.hid (HFL.out.fine h1L')
            have hf8 := Hf6.out.below hbr
            have hm4 : (nf : Int) % 4 = 0 := by
              have h1 := hf8.len
              rw [hfo, fontL_len HFT.out] at h1
              have h2 := (placeT_mod (L.map Tab.pure) (L.map Tab.pure).length).1
              omega
            have HB8 := HF7.out.2.2.2.2
            have Hf8 := Lib.hid hf8
            have HBB := Lib.hid HB8
            cases hw : ts.any adjN with
            | false =>
              clear Hf8 hf8 HB8 HF7 Hob7 Htb7 hbr hx htk
              go_wp2
              go_ret
              exact ⟨rfl, HBB.out⟩
            | true =>
              have hwh : rs (fontOf L) % 4294967296 = 2981146554 := by rw [hfo]; exact font_whole HFT.out (by rw [← hx, hw])
              have HWH := Lib.hid hwh
              have HBy := Lib.hid HFL.out.bytes
              clear hf8 HB8 HF7 Hob7 Htb7 hx htk hwh hfo
              go_wp2_with fail
              with_reducible refine (sum_rs_any Af nf cf (fontOf L) wr Hf8.out.row HBy.out (by omega)).mono ?_
              rintro e w9 ⟨rfl, hb9⟩
              rw [HWH.out]
              have HB9 := Lib.hid (HBB.out.trans (hb9.mono HBB.out.size))
              clear hb9
              go_wp2
              go_ret
              exact ⟨rfl, HB9.out⟩

end Go.Proofs.Ytlkidnacfljpkaa
