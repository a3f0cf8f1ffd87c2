/- The law SfntRefuses: the walk. -/
import Derived.Test.YtjliaiohhkfnlaaRefuses
import Derived.Deep.RegionWith
import Derived.Deep.DeepCutAuto
import Derived.Deep.RegionHeld3
import Derived.Deep.QuietTactic
import Derived.BigQuiet
namespace Go.Proofs.Ytjliaiohhkfnlaa
open Go.RowKit Go.Shelf
set_option linter.unusedVariables false

/-- What stands behind the loop. -/
def Many (w : World) (n : Nat) (s9 : Value) (wx : World) : Prop := ∃ A c, s9 = .slice A n c ∧ OwnS 30 encT 2 wx w.heap.size A n c ((List.range n).map manyT)

theorem drewN_below (w : World) (q : Nat) : Below w.heap.size w (w.drewN q) := below_drewN (Below.refl _ _) q
set_option maxRecDepth 100000 in
set_option maxHeartbeats 8000000 in
theorem law_SfntRefuses (A : Option Addr) (n c : Nat) (l : List Tab) (tag : ByteArray) (z : Int) (w : World) (hr : RowS encT 2 w A n l) (hok : ∀ t ∈ l, Row w t.A t.n (cellsOf .u8 t.zs) ∧ Bytes t.zs ∧ t.n ≤ 9223372036854775807) (hn : n ≤ 9223372036854775807) (hts : tag.size ≤ 9223372036854775807) (z0 : 0 ≤ z) (z1 : z ≤ 255) :
    Calls Try.prog 5 #[.slice A n c, .string tag, .int .u8 z] w (True_ w) := by
  obtain ⟨i1, hi1, hz01, hz11, hz21⟩ := info_parts Try.tabinfo
  have HR := Lib.hid hr
  have HO := Lib.hid hok
  clear hr hok
  go_enter Try.func5, Try.ntmps5
  go_wp2_with fail
  refine (awake3_any _).mono ?_
  rintro e w0 ⟨rfl, hb0⟩
  go_wp2_with fail
  refine (few_any A n c l _ (HR.out.below hb0) (fun t ht => ⟨(HO.out t ht).1.below hb0, (HO.out t ht).2⟩) hn).mono ?_
  rintro e w1 ⟨A1, A2, m, c1, c2, L, rfl, hm9, hF0⟩
  have hs0 := hb0.size
  have hF : FewL w w1 A1 A2 m c1 c2 L := ⟨hF0.1.mono hs0, hF0.2.1.mono hs0, fun t ht => ⟨(hF0.2.2.1 t ht).1.mono hs0, (hF0.2.2.1 t ht).2⟩, hF0.2.2.2.1, hb0.trans (hF0.2.2.2.2.mono hs0)⟩
  clear hF0 hb0 hs0 HR HO
  go_wp2_with fail
  refine (text_any tag _ hts).mono ?_
  rintro e w' ⟨tg, rfl, htg, rfl⟩
  obtain ⟨nn, hnn⟩ : ∃ nn : Nat, z % 80 = (nn : Int) := Int.eq_ofNat_of_zero_le (by omega)
  have hnn80 : nn < 80 := by omega
  have HNN := Lib.hid hnn
  clear hnn
  go_wp2
  rw [HNN.out]
  go_loopw [9, 27] (fun v i wr => ∃ (k : Nat) (A3 : Option Addr) (c3 : Nat), k ≤ nn ∧ i = .int .i64 k ∧ v = .slice A3 k c3 ∧ OwnS 30 encT 2 wr w1.heap.size A3 k c3 ((List.range k).map manyT) ∧ Below w1.heap.size w1 wr) (fun _ i _ => nn - (intOf i).toNat)
  case atStart => exact ⟨0, none, 0, Nat.zero_le _, rfl, rfl, OwnS.nil _ _ _ _ _, Below.refl _ _⟩
  case round =>
    obtain ⟨k, A3, c3, hk, rfl, rfl, ho3, hb3⟩ := hrel
    by_cases hlt : k < nn
    · have hcv := conv_str (some ⟨wr.heap.size, 0, none⟩) 4 4 [97, 98, (k : Int), 100] (wr.alloc (.cells (cellsOf .u8 [97, 98, (k : Int), 100]).toArray 5)) (row_lit wr .u8 5 [97, 98, (k : Int), 100] 4 rfl)
      simp only [cellsOf, List.map_cons, List.map_nil] at hcv
      have hsz := hb3.size
      have hW := hb3.alloc hsz (.cells #[.int .u8 97, .int .u8 98, .int .u8 (k : Int), .int .u8 100] 5)
      have ho3' := ho3.alloc (.cells #[.int .u8 97, .int .u8 98, .int .u8 (k : Int), .int .u8 100] 5)
      have hsz' : (wr.alloc (.cells #[.int .u8 97, .int .u8 98, .int .u8 (k : Int), .int .u8 100] 5)).heap.size = wr.heap.size + 1 := by simp
      have hsn : Hid ((List.range k).map manyT ++ [manyT k] = (List.range (k + 1)).map manyT) := by show _ = _; rw [List.range_succ]; simp
      have HW := Lib.hid hW
      have HO3 := Lib.hid ho3'
      clear hW ho3' ho3 hb3
      have hrv := rowS_vals encT_len (wr.alloc (.cells #[.int .u8 97, .int .u8 98, .int .u8 (k : Int), .int .u8 100] 5)) 30 [manyT k] _ rfl 1 rfl
      rw [hsz'] at hrv
      have HRV := Lib.hid hrv
      clear hsz' hrv
      go_wp2_with (at_builtin; refine wpList_append_rowS rfl (.tmp 30) (.tmp 36) _ rfl 30 encT 2 encT_len (by omega) encT_one w1.heap.size i1 _ 40 Try.underlying22 hi1 hz01 hz11 rfl hz21 A3 k c3 _ rfl (HO3.out.alloc _) (some ⟨wr.heap.size + 1, 0, none⟩) 1 1 [manyT k] rfl HRV.out (by omega) (by omega) (by simp; omega) ?_; intro A4 c4 w4 ho4 hg4)
      rw [hsn.out] at ho4
      have hb4 := (HW.out.alloc (by simp; omega) _).grown hg4 (by simp; omega) (fun q e => (HO3.out.from_ q e).1)
      clear hg4 hcv
      go_roundw
      case rel => exact ⟨k + 1, A4, c4, by omega, by go_num, rfl, ho4, hb4⟩
      case measure => simp [intOf]; omega
    · obtain rfl : k = nn := by omega
      have hF3 := Lib.hid (hF.below hb3)
      have hK3 := Lib.hid ho3
      have hs3 := hb3.size
      clear hF hb3 ho3
      have HFI : Hid (Calls Try.prog 19 #[.slice A1 m c1, .string tg] wr (RetFind wr L tg.toList)) := by
        show Calls _ _ _ _ _
        rcases Nat.eq_zero_or_pos m with h0 | h0
        · subst h0
          have hL : L = [] := List.length_eq_zero_iff.1 hF3.out.1.len
          subst hL
          exact (find_empty A1 c1 tg wr).mono (fun e w' ⟨h1, h2⟩ => .inl ⟨rfl, h1, h2⟩)
        · exact find_any A1 m c1 L tg wr (hF3.out.1.row encT_len) h0 (by omega) (fun t ht => ⟨⟨(hF3.out.2.2.1 t ht).1.row, (hF3.out.2.2.1 t ht).2.1⟩, by have := (hF3.out.2.2.1 t ht).2.2.1; omega⟩)
      go_wp2_with fail
      refine HFI.out.mono ?_
      clear HFI
      rintro e w4 hfd
      obtain ⟨pA, pn, pc, pb, rfl, hb4, hpb⟩ : ∃ pA pn pc pb, e = .returned (.tuple #[.slice pA pn pc, .bool pb]) ∧ Below wr.heap.size wr w4 ∧ Hid ((findIx tg.toList L = none ∧ pb = false ∧ pn = 0) ∨ ∃ i t, pb = true ∧ findIx tg.toList L = some i ∧ L[i]? = some t ∧ OwnB w4 wr.heap.size pA pn pc t.zs) := by
        rcases hfd with ⟨h1, h2, h3⟩ | ⟨i, t, A', n', c', h1, h2, h3, h4, h5⟩
        · exact ⟨_, _, _, _, h2, h3, .inl ⟨h1, rfl, rfl⟩⟩
        · exact ⟨_, _, _, _, h3, h5, .inr ⟨i, t, rfl, h1, h2, h4⟩⟩
      clear hfd
      have hF4 := Lib.hid (hF3.out.below hb4)
      have hK4 := Lib.hid (hK3.out.below hb4)
      clear hF3 hK3
      go_wp2_with fail
      refine (rfind_any A2 m c2 L tg _ (hF4.out.2.1.row encT_len) (by omega)).mono ?_
      rintro e w5 ⟨rfl, hb5⟩
      have hF5 := Lib.hid (hF4.out.below hb5)
      have hK5 := Lib.hid (hK4.out.below hb5)
      have hs5 := hb5.size
      have hs4 := hb4.size
      clear hF4 hK4 hb4
      obtain ⟨ki, hki⟩ : ∃ ki, ixI (findIx tg.toList L) = ki := ⟨_, rfl⟩
      rw [hki]
      have HKI := Lib.hid hki
      clear hki
      go_upto_region 13 with fail
      go_cut [73] (fun s wx => s = .bool false ∧ FewL w wx A1 A2 m c1 c2 L ∧ OwnS 30 encT 2 wx w1.heap.size A3 k c3 ((List.range k).map manyT) ∧ w1.heap.size ≤ wx.heap.size)
      case first =>
        rcases hpb.out with ⟨hi, rfl, rfl⟩ | ⟨i, t, rfl, hi, hti, hop⟩
        · obtain rfl : -1 = ki := by rw [← HKI.out, hi]; rfl
          go_wp2_with fail
          go_meet
          exact ⟨rfl, hF5.out, hK5.out, by omega⟩
        · obtain rfl : (i : Int) = ki := by rw [← HKI.out, hi]; rfl
          have hop5 := Lib.hid (hop.below hb5)
          have him : i < m := by have := (List.getElem?_eq_some_iff.1 hti).1; rw [hF5.out.1.len] at this; exact this
          obtain ⟨g', off', e', _, hc⟩ := (hF5.out.2.1.row encT_len).at encT_len (by omega) hti
          subst e'
          have q1 : w5.cell? ⟨g', off' + i * 2 + 1, none⟩ = some (.slice t.A t.n t.c) := hc 1 _ rfl
          have HT := Lib.hid (hF5.out.2.2.1 t (List.mem_of_getElem? hti))
          have hpn : pn ≤ 60 := by have := hop.len; have := HT.out.1.len; have := HT.out.2.2.1; omega
          have htn : t.n ≤ 60 := HT.out.2.2.1
          clear hc hti hop hb5 hi HKI
          go_wp2_with fail
          refine (same_any _ _ _ _ _ _ t.zs t.zs _ hop5.out.row HT.out.1.row (by omega) (by omega)).mono ?_
          rintro e w6 ⟨rfl, q, rfl⟩
          have hsb : sameB t.zs t.zs = true := by unfold sameB; simp
          go_wp2_with fail
          go_meet
          exact ⟨rfl, hF5.out.below (drewN_below _ q), hK5.out.drewN q, by show _ ≤ w5.heap.size; omega⟩
      case rest =>
        obtain ⟨rfl, hF6, hK6, hs6⟩ := hcut
        clear hF5 hK5 hpb hb5 HKI
        have HF := Lib.hid hF6
        have HK := Lib.hid hK6
        clear hF6 hK6
        go_upto_region 15 with fail
        go_cut [89] (fun s wx => s = .bool false ∧ FewL w wx A1 A2 m c1 c2 L ∧ OwnS 30 encT 2 wx w1.heap.size A3 k c3 ((List.range k).map manyT) ∧ w1.heap.size ≤ wx.heap.size)
        case first =>
          rcases Nat.eq_zero_or_pos m with h0 | h0
          · subst h0
            go_quiet (fail)
            go_wp2
            go_meet
            exact ⟨rfl, HF.out.below (drewN_below _ _), HK.out, hs6⟩
          · obtain ⟨g1, off1, e1, hg1, _⟩ := (HF.out.1.row encT_len).2.2 (by omega)
            subst e1
            obtain ⟨t0, ht0⟩ : ∃ t0, L[0]? = some t0 := ⟨_, List.getElem?_eq_getElem (by rw [HF.out.1.len]; exact h0)⟩
            have HT0 := Lib.hid ht0
            clear ht0
            go_wp2_with fail
            obtain ⟨q0, q1⟩ : wc.cell? ⟨g1, off1, none⟩ = some (.string t0.tag) ∧ wc.cell? ⟨g1, off1 + 1, none⟩ = some (.slice t0.A t0.n t0.c) := by
              obtain ⟨g', off', e', _, hc⟩ := (HF.out.1.row encT_len).at encT_len (by omega) HT0.out
              simp only [Option.some.injEq, Addr.mk.injEq, and_true] at e'
              obtain ⟨rfl, rfl⟩ := e'
              have a0 := hc 0 _ rfl
              have a1 := hc 1 _ rfl
              simp only [Nat.zero_mul, Nat.add_zero] at a0 a1
              exact ⟨a0, a1⟩
            have ha1 := Lib.hid (HF.out.1.row encT_len)
            have qd0 : wc.drew.cell? ⟨g1, off1, none⟩ = some (.string t0.tag) := q0
            have qd1 : wc.drew.cell? ⟨g1, off1 + 1, none⟩ = some (.slice t0.A t0.n t0.c) := q1
            have HQ0 := Lib.hid q0
            have HQ1 := Lib.hid q1
            have kb : ∀ W, Below wc.heap.size wc W → W.cell? ⟨g1, off1, none⟩ = some (.string t0.tag) ∧ W.cell? ⟨g1, off1 + 1, none⟩ = some (.slice t0.A t0.n t0.c) := fun W hW => ⟨(hW.cell (p := ⟨g1, off1, none⟩) hg1).trans HQ0.out, (hW.cell (p := ⟨g1, off1 + 1, none⟩) hg1).trans HQ1.out⟩
            have KB := Lib.hid kb
            have HBA : Hid (∀ o, Below wc.heap.size wc (wc.drew.alloc o)) := Lib.hid fun o => ((Below.refl _ _).drew).alloc (Nat.le_refl _) o
            have HBB : Hid (∀ o o', Below wc.heap.size wc ((wc.drew.alloc o).alloc o')) := Lib.hid fun o o' => (HBA.out o).alloc (by simp) o'
            have HO3 : Hid (∀ o, OwnS 30 encT 2 ((wc.drew.alloc o).alloc (.cells #[] 30)) wc.heap.size (some ⟨wc.heap.size + 1, 0, none⟩) 0 0 []) := Lib.hid fun o => by
              have h := ownS_lit (wc.drew.alloc o) wc.heap.size 30 encT 2 encT_len [] #[] rfl 0 rfl (by simp) (by decide)
              rwa [show (wc.drew.alloc o).heap.size = wc.heap.size + 1 by simp] at h
            have HR2 : Hid (∀ w', ((wc.drew.alloc (.cells #[] 30)).alloc (.cells #[.string t0.tag, .slice t0.A t0.n t0.c] 30)).grownBy w' (some wc.heap.size) → RowS encT 2 w' (some ⟨wc.heap.size + 1, 0, none⟩) 1 [t0]) := Lib.hid fun w' hg => by
              have h := rowS_vals encT_len (wc.drew.alloc (.cells #[] 30)) 30 [t0] #[.string t0.tag, .slice t0.A t0.n t0.c] rfl 1 rfl
              rw [show (wc.drew.alloc (.cells #[] 30)).heap.size = wc.heap.size + 1 by simp] at h
              exact h.grown hg (fun g e => by cases e; simp)
            have HR3 : Hid (∀ w', ((wc.drew.alloc (.cells #[.string t0.tag, .slice t0.A t0.n t0.c] 30)).alloc (.cells #[] 30)).grownBy w' (some (wc.heap.size + 1)) → RowS encT 2 w' (some ⟨wc.heap.size, 0, none⟩) 1 [t0]) := Lib.hid fun w' hg => by
              have h := rowS_vals encT_len wc.drew 30 [t0] #[.string t0.tag, .slice t0.A t0.n t0.c] rfl 1 rfl
              exact (h.below ((Below.refl _ _).alloc (Nat.le_refl _) _)).grown hg (fun g e => by cases e; simp)
            clear kb
            go_region_held3 (fun w' => w'.cell? ⟨g1, off1, none⟩ = some (.string t0.tag) ∧ w'.cell? ⟨g1, off1 + 1, none⟩ = some (.slice t0.A t0.n t0.c))
              (first | exact ⟨qd0, qd1⟩ | exact KB.out _ (HBA.out _) | exact KB.out _ (HBB.out _ _) | exact KB.out _ hb5 | exact KB.out _ (hb5.alloc hb5.size _) | exact KB.out _ hb6 | exact KB.out _ hb7)
              (first
                | (refine step_append_wanted rfl (.tmp 78) (.tmp 79) _ rfl 30 encT 2 encT_len (by omega) encT_one wc.heap.size i1 _ 40 Try.underlying22 hi1 hz01 hz11 rfl hz21 _ 0 0 [] rfl (by first | exact ownS_lit wc.drew wc.heap.size 30 encT 2 encT_len [] #[] rfl 0 rfl (Nat.le_refl _) (by decide) | exact (ownS_lit wc.drew wc.heap.size 30 encT 2 encT_len [] #[] rfl 0 rfl (Nat.le_refl _) (by decide)).alloc _ | exact HO3.out _) (some ⟨g1, off1, none⟩) m c1 L rfl (by first | exact ha1.out.below (HBA.out _) | exact ha1.out.below (HBB.out _ _)) (by omega) (by omega) (by first | (simp; done) | (simp; omega)) ?_; intro A5 c5 w5x ho5 hg5; simp only [Nat.zero_add, List.nil_append] at ho5 ⊢; have hb5 : Below wc.heap.size wc w5x := by first | exact (HBA.out _).grown hg5 (by first | (simp; done) | (simp; omega)) (fun q e => by cases e; first | (simp; done) | (simp; omega)) | exact (HBB.out _ _).grown hg5 (by first | (simp; done) | (simp; omega)) (fun q e => by cases e; first | (simp; done) | (simp; omega)))
                | (refine step_append_wanted rfl (.tmp 80) (.tmp 84) _ rfl 30 encT 2 encT_len (by omega) encT_one wc.heap.size i1 _ 40 Try.underlying22 hi1 hz01 hz11 rfl hz21 A5 m c5 L rfl (by first | exact ho5.alloc _ | exact ho5) _ 1 1 [t0] rfl (by first | exact rowS_vals encT_len w5x 30 [t0] _ rfl 1 rfl | exact HR2.out _ hg5 | exact HR3.out _ hg5) (by omega) (by omega) (by have := hb5.size; simp; omega) ?_; intro A6 c6 w6x ho6 hg6; have hb6 : Below wc.heap.size wc w6x := by first | exact (hb5.alloc hb5.size _).grown hg6 (by have := hb5.size; simp; omega) (fun q e => (ho5.from_ q e).1) | exact hb5.grown hg6 hb5.size (fun q e => (ho5.from_ q e).1))
                | (go_at_call 9; refine (build_not A6 (m + 1) c6 (L ++ [t0]) _ (ho6.row encT_len) (fun t ht => ((HF.out.2.2.1 t (by rcases List.mem_append.1 ht with h | h; exact h; simp at h; subst h; exact List.mem_of_getElem? HT0.out)).below hb6).ok) (by omega) (by omega) (fun l' hp hs => again_build HT0.out hp hs)).mono ?_; rintro e w7x ⟨A7x, c7x, rfl, hb7x⟩; have hb7 := hb6.trans (hb7x.mono hb6.size); clear hb7x))
            all_goals go_wp2_with fail
            all_goals go_meet
            all_goals exact ⟨rfl, HF.out.below hb7, HK.out.below hb7, by have := hb7.size; omega⟩
        case rest =>
          obtain ⟨rfl, hF7, hK7, hs7⟩ := hcut
          clear HF HK
          have HF := Lib.hid hF7
          have HK := Lib.hid hK7
          clear hF7 hK7
          have ho0 := Lib.hid (ownS_lit wc wc.heap.size 30 encT 2 encT_len [] #[] rfl 0 rfl (Nat.le_refl _) (by decide))
          have HB0 : Hid (Below wc.heap.size wc (wc.alloc (.cells #[] 30))) := Lib.hid ((Below.refl _ _).alloc (Nat.le_refl _) _)
          go_wp2_with (at_builtin; first
            | (refine wpList_append_rowS rfl (.tmp 90) (.tmp 91) _ rfl 30 encT 2 encT_len (by omega) encT_one wc.heap.size i1 _ 40 Try.underlying22 hi1 hz01 hz11 rfl hz21 (some ⟨wc.heap.size, 0, none⟩) 0 0 [] rfl ho0.out A1 m c1 L rfl ((HF.out.1.row encT_len).below HB0.out) (by omega) (by omega) (by simp) ?_; intro A7 c7 w7 ho7 hg7; rw [Nat.zero_add] at ho7 ⊢; rw [List.nil_append] at ho7; have HB7 : Hid (Below wc.heap.size wc w7) := Lib.hid (HB0.out.grown hg7 (by simp) (fun q e => by cases e; exact Nat.le_refl _)); have HO7 := Lib.hid ho7; have hs8 := HB7.out.size; clear hg7 ho7)
            | (refine wpList_append_rowS rfl (.tmp 92) (.tmp 95) _ rfl 30 encT 2 encT_len (by omega) encT_one wc.heap.size i1 _ 40 Try.underlying22 hi1 hz01 hz11 rfl hz21 A7 m c7 L rfl (HO7.out.alloc _) (some ⟨w7.heap.size, 0, none⟩) 1 1 [(⟨tg, none, 0, 0, []⟩ : Tab)] rfl (rowS_vals encT_len w7 30 [(⟨tg, none, 0, 0, []⟩ : Tab)] _ rfl 1 rfl) (by omega) (by omega) (by simp; omega) ?_; intro A8 c8 w8 ho8 hg8))
          have hB8 : Below wc.heap.size wc w8 := (HB7.out.alloc hs8 _).grown hg8 (by simp; omega) (fun q e => (HO7.out.from_ q e).1)
          have HO8 := Lib.hid ho8
          have hF8 := Lib.hid (HF.out.below hB8)
          have hK8 := Lib.hid (HK.out.below hB8)
          clear hg8 ho8 hB8 HO7 HB7 HF HK ho0 HB0
          have HBO : Hid (∀ W, Below w8.heap.size w8 W → tg.size ≠ 4 → Calls Try.prog 9 #[.slice A8 (m + 1) c8] W (fun e w' => ∃ (A' : Option Addr) (c' : Nat), e = .returned (.slice A' 0 c') ∧ Below W.heap.size W w')) := Lib.hid fun W hW h4 =>
            build_not A8 (m + 1) c8 _ W ((HO8.out.row encT_len).below hW) (fun t ht => by
              rcases List.mem_append.1 ht with h | h
              · exact ((hF8.out.2.2.1 t h).below hW).ok
              · simp at h
                subst h
                exact ⟨Row.empty _ _, (fun x hx => by cases hx), Nat.zero_le _⟩) (by omega) (by omega) (fun l' hp _ => odd_build l' ⟨tg, none, 0, 0, []⟩ (hp.mem_iff.2 (by simp)) h4)
          have HS1 : Hid (∀ W, Below w8.heap.size w8 W → Calls Try.prog 21 #[.slice A1 m c1, .slice A1 m c1] W (fun e w' => e = .returned (.bool true) ∧ Below W.heap.size W w')) := Lib.hid fun W hW =>
            (sameT_any A1 A1 m c1 m c1 L L W ((hF8.out.1.row encT_len).below hW) ((hF8.out.1.row encT_len).below hW) (fun t ht => ⟨((hF8.out.2.2.1 t ht).below hW).1.row, (hF8.out.2.2.1 t ht).2.1⟩) (fun t ht => ⟨((hF8.out.2.2.1 t ht).below hW).1.row, (hF8.out.2.2.1 t ht).2.1⟩) (by omega) (by omega)).mono (fun e w' h => ⟨by rw [h.1, sameL_self], h.2⟩)
          have HS2 : Hid (∀ W, Below w8.heap.size w8 W → 0 < m → ∀ A' c', (m - 1 = 0 ∨ A' = A1.map (·.add (1 * 2))) → Calls Try.prog 21 #[.slice A1 m c1, .slice A' (m - 1) c'] W (fun e w' => e = .returned (.bool false) ∧ Below W.heap.size W w')) := Lib.hid fun W hW h0 A' c' hA =>
            (sameT_any A1 A' m c1 (m - 1) c' L (L.drop 1) W ((hF8.out.1.row encT_len).below hW) (by
              rcases hA with h | rfl
              · rw [h, List.drop_eq_nil_of_le (by rw [hF8.out.1.len]; omega)]
                exact RowS.empty _ _
              · exact RowS.drop encT_len ((hF8.out.1.row encT_len).below hW) 1) (fun t ht => ⟨((hF8.out.2.2.1 t ht).below hW).1.row, (hF8.out.2.2.1 t ht).2.1⟩) (fun t ht => have ht := List.mem_of_mem_drop ht; ⟨((hF8.out.2.2.1 t ht).below hW).1.row, (hF8.out.2.2.1 t ht).2.1⟩) (by omega) (by omega)).mono (fun e w' h => ⟨by rw [h.1, sameL_drop L (by rw [hF8.out.1.len]; exact h0)], h.2⟩)
          have hA1 : m = 0 ∨ ∃ g1, A1 = some ⟨g1, 0, none⟩ ∧ m ≤ c1 ∧ 0 < m := by
            rcases hF8.out.1.shape with ⟨_, _, h, _⟩ | ⟨g, cur, h, _, _, _, h2, _⟩
            · exact .inl h
            · rcases Nat.eq_zero_or_pos m with h0 | h0
              · exact .inl h0
              · exact .inr ⟨g, h, h2, h0⟩
          refine (build_many A3 k c3 w8 (hK8.out.row encT_len)).mono ?_
          rintro e w9 ⟨A9, n9, c9, rfl, hdec, hW9⟩
          have hcs : (0 < n9 ∧ 1 ≤ k ∧ k ≤ 64) ∨ (n9 = 0 ∧ k = 0) ∨ (n9 = 0 ∧ 64 < k) := by
            by_cases h : 1 ≤ k ∧ k ≤ 64
            · rw [decide_eq_true h] at hdec
              exact .inl ⟨of_decide_eq_true hdec, h⟩
            · rw [decide_eq_false h] at hdec
              have := of_decide_eq_false hdec
              omega
          have HBW : Hid (Below w.heap.size w w8) := Lib.hid hF8.out.2.2.2.2
          clear hdec hK8 hF8 HO8 HNN hk hlt
          have h4s : tg.size = 4 ∨ (tg.size ≠ 4 ∧ Hid (((tg.size : Int) == 4) = false)) := by
            by_cases h : tg.size = 4
            · exact .inl h
            · exact .inr ⟨h, by show _ = _; simp; omega⟩
          rcases hcs with ⟨hx1, hx2, hx3⟩ | ⟨rfl, rfl⟩ | ⟨rfl, hx2⟩ <;> rcases hA1 with rfl | ⟨g1, rfl, hmc, hm0⟩ <;> rcases h4s with h4 | ⟨h4, h4b⟩
          · go_wp2_with fail
            refine (HS1.out _ hW9).mono ?_
            rintro e w11 ⟨rfl, hb11⟩
            have hW11 := hW9.trans (hb11.mono hW9.size)
            clear hb11 hW9 HS1
            go_wp2
            go_ret
            exact ⟨rfl, HBW.out.trans (hW11.mono HBW.out.size)⟩
          · go_wp2_with fail
            refine (HBO.out _ hW9 h4).mono ?_
            rintro e w10 ⟨A10, c10, rfl, hb10⟩
            have hW10 := hW9.trans (hb10.mono hW9.size)
            clear hb10 hW9 HBO
            go_wp2_with fail
            refine (HS1.out _ hW10).mono ?_
            rintro e w11 ⟨rfl, hb11⟩
            have hW11 := hW10.trans (hb11.mono hW10.size)
            clear hb11 hW10 HS1
            go_wp2
            go_ret
            exact ⟨rfl, HBW.out.trans (hW11.mono HBW.out.size)⟩
          · go_wp2_with fail
            refine (HS1.out _ hW9).mono ?_
            rintro e w11 ⟨rfl, hb11⟩
            have hW11 := hW9.trans (hb11.mono hW9.size)
            clear hb11 hW9 HS1
            by_cases hc1 : c1 = 1
            · subst hc1
              obtain rfl : m = 1 := by omega
              have HQ : Hid (Calls Try.prog 21 #[.slice (some ⟨g1, 0, none⟩) 1 1, .slice (some ⟨g1, 0, none⟩) 0 0] w11 (fun e w' => e = .returned (.bool false) ∧ Below w11.heap.size w11 w')) := Lib.hid (HS2.out w11 hW11 hm0 (some ⟨g1, 0, none⟩) 0 (.inl rfl))
              clear HS2
              go_wp2_with fail
              refine HQ.out.mono ?_
              rintro e w12 ⟨rfl, hb12⟩
              have hW12 := hW11.trans (hb12.mono hW11.size)
              clear hb12 hW11 HQ
              go_wp2
              go_ret
              exact ⟨rfl, HBW.out.trans (hW12.mono HBW.out.size)⟩
            · have HQ := Lib.hid (HS2.out w11 hW11 hm0 (some ⟨g1, 2, none⟩) (c1 - 1) (.inr rfl))
              clear HS2
              go_wp2_with fail
              refine HQ.out.mono ?_
              rintro e w12 ⟨rfl, hb12⟩
              have hW12 := hW11.trans (hb12.mono hW11.size)
              clear hb12 hW11 HQ
              go_wp2
              go_ret
              exact ⟨rfl, HBW.out.trans (hW12.mono HBW.out.size)⟩
          · go_wp2_with fail
            refine (HBO.out _ hW9 h4).mono ?_
            rintro e w10 ⟨A10, c10, rfl, hb10⟩
            have hW10 := hW9.trans (hb10.mono hW9.size)
            clear hb10 hW9 HBO
            go_wp2_with fail
            refine (HS1.out _ hW10).mono ?_
            rintro e w11 ⟨rfl, hb11⟩
            have hW11 := hW10.trans (hb11.mono hW10.size)
            clear hb11 hW10 HS1
            by_cases hc1 : c1 = 1
            · subst hc1
              obtain rfl : m = 1 := by omega
              have HQ : Hid (Calls Try.prog 21 #[.slice (some ⟨g1, 0, none⟩) 1 1, .slice (some ⟨g1, 0, none⟩) 0 0] w11 (fun e w' => e = .returned (.bool false) ∧ Below w11.heap.size w11 w')) := Lib.hid (HS2.out w11 hW11 hm0 (some ⟨g1, 0, none⟩) 0 (.inl rfl))
              clear HS2
              go_wp2_with fail
              refine HQ.out.mono ?_
              rintro e w12 ⟨rfl, hb12⟩
              have hW12 := hW11.trans (hb12.mono hW11.size)
              clear hb12 hW11 HQ
              go_wp2
              go_ret
              exact ⟨rfl, HBW.out.trans (hW12.mono HBW.out.size)⟩
            · have HQ := Lib.hid (HS2.out w11 hW11 hm0 (some ⟨g1, 2, none⟩) (c1 - 1) (.inr rfl))
              clear HS2
              go_wp2_with fail
              refine HQ.out.mono ?_
              rintro e w12 ⟨rfl, hb12⟩
              have hW12 := hW11.trans (hb12.mono hW11.size)
              clear hb12 hW11 HQ
              go_wp2
              go_ret
              exact ⟨rfl, HBW.out.trans (hW12.mono HBW.out.size)⟩
          · go_wp2_with fail
            refine (HS1.out _ hW9).mono ?_
            rintro e w11 ⟨rfl, hb11⟩
            have hW11 := hW9.trans (hb11.mono hW9.size)
            clear hb11 hW9 HS1
            go_wp2
            go_ret
            exact ⟨rfl, HBW.out.trans (hW11.mono HBW.out.size)⟩
          · go_wp2_with fail
            refine (HBO.out _ hW9 h4).mono ?_
            rintro e w10 ⟨A10, c10, rfl, hb10⟩
            have hW10 := hW9.trans (hb10.mono hW9.size)
            clear hb10 hW9 HBO
            go_wp2_with fail
            refine (HS1.out _ hW10).mono ?_
            rintro e w11 ⟨rfl, hb11⟩
            have hW11 := hW10.trans (hb11.mono hW10.size)
            clear hb11 hW10 HS1
            go_wp2
            go_ret
            exact ⟨rfl, HBW.out.trans (hW11.mono HBW.out.size)⟩
          · go_wp2_with fail
            refine (HS1.out _ hW9).mono ?_
            rintro e w11 ⟨rfl, hb11⟩
            have hW11 := hW9.trans (hb11.mono hW9.size)
            clear hb11 hW9 HS1
            by_cases hc1 : c1 = 1
            · subst hc1
              obtain rfl : m = 1 := by omega
              have HQ : Hid (Calls Try.prog 21 #[.slice (some ⟨g1, 0, none⟩) 1 1, .slice (some ⟨g1, 0, none⟩) 0 0] w11 (fun e w' => e = .returned (.bool false) ∧ Below w11.heap.size w11 w')) := Lib.hid (HS2.out w11 hW11 hm0 (some ⟨g1, 0, none⟩) 0 (.inl rfl))
              clear HS2
              go_wp2_with fail
              refine HQ.out.mono ?_
              rintro e w12 ⟨rfl, hb12⟩
              have hW12 := hW11.trans (hb12.mono hW11.size)
              clear hb12 hW11 HQ
              go_wp2
              go_ret
              exact ⟨rfl, HBW.out.trans (hW12.mono HBW.out.size)⟩
            · have HQ := Lib.hid (HS2.out w11 hW11 hm0 (some ⟨g1, 2, none⟩) (c1 - 1) (.inr rfl))
              clear HS2
              go_wp2_with fail
              refine HQ.out.mono ?_
              rintro e w12 ⟨rfl, hb12⟩
              have hW12 := hW11.trans (hb12.mono hW11.size)
              clear hb12 hW11 HQ
              go_wp2
              go_ret
              exact ⟨rfl, HBW.out.trans (hW12.mono HBW.out.size)⟩
          · go_wp2_with fail
            refine (HBO.out _ hW9 h4).mono ?_
            rintro e w10 ⟨A10, c10, rfl, hb10⟩
            have hW10 := hW9.trans (hb10.mono hW9.size)
            clear hb10 hW9 HBO
            go_wp2_with fail
            refine (HS1.out _ hW10).mono ?_
            rintro e w11 ⟨rfl, hb11⟩
            have hW11 := hW10.trans (hb11.mono hW10.size)
            clear hb11 hW10 HS1
            by_cases hc1 : c1 = 1
            · subst hc1
              obtain rfl : m = 1 := by omega
              have HQ : Hid (Calls Try.prog 21 #[.slice (some ⟨g1, 0, none⟩) 1 1, .slice (some ⟨g1, 0, none⟩) 0 0] w11 (fun e w' => e = .returned (.bool false) ∧ Below w11.heap.size w11 w')) := Lib.hid (HS2.out w11 hW11 hm0 (some ⟨g1, 0, none⟩) 0 (.inl rfl))
              clear HS2
              go_wp2_with fail
              refine HQ.out.mono ?_
              rintro e w12 ⟨rfl, hb12⟩
              have hW12 := hW11.trans (hb12.mono hW11.size)
              clear hb12 hW11 HQ
              go_wp2
              go_ret
              exact ⟨rfl, HBW.out.trans (hW12.mono HBW.out.size)⟩
            · have HQ := Lib.hid (HS2.out w11 hW11 hm0 (some ⟨g1, 2, none⟩) (c1 - 1) (.inr rfl))
              clear HS2
              go_wp2_with fail
              refine HQ.out.mono ?_
              rintro e w12 ⟨rfl, hb12⟩
              have hW12 := hW11.trans (hb12.mono hW11.size)
              clear hb12 hW11 HQ
              go_wp2
              go_ret
              exact ⟨rfl, HBW.out.trans (hW12.mono HBW.out.size)⟩
          · have hk64 : decide ((k : Int) ≤ 64) = false := decide_eq_false (by omega)
            go_wp2_with fail
            refine (HS1.out _ hW9).mono ?_
            rintro e w11 ⟨rfl, hb11⟩
            have hW11 := hW9.trans (hb11.mono hW9.size)
            clear hb11 hW9 HS1
            go_wp2
            go_ret
            exact ⟨rfl, HBW.out.trans (hW11.mono HBW.out.size)⟩
          · have hk64 : decide ((k : Int) ≤ 64) = false := decide_eq_false (by omega)
            go_wp2_with fail
            refine (HBO.out _ hW9 h4).mono ?_
            rintro e w10 ⟨A10, c10, rfl, hb10⟩
            have hW10 := hW9.trans (hb10.mono hW9.size)
            clear hb10 hW9 HBO
            go_wp2_with fail
            refine (HS1.out _ hW10).mono ?_
            rintro e w11 ⟨rfl, hb11⟩
            have hW11 := hW10.trans (hb11.mono hW10.size)
            clear hb11 hW10 HS1
            go_wp2
            go_ret
            exact ⟨rfl, HBW.out.trans (hW11.mono HBW.out.size)⟩
          · have hk64 : decide ((k : Int) ≤ 64) = false := decide_eq_false (by omega)
            go_wp2_with fail
            refine (HS1.out _ hW9).mono ?_
            rintro e w11 ⟨rfl, hb11⟩
            have hW11 := hW9.trans (hb11.mono hW9.size)
            clear hb11 hW9 HS1
            by_cases hc1 : c1 = 1
            · subst hc1
              obtain rfl : m = 1 := by omega
              have HQ : Hid (Calls Try.prog 21 #[.slice (some ⟨g1, 0, none⟩) 1 1, .slice (some ⟨g1, 0, none⟩) 0 0] w11 (fun e w' => e = .returned (.bool false) ∧ Below w11.heap.size w11 w')) := Lib.hid (HS2.out w11 hW11 hm0 (some ⟨g1, 0, none⟩) 0 (.inl rfl))
              clear HS2
              go_wp2_with fail
              refine HQ.out.mono ?_
              rintro e w12 ⟨rfl, hb12⟩
              have hW12 := hW11.trans (hb12.mono hW11.size)
              clear hb12 hW11 HQ
              go_wp2
              go_ret
              exact ⟨rfl, HBW.out.trans (hW12.mono HBW.out.size)⟩
            · have HQ := Lib.hid (HS2.out w11 hW11 hm0 (some ⟨g1, 2, none⟩) (c1 - 1) (.inr rfl))
              clear HS2
              go_wp2_with fail
              refine HQ.out.mono ?_
              rintro e w12 ⟨rfl, hb12⟩
              have hW12 := hW11.trans (hb12.mono hW11.size)
              clear hb12 hW11 HQ
              go_wp2
              go_ret
              exact ⟨rfl, HBW.out.trans (hW12.mono HBW.out.size)⟩
          · have hk64 : decide ((k : Int) ≤ 64) = false := decide_eq_false (by omega)
            go_wp2_with fail
            refine (HBO.out _ hW9 h4).mono ?_
            rintro e w10 ⟨A10, c10, rfl, hb10⟩
            have hW10 := hW9.trans (hb10.mono hW9.size)
            clear hb10 hW9 HBO
            go_wp2_with fail
            refine (HS1.out _ hW10).mono ?_
            rintro e w11 ⟨rfl, hb11⟩
            have hW11 := hW10.trans (hb11.mono hW10.size)
            clear hb11 hW10 HS1
            by_cases hc1 : c1 = 1
            · subst hc1
              obtain rfl : m = 1 := by omega
              have HQ : Hid (Calls Try.prog 21 #[.slice (some ⟨g1, 0, none⟩) 1 1, .slice (some ⟨g1, 0, none⟩) 0 0] w11 (fun e w' => e = .returned (.bool false) ∧ Below w11.heap.size w11 w')) := Lib.hid (HS2.out w11 hW11 hm0 (some ⟨g1, 0, none⟩) 0 (.inl rfl))
              clear HS2
              go_wp2_with fail
              refine HQ.out.mono ?_
              rintro e w12 ⟨rfl, hb12⟩
              have hW12 := hW11.trans (hb12.mono hW11.size)
              clear hb12 hW11 HQ
              go_wp2
              go_ret
              exact ⟨rfl, HBW.out.trans (hW12.mono HBW.out.size)⟩
            · have HQ := Lib.hid (HS2.out w11 hW11 hm0 (some ⟨g1, 2, none⟩) (c1 - 1) (.inr rfl))
              clear HS2
              go_wp2_with fail
              refine HQ.out.mono ?_
              rintro e w12 ⟨rfl, hb12⟩
              have hW12 := hW11.trans (hb12.mono hW11.size)
              clear hb12 hW11 HQ
              go_wp2
              go_ret
              exact ⟨rfl, HBW.out.trans (hW12.mono HBW.out.size)⟩

end Go.Proofs.Ytjliaiohhkfnlaa
