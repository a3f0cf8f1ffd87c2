/- What sfnt.Parse answers, as a contract over this seat's translation. -/
import Derived.Test.YtlkidnacfljpkaaSummed
import Derived.Test.YtlkidnacfljpkaaSub
namespace Go.Proofs.Ytlkidnacfljpkaa
open Go.RowKit
set_option linter.unusedVariables false

/-- A table that the directory tells of. -/
def pureOf (zs : List Int) (e : Ent) : T := (e.tag.toList, part zs e.at_.toNat (e.at_.toNat + e.sz.toNat))

theorem entOf_ok {zs : List Int} (hB : Bytes zs) (i : Nat) : (entOf zs i).ok := ⟨n4at_lt hB _, n4at_lt hB _, n4at_lt hB _⟩
theorem dirL_ok {zs : List Int} (hB : Bytes zs) : ∀ t ∈ dirL zs, t.ok := fun t ht => by
  obtain ⟨i, _, rfl⟩ := List.mem_map.1 ht
  exact entOf_ok hB i
theorem dirL_len (zs : List Int) : (dirL zs).length = cntN zs := by simp [dirL]

/-- Is what stands ahead of the tables right? -/
def formB (zs : List Int) : Bool := dirB (zs.take 1036) && riseK (tagsE (dirL (zs.take 1036))) (cntN (zs.take 1036)) && !((dirL (zs.take 1036)).any (badE (12 + 16 * cntN (zs.take 1036)) zs.length))

/-- One slice of a list of tables is another one. -/
theorem flat_data : ∀ (l : List Tab) (j : Nat) (t : Tab) (A : Option Addr) (n c : Nat) (ys : List Int), l[j]? = some t → flat encT (l.set j ⟨t.tag, A, n, c, ys⟩) = (flat encT l).set (j * 2 + 1) (.slice A n c)
  | [], j, t, A, n, c, ys, h => by simp at h
  | x :: l, 0, t, A, n, c, ys, h => by
    simp at h
    subst h
    rfl
  | x :: l, j + 1, t, A, n, c, ys, h => by
    have ih := flat_data l j t A n c ys (by simpa using h)
    rw [List.set_cons_succ]
    show encT x ++ flat encT (l.set j _) = (encT x ++ flat encT l).set ((j + 1) * 2 + 1) _
    rw [ih, show (j + 1) * 2 + 1 = (j * 2 + 1) + 1 + 1 by omega]
    rfl

theorem grown_cell {W w' : World} {row : Option Nat} {b o : Nat} {v : Value} (hg : W.grownBy w' row) (hne : row ≠ some b) (hc : W.cell? ⟨b, o, none⟩ = some v) : w'.cell? ⟨b, o, none⟩ = some v :=
  (World.cell?_of_block (w := W) (a := ⟨b, o, none⟩) (hg.block b (World.block_lt_of_cell? W _ hc) (fun e => hne e.symm))).trans hc
theorem ne_old {A : Option Addr} {b : Nat} (h : ∀ g, blockOf A = some g → g < b) : blockOf A ≠ some b := fun e => absurd (h b e) (Nat.lt_irrefl _)

/-- Tables that were laid, and the rows of the directory beside them, over an older world. -/
structure PS (w wr : World) (zs : List Int) (eg ec : Nat) (es : List Ent) (A : Option Addr) (j c : Nat) (l : List Tab) : Prop where
  own : OwnS 30 encT 2 wr w.heap.size A j c l
  pure : l.map Tab.pure = (es.take j).map (pureOf zs)
  ok : ∀ t ∈ l, t.ok w
  bel : Below w.heap.size w wr
  ents : OwnS 73 encE 4 wr w.heap.size (some ⟨eg, 0, none⟩) es.length ec es

section
variable {w wr w' : World} {zs : List Int} {eg ec : Nat} {es : List Ent} {A : Option Addr} {j c : Nat} {l : List Tab}
theorem PS.below (h : PS w wr zs eg ec es A j c l) (hb : Below wr.heap.size wr w') : PS w w' zs eg ec es A j c l := ⟨h.own.below hb, h.pure, h.ok, h.bel.trans (hb.mono h.bel.size), h.ents.below hb⟩
theorem PS.drew (h : PS w wr zs eg ec es A j c l) : PS w wr.drew zs eg ec es A j c l := ⟨h.own, h.pure, h.ok, h.bel.drew, h.ents⟩
theorem PS.push {A' : Option Addr} {c' : Nat} {t : Tab} {e : Ent} (h : PS w wr zs eg ec es A j c l) (he : es[j]? = some e) (ht : t.ok w) (hp : t.pure = pureOf zs e) (ho : OwnS 30 encT 2 w' w.heap.size A' (j + 1) c' (l ++ [t])) (hg : wr.grownBy w' (blockOf A)) : PS w w' zs eg ec es A' (j + 1) c' (l ++ [t]) := by
  refine ⟨ho, ?_, ?_, h.bel.grown hg h.bel.size (fun k e => (h.own.from_ k e).1), ?_⟩
  · rw [List.map_append, h.pure, List.take_add_one, he]
    simp [hp]
  · intro x hx
    rcases List.mem_append.1 hx with hx | hx
    · exact h.ok x hx
    · simp at hx
      subst hx
      exact ht
  · refine h.ents.grown hg fun g e1 e2 => ?_
    simp [blockOf] at e1
    subst e1
    rcases h.own.shape with ⟨rfl, _⟩ | ⟨g', cur, rfl, _, _, hh, _⟩
    · simp [blockOf] at e2
    · simp [blockOf] at e2
      subst e2
      rcases h.ents.shape with ⟨e3, _⟩ | ⟨g2, cur2, e3, _, _, hh2, _⟩
      · cases e3
      · cases e3
        rw [hh] at hh2
        simp at hh2
end

/-- The same of tables alone, wherever they lie. -/
def summedP (zs : List Int) (es : List Ent) (ps : List T) : Bool := (List.range ps.length).all (fun i => sumL (ps.getD i ([], [])).1 (ps.getD i ([], [])).2 == (es.getD i default).sm) && (!(ps.any fun t => adjB t.1 t.2) || (rs zs % 4294967296 == 2981146554))
theorem summedB_pure {zs : List Int} {es : List Ent} {ts : List Tab} (h : ∀ t ∈ ts, t.zs.length = t.n) : summedB zs es ts = summedP zs es (ts.map Tab.pure) := by
  unfold summedB summedP
  congr 1
  · unfold sumsK
    rw [List.length_map]
    rw [Bool.eq_iff_iff, List.all_eq_true, List.all_eq_true]
    have key : ∀ i, i ∈ List.range ts.length → sumAt es ts i = (sumL ((ts.map Tab.pure).getD i ([], [])).1 ((ts.map Tab.pure).getD i ([], [])).2 == (es.getD i default).sm) := fun i hi => by
      have hi' := List.mem_range.1 hi
      unfold sumAt
      simp [List.getElem?_eq_getElem hi', Tab.pure]
    exact ⟨fun h i hi => by rw [← key i hi]; exact h i hi, fun h i hi => by rw [key i hi]; exact h i hi⟩
  · congr 2
    rw [List.any_map, Bool.eq_iff_iff, List.any_eq_true, List.any_eq_true]
    exact ⟨fun ⟨t, ht, h1⟩ => ⟨t, ht, by rw [adjN_eq (h t ht)] at h1; exact h1⟩, fun ⟨t, ht, h1⟩ => ⟨t, ht, by rw [adjN_eq (h t ht)]; exact h1⟩⟩

/-- Tables of which the first j have data of their own. -/
structure CS (w wr : World) (tg c k : Nat) (l0 : List Tab) (j : Nat) (l : List Tab) : Prop where
  own : OwnS 30 encT 2 wr w.heap.size (some ⟨tg, 0, none⟩) k c l
  pure : l.map Tab.pure = l0.map Tab.pure
  done : ∀ i t, i < j → l[i]? = some t → OwnB wr w.heap.size t.A t.n t.c t.zs
  left : ∀ i t, j ≤ i → l[i]? = some t → t.ok w
  fine : ∀ t ∈ l, Bytes t.zs ∧ t.n ≤ 100000000 ∧ t.zs.length = t.n
  bel : Below w.heap.size w wr

theorem CS.next {w wr w1 : World} {tg c k j : Nat} {l0 l : List Tab} {t : Tab} {A1 : Option Addr} {n1 c1 : Nat} (h : CS w wr tg c k l0 j l) (ht : l[j]? = some t) (hb : Below wr.heap.size wr w1) (ho : OwnB w1 wr.heap.size A1 n1 c1 t.zs) :
    CS w (w1.setCell ⟨tg, j * 2 + 1, none⟩ (.slice A1 n1 c1)) tg c k l0 (j + 1) (l.set j ⟨t.tag, A1, n1, c1, t.zs⟩) := by
  have hsz := h.bel.size
  have hown := h.own.below hb
  have hlj : j < l.length := (List.getElem?_eq_some_iff.1 ht).1
  have htab : ∃ cur, w1.heap[tg]? = some (.cells cur 30 (0, 0)) := by
    rcases hown.shape with ⟨e, _⟩ | ⟨g, cur, e, _, _, hh, _⟩
    · cases e
    · cases e; exact ⟨cur, hh⟩
  obtain ⟨cur, hcur⟩ := htab
  have ho2 : OwnB w1 w.heap.size A1 n1 c1 t.zs := ho.mono hsz
  have keepO : ∀ {A : Option Addr} {n c : Nat} {ys : List Int}, OwnB w1 w.heap.size A n c ys → OwnB (w1.setCell ⟨tg, j * 2 + 1, none⟩ (.slice A1 n1 c1)) w.heap.size A n c ys := fun {A n c ys} hO => hO.keep fun g e => by
    refine Below.heap_setCell w1 _ _ g ?_
    rintro rfl
    rcases hO.shape with ⟨rfl, _⟩ | ⟨g', cur', rfl, _, _, hh, _⟩
    · simp [blockOf] at e
    · simp [blockOf] at e
      subst e
      rw [hcur] at hh
      simp at hh
  refine ⟨ownS_setCell hown (by rw [List.length_set]) (flat_data l j t A1 n1 c1 t.zs ht), ?_, ?_, ?_, ?_, (h.bel.trans (hb.mono hsz)).setCell (p := ⟨tg, j * 2 + 1, none⟩) (hown.from_ tg rfl).1 _⟩
  · rw [List.map_set, h.pure.symm]
    apply List.ext_getElem?
    intro i
    rw [List.getElem?_set]
    by_cases e : j = i
    · subst e
      rw [if_pos rfl, if_pos (by simpa using hlj), List.getElem?_map, ht]
      rfl
    · rw [if_neg e]
  · intro i x hi hx
    rw [List.getElem?_set] at hx
    by_cases e : j = i
    · subst e
      simp [hlj] at hx
      subst hx
      exact keepO ho2
    · rw [if_neg e] at hx
      exact keepO ((h.done i x (by omega) hx).below hb)
  · intro i x hi hx
    rw [List.getElem?_set, if_neg (by omega)] at hx
    exact h.left i x (by omega) hx
  · intro x hx
    rcases List.mem_or_eq_of_mem_set hx with hx | rfl
    · exact h.fine x hx
    · have hf := h.fine t (List.mem_of_getElem? ht)
      have hl := ho.len
      exact ⟨hf.1, by show n1 ≤ _; omega, hl⟩

/-- What Parse tells. -/
def RetParse (w : World) (zs : List Int) (e : Ending) (w' : World) : Prop :=
  Below w.heap.size w w' ∧
  ((formB zs = false ∧ e = .returned (.tuple #[.slice none 0 0, .int .i64 2])) ∨
   (formB zs = true ∧ ∃ l : List Tab, l.map Tab.pure = (dirL (zs.take 1036)).map (pureOf zs) ∧
     ((summedP zs (dirL (zs.take 1036)) (l.map Tab.pure) = false ∧ e = .returned (.tuple #[.slice none 0 0, .int .i64 3])) ∨
      (summedP zs (dirL (zs.take 1036)) (l.map Tab.pure) = true ∧ ∃ A n c, e = .returned (.tuple #[.slice A n c, .int .i64 0]) ∧ OwnS 30 encT 2 w' w.heap.size A n c l ∧ ∀ t ∈ l, OwnB w' w.heap.size t.A t.n t.c t.zs ∧ Bytes t.zs ∧ t.n ≤ 100000000))))

theorem retParse_no {w w' : World} {zs : List Int} (h : formB zs = false) (hb : Below w.heap.size w w') : RetParse w zs (.returned (.tuple #[.slice none 0 0, .int .i64 2])) w' := ⟨hb, .inl ⟨h, rfl⟩⟩

set_option maxRecDepth 100000 in
set_option maxHeartbeats 4000000 in
theorem parse_any (A : Option Addr) (n c : Nat) (zs : List Int) (w : World) (hr : Row w A n (cellsOf .u8 zs)) (hB : Bytes zs) (hn : n ≤ 100000000) (hc : n ≤ c) :
    Calls Try.prog 9 #[.slice A n c] w (RetParse w zs) := by
  obtain ⟨i0, hi, hz0, hz1, hz2⟩ := info_parts Try.tabinfo
  have HB := Lib.hid hB
  have HL := Lib.hid hr.len
  have Hes := Lib.hid (dirL_ok (cut_bytes hB 1036))
  have Hel := Lib.hid (dirL_len (zs.take 1036))
  have HF := Lib.hid (show formB zs = (dirB (zs.take 1036) && riseK (tagsE (dirL (zs.take 1036))) (cntN (zs.take 1036)) && !((dirL (zs.take 1036)).any (badE (12 + 16 * cntN (zs.take 1036)) zs.length))) from rfl)
  have Hk : Hid (dirB (zs.take 1036) = true → 1 ≤ cntN (zs.take 1036) ∧ cntN (zs.take 1036) ≤ 64) := fun h => by
    unfold dirB cntB at h
    simp only [Bool.and_eq_true, decide_eq_true_iff] at h
    have := h.1.1
    unfold cntN
    omega
  clear hB
  go_enter Try.func9, Try.ntmps9
  go_wp2_with fail
  with_reducible refine (dir_any A n c zs w hr HB.out (by omega) hc).mono ?_
  rintro e w1 ⟨A1, n1, c1, ok, rfl, hb1, hok, hO⟩
  cases ok with
  | false =>
    have HN : Hid (formB zs = false) := by show formB zs = false; rw [HF.out, ← hok]; rfl
    clear hO hok
    go_wp2
    go_ret2
    exact retParse_no HN.out hb1
  | true =>
    have hown := hO rfl
    obtain ⟨k1, k64⟩ := Hk.out hok.symm
    have Hd := Lib.hid hok
    have hl1 := hown.len
    rw [Hel.out] at hl1
    clear hO hok Hk
    generalize hes : dirL (zs.take 1036) = es at *
    generalize hkk : cntN (zs.take 1036) = k at *
    subst hl1
    have Hes2 := Lib.hid hes
    have Hkk := Lib.hid hkk
    obtain ⟨eg, rfl⟩ : ∃ eg, A1 = some ⟨eg, 0, none⟩ := by
      rcases hown.shape with ⟨_, _, h, _⟩ | ⟨g, cur, rfl, _⟩
      · omega
      · exact ⟨g, rfl⟩
    have hrow1 := hown.row encE_len
    clear hes hkk
    go_wp2_with fail
    with_reducible refine (rise_any _ k c1 es w1 hrow1 (by omega)).mono ?_
    rintro e w2 ⟨rfl, q, hw⟩
    replace hown : OwnS 73 encE 4 w2 w.heap.size (some ⟨eg, 0, none⟩) k c1 es := by rw [hw]; exact hown.drewN q
    replace hb1 : Below w.heap.size w w2 := by rw [hw]; exact below_drewN hb1 q
    clear hw hrow1
    have hrow2 := hown.row encE_len
    cases hR : riseK (tagsE es) k with
    | false =>
      have HN : Hid (formB zs = false) := by show formB zs = false; rw [HF.out, hR]; simp
      go_wp2
      go_ret2
      exact retParse_no HN.out hb1
    | true =>
      have hn0 : (0 : Int) ≤ (n : Int) := by omega
      have HFit := Lib.hid (fit_any eg 0 k c1 es (n : Int) w2 hrow2 Hes.out (by omega) (by omega) (by omega) (by omega))
      have hHF := HF.out
      rw [← Hd.out, hR, HL.out] at hHF
      have HFF := Lib.hid hHF
      clear hHF hR HF hrow2
      cases hA : es.any (badE (12 + 16 * k) n) with
      | true =>
        rw [hA] at HFit HFF
        go_wp2_with fail
        with_reducible refine HFit.out.mono ?_
        rintro e w3 ⟨rfl, hb3⟩
        go_wp2
        go_ret2
        exact retParse_no HFF.out (hb1.trans (hb3.mono hb1.size))
      | false =>
        have Hbad := Lib.hid hA
        rw [hA] at HFit HFF
        clear hA
        go_wp2_with fail
        with_reducible refine HFit.out.mono ?_
        rintro e w3 ⟨rfl, hb3⟩
        replace hown := hown.below hb3
        replace hb1 := hb1.trans (hb3.mono hb1.size)
        clear hb3 HFit
        go_wp2_with (at_make; refine wpList_make_own _ rfl (.const (.int .i64 0)) (.tmp 31) _ rfl w.heap.size 30 i0 _ 2 Try.underlying22 hi hz0 hz1 .i64 .i64 _ k rfl rfl rfl (by rw [hz2]; omega) (by simp only [maxLen]; omega) hb1.size ?_; intro w4 how4 hg4)
        have hs : PS w w4 zs eg c1 es (some ⟨w3.heap.size, 0, none⟩) 0 k [] := by
          refine ⟨⟨rfl, how4⟩, rfl, (fun t ht => by cases ht), hb1.grown hg4 hb1.size (fun k e => by cases e), ?_⟩
          rw [Hel.out]
          exact hown.grown hg4 (fun g _ e => by cases e)
        have HS0 := Lib.hid hs
        generalize w3.heap.size = G at *
        clear hs how4 hg4 hown hb1
        go_loopw [6, 35] (fun v i wr => ∃ (j : Nat) (A2 : Option Addr) (c2 : Nat) (l : List Tab), j ≤ k ∧ i = .int .i64 j ∧ v = .slice A2 j c2 ∧ PS w wr zs eg c1 es A2 j c2 l) (fun _ i _ => k - (intOf i).toNat)
        case atStart => exact ⟨0, _, _, [], Nat.zero_le _, rfl, rfl, HS0.out⟩
        case round =>
          clear HS0
          obtain ⟨j, A2, c2, l, hj, rfl, rfl, hs⟩ := hrel
          by_cases hlt : j < k
          · obtain ⟨x, hx⟩ : ∃ x, es[j]? = some x := ⟨_, List.getElem?_eq_getElem (by have := Hel.out; omega)⟩
            have hxo := Hes.out x (List.mem_of_getElem? hx)
            have hxb : badE (12 + 16 * k) n x = false := by
              have h := Hbad.out
              rw [List.any_eq_false] at h
              simpa using h x (List.mem_of_getElem? hx)
            have Hx := Lib.hid hx
            obtain ⟨g', off', e', _, hcl⟩ := (hs.ents.row encE_len).at encE_len (by omega) hx
            simp only [Option.some.injEq, Addr.mk.injEq, and_true] at e'
            obtain ⟨rfl, rfl⟩ := e'
            obtain ⟨et, sm, at_, sz⟩ := x
            have q0 : wr.cell? ⟨eg, j * 4, none⟩ = some (.string et) := by have := hcl 0 _ rfl; rwa [Nat.zero_add] at this
            have q1 : wr.cell? ⟨eg, j * 4 + 1, none⟩ = some (.int .u32 sm) := by have := hcl 1 _ rfl; rwa [Nat.zero_add] at this
            have q2 : wr.cell? ⟨eg, j * 4 + 2, none⟩ = some (.int .u32 at_) := by have := hcl 2 _ rfl; rwa [Nat.zero_add] at this
            have q3 : wr.cell? ⟨eg, j * 4 + 3, none⟩ = some (.int .u32 sz) := by have := hcl 3 _ rfl; rwa [Nat.zero_add] at this
            obtain ⟨_, ⟨a0, a1⟩, ⟨z0, z1⟩⟩ := hxo
            simp only at a0 a1 z0 z1
            obtain ⟨a, rfl⟩ := Int.eq_ofNat_of_zero_le a0
            obtain ⟨m, rfl⟩ := Int.eq_ofNat_of_zero_le z0
            have ham : a + m ≤ n := by
              unfold badE at hxb
              simp at hxb
              omega
            have ha12 : 12 ≤ a := by
              unfold badE at hxb
              simp at hxb
              omega
            have hp := hr.part a m ham
            have hA5 : Below wr.heap.size wr (wr.alloc (.cells #[.string et, .int .u32 sm, .int .u32 (a : Int), .int .u32 (m : Int)] 73)) := (Below.refl _ _).alloc (Nat.le_refl _) _
            have hj5 := heap_alloc_new wr (.cells #[.string et, .int .u32 sm, .int .u32 (a : Int), .int .u32 (m : Int)] 73)
            have hs5 := hs.below hA5
            have hlt2 := fun g e => (hs.own.from_ g e).2
            have Hlt2 := Lib.hid hlt2
            clear hlt2
            have b5 : (a : Int) ≤ (c : Int) := by omega
            have b6 : a ≤ c := by omega
            have b1 : (0 : Int) ≤ (a : Int) := by omega
            have b2 : (a : Int) ≤ (a : Int) + (m : Int) := by omega
            have b3 : (a : Int) + (m : Int) ≤ (c : Int) := by omega
            have b4 : ((a : Int) + (m : Int)).toNat = a + m := by omega
            have hj0 : (0 : Int) ≤ (j : Int) := by omega
            have hj1 : (j : Int) < (k : Int) := by omega
            have HP : ∀ D : Option Addr, (0 < m → D = A.map (·.add a)) → Hid ((⟨et, D, m, m, part zs a (a + m)⟩ : Tab).ok w) := fun D hD => by
              refine ⟨?_, fun y hy => HB.out y (List.mem_of_mem_take (List.mem_of_mem_drop hy)), ?_⟩
              · rcases Nat.eq_zero_or_pos m with h0 | h0
                · subst h0
                  rw [show part zs a (a + 0) = [] from by unfold part; rw [List.drop_of_length_le]; rw [List.length_take]; omega]
                  exact Row.empty _ _
                · rw [hD h0]; exact hp
              · show m ≤ 100000000
                omega
            obtain ⟨fg, foff, hfA, _⟩ := hr.2 (show 0 < n by omega)
            subst hfA
            clear hcl hxb hx hs hA5 hp a0 z0
            go_upto_region 9 with fail
            clear q0 q1 q2 q3
            generalize wr.alloc _ = V at *
            have r0 : V.cell? ⟨wr.heap.size, 0, none⟩ = some (.string et) := cell_of_row V _ 0 _ _ _ hj5
            have r2 : V.cell? ⟨wr.heap.size, 2, none⟩ = some (.int .u32 (a : Int)) := cell_of_row V _ 2 _ _ _ hj5
            have hs : PS w V zs eg c1 es A2 j c2 l := hs5
            have hsz := hs.bel.size
            clear hs5 hj5
            by_cases hm0 : m = 0
            · subst hm0
              go_region_held3 (fun w' => w'.cell? ⟨wr.heap.size, 0, none⟩ = some (.string et) ∧ w'.cell? ⟨wr.heap.size, 2, none⟩ = some (.int .u32 (a : Int)))
                (first | exact ⟨r0, r2⟩ | exact ⟨Lib.cell?_alloc_some _ r0, Lib.cell?_alloc_some _ r2⟩ | exact ⟨grown_cell hg5 (ne_old Hlt2.out) (Lib.cell?_alloc_some _ r0), grown_cell hg5 (ne_old Hlt2.out) (Lib.cell?_alloc_some _ r2)⟩)
                ((refine step_append_rowS rfl (.tmp 46) (.tmp 56) _ (by rfl) 30 encT 2 encT_len (by omega) encT_one w.heap.size i0 _ 40 Try.underlying22 hi hz0 hz1 rfl hz2 A2 j c2 l (by rfl) (hs.own.alloc _).drew (some ⟨V.heap.size, 0, none⟩) 1 1 [⟨et, _, 0, 0, part zs a (a + 0)⟩] (by rfl) (rowS_vals encT_len V 30 [⟨et, _, 0, 0, part zs a (a + 0)⟩] _ rfl 1 rfl).drew (by omega) (by omega) (by simp; omega) ?_; intro A3 c3 w5 hown5 hg5))
              have hs6 := PS.push (PS.drew (PS.below hs ((Below.refl _ _).alloc (Nat.le_refl _) _))) Hx.out (HP _ (fun h => absurd h (by omega))).out (by simp [Tab.pure, pureOf]) hown5 hg5
              clear hown5 hg5 hs r0 r2
              go_wp2
              go_roundw
              case rel => exact ⟨j + 1, A3, c3, _, by omega, by go_num, rfl, hs6⟩
              case measure => simp [intOf]; omega
            · have hm1 : 0 < m := by omega
              go_region_held3 (fun w' => w'.cell? ⟨wr.heap.size, 0, none⟩ = some (.string et) ∧ w'.cell? ⟨wr.heap.size, 2, none⟩ = some (.int .u32 (a : Int)))
                (first | exact ⟨r0, r2⟩ | exact ⟨Lib.cell?_alloc_some _ r0, Lib.cell?_alloc_some _ r2⟩ | exact ⟨grown_cell hg5 (ne_old Hlt2.out) (Lib.cell?_alloc_some _ r0), grown_cell hg5 (ne_old Hlt2.out) (Lib.cell?_alloc_some _ r2)⟩)
                ((refine step_append_rowS rfl (.tmp 46) (.tmp 56) _ (by rfl) 30 encT 2 encT_len (by omega) encT_one w.heap.size i0 _ 40 Try.underlying22 hi hz0 hz1 rfl hz2 A2 j c2 l (by rfl) (hs.own.alloc _).drew (some ⟨V.heap.size, 0, none⟩) 1 1 [⟨et, some ⟨fg, foff + a, none⟩, m, m, part zs a (a + m)⟩] (by rfl) (rowS_vals encT_len V 30 [⟨et, some ⟨fg, foff + a, none⟩, m, m, part zs a (a + m)⟩] _ rfl 1 rfl).drew (by omega) (by omega) (by simp; omega) ?_; intro A3 c3 w5 hown5 hg5))
              have hs6 := PS.push (PS.drew (PS.below hs ((Below.refl _ _).alloc (Nat.le_refl _) _))) Hx.out (HP _ (fun _ => by simp [Addr.add_lit])).out (by simp [Tab.pure, pureOf]) hown5 hg5
              clear hown5 hg5 hs r0 r2
              go_wp2
              go_roundw
              case rel => exact ⟨j + 1, A3, c3, _, by omega, by go_num, rfl, hs6⟩
              case measure => simp [intOf]; omega
          · obtain rfl : j = k := by omega
            obtain ⟨tg, rfl⟩ : ∃ tg, A2 = some ⟨tg, 0, none⟩ := by
              rcases hs.own.shape with ⟨_, _, h, _⟩ | ⟨g, cur, rfl, _⟩
              · omega
              · exact ⟨g, rfl⟩
            have hpu := hs.pure
            rw [List.take_of_length_le (by have := Hel.out; omega)] at hpu
            have hents := hs.ents
            rw [Hel.out] at hents
            have hSu := summed_any A n c zs _ j c1 es tg 0 c2 l wr (hr.below hs.bel) HB.out hn (hents.row encE_len) (hs.own.row encT_len) (fun t ht => (hs.ok t ht).below hs.bel) (by omega) (by omega)
            have HSu := Lib.hid hSu
            have Hpu := Lib.hid hpu
            have hbel := hs.bel
            have hown := hs.own
            have hoks := Lib.hid hs.ok
            clear hSu hpu hents hs
            cases hS : summedB zs es l with
            | false =>
              rw [hS] at HSu
              have HR : Hid (∀ w', Below w.heap.size w w' → RetParse w zs (.returned (.tuple #[.slice none 0 0, .int .i64 3])) w') := fun w' hb => ⟨hb, .inr ⟨HFF.out, l, by rw [Hes2.out]; exact Hpu.out, .inl ⟨by rw [Hes2.out, ← summedB_pure (fun t ht => (hoks.out t ht).len)]; exact hS, rfl⟩⟩⟩
              clear hS
              go_wp2_with fail
              with_reducible refine HSu.out.mono ?_
              rintro e w5 ⟨rfl, hb5⟩
              go_wp2
              go_ret2
              exact HR.out _ (hbel.trans (hb5.mono hbel.size))
            | true =>
              rw [hS] at HSu
              have HSS := Lib.hid hS
              clear hS
              go_wp2_with fail
              with_reducible refine HSu.out.mono ?_
              rintro e w5 ⟨rfl, hb5⟩
              have hs : CS w w5 tg c2 j l 0 l := ⟨hown.below hb5, rfl, fun i t hi => absurd hi (by omega), fun i t _ ht => hoks.out t (List.mem_of_getElem? ht), fun t ht => ⟨(hoks.out t ht).2.1, (hoks.out t ht).2.2, (hoks.out t ht).len⟩, hbel.trans (hb5.mono hbel.size)⟩
              have HS0 := Lib.hid hs
              have Hll := Lib.hid hown.len
              have HPL := Lib.hid (summedB_pure (zs := zs) (es := es) (fun t ht => (hoks.out t ht).len))
              clear hs hown hbel hb5 HSu
              go_wp2
              go_loopw [66] (fun i wr => ∃ (i' : Nat) (l2 : List Tab), i' ≤ j ∧ i = .int .i64 i' ∧ CS w wr tg c2 j l i' l2) (fun i _ => j - (intOf i).toNat)
              case atStart => exact ⟨0, l, Nat.zero_le _, rfl, HS0.out⟩
              case round =>
                clear HS0
                obtain ⟨i', l2, hi', rfl, hs⟩ := hrel
                by_cases hlt2 : i' < j
                · obtain ⟨t, ht⟩ : ∃ t, l2[i']? = some t := ⟨_, List.getElem?_eq_getElem (by have := hs.own.len; omega)⟩
                  obtain ⟨g', off', e', _, hcl⟩ := (hs.own.row encT_len).at encT_len (by omega) ht
                  simp only [Option.some.injEq, Addr.mk.injEq, and_true] at e'
                  obtain ⟨rfl, rfl⟩ := e'
                  have q1 : wr.cell? ⟨tg, i' * 2 + 1, none⟩ = some (.slice t.A t.n t.c) := by have := hcl 1 _ rfl; rwa [Nat.zero_add] at this
                  have hto := (hs.left i' t (Nat.le_refl _) ht).below hs.bel
                  have Ht := Lib.hid ht
                  have hk0 : (0 : Int) ≤ (i' : Int) := by omega
                  have hk1 : (i' : Int) < (j : Int) := by omega
                  have HC := Lib.hid (clone_any t.A t.n t.c t.zs wr hto.1 (by have := hto.2.2; omega))
                  clear hcl ht hto
                  go_wp2_with fail
                  with_reducible refine HC.out.mono ?_
                  rintro e w6 ⟨A6, n6, c6, rfl, ho6, hb6⟩
                  have q2 : w6.cell? ⟨tg, i' * 2 + 1, none⟩ = some (.slice t.A t.n t.c) := (World.cell?_of_block (w := wr) (a := ⟨tg, i' * 2 + 1, none⟩) (hb6.block _ (World.block_lt_of_cell? wr _ q1))).trans q1
                  have f2 := (hs.own.below hb6).thaw
                  have H6 := Lib.hid (hs.next Ht.out hb6 ho6)
                  clear hs q1 HC ho6 hb6
                  go_wp2
                  go_roundw
                  case rel => exact ⟨i' + 1, _, by omega, by go_num, H6.out⟩
                  case measure => simp [intOf]; omega
                · obtain rfl : i' = j := by omega
                  go_wp2
                  go_ret2
                  refine ⟨hs.bel, .inr ⟨HFF.out, l2, by rw [Hes2.out, hs.pure]; exact Hpu.out, .inr ⟨?_, _, _, _, rfl, hs.own, fun t ht => ?_⟩⟩⟩
                  · rw [Hes2.out, hs.pure, ← HPL.out]
                    exact HSS.out
                  · obtain ⟨i, hi⟩ := List.getElem?_of_mem ht
                    have hf := hs.fine t ht
                    have hil : i < l2.length := (List.getElem?_eq_some_iff.1 hi).1
                    exact ⟨hs.done i t (by have := hs.own.len; omega) hi, hf.1, hf.2.1⟩

end Go.Proofs.Ytlkidnacfljpkaa
