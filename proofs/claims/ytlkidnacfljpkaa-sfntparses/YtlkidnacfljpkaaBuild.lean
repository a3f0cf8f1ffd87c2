/- What Build answers: a font's bytes of tables, as a contract over this seat's translation. -/
import Derived.Test.YtlkidnacfljpkaaSorted
import Derived.Test.YtlkidnacfljpkaaSWrite
import Derived.Deep.RegionWith
namespace Go.Proofs.Ytlkidnacfljpkaa
open Go.RowKit Go.Shelf
set_option linter.unusedVariables false

/-- The run of a copy into the midst of a fresh slice of bytes. -/
theorem run_copy_mid (w : World) (B g n c : Nat) (zs : List Int) (hown : OwnB w B (some ⟨g, 0, none⟩) n c zs) (k dl dc : Nat) (A' : Option Addr) (n' c' : Nat) (ys : List Int) (hr : Row w A' n' (cellsOf .u8 ys)) (h0 : 0 < n') (hk : k + n' ≤ n) (hd : n' ≤ dl) :
    ∃ w', (∀ ty, (Builtin.copy_ #[27, 27] ty #[.slice (some ⟨g, k, none⟩) dl dc, .slice A' n' c']).run Try.prog w = .ok (goInt n') w') ∧ OwnB w' B (some ⟨g, 0, none⟩) n c (zs.take k ++ (ys ++ zs.drop (k + n'))) ∧ w.grownBy w' (some g) := by
  have hyl := hr.len
  have hzl := hown.len
  rcases hown.shape with ⟨e, _⟩ | ⟨g', cur, e, hBg, hg, hh, hnc, hcm, hcs, htk⟩
  · cases e
  · simp only [Option.some.injEq, Addr.mk.injEq, and_true] at e
    subst e
    obtain ⟨gs, off', rfl, hg', hc'⟩ := hr.2 h0
    have hrun := fun ty => run_copy_row (P := Try.prog) w 27 27 ty 5 g k dl dc ⟨gs, off', none⟩ n' c' cur 5 (cellsOf .u8 ys) Try.underlying27 Try.u8size hh (by rw [cellsOf_length, hyl]; exact (Nat.min_eq_left hd).symm) (fun j v hv => by rw [Addr.add_lit]; exact hc' j v hv) (by rw [cellsOf_length]; omega) (cellsOf_one _ _)
    rw [show (cellsOf .u8 ys).length = n' by rw [cellsOf_length]; exact hyl] at hrun
    refine ⟨_, hrun, ⟨by rw [cellsOf_length]; simp; omega, .inr ⟨g, c, _, rfl, hBg, setRow_heap w g cur _ 5 _ hh, hnc, hcm, ?_, ?_⟩⟩, ⟨rfl, rfl, rfl, by simp, fun i _ hi => setRow_other w g i _ (fun e => hi (by rw [e]))⟩⟩
    · simp only [List.size_toArray, List.length_append, cellsOf_length, List.length_take, List.length_drop, Array.length_toList]
      omega
    · simp only [Nat.mul_one]
      rw [List.append_assoc, List.take_append, List.take_append, List.length_take, cellsOf_length, Array.length_toList, Nat.min_eq_left (by omega), List.take_take, Nat.min_eq_right (by omega), List.take_of_length_le (l := cellsOf .u8 ys) (by rw [cellsOf_length]; omega)]
      rw [show List.take k cur.toList = (cellsOf .u8 zs).take k by rw [← htk, List.take_take, Nat.min_eq_left (by omega)]]
      rw [show List.take (n - k - ys.length) (List.drop (k + n') cur.toList) = (cellsOf .u8 zs).drop (k + n') by rw [← htk, List.drop_take, show n - (k + n') = n - k - ys.length by omega]]
      simp [cellsOf]

/-- By its tag and its length alone. -/
def adjN (t : Tab) : Bool := decide (t.tag.toList = headL ∧ 12 ≤ t.n)
theorem adjN_eq {t : Tab} (h : t.zs.length = t.n) : adjN t = adjB t.tag.toList t.zs := by unfold adjN adjB; rw [h]

theorem adjustsN_any (t : Tab) (w : World) : Calls Try.prog 29 #[tabV t] w fun e w' => e = .returned (.bool (adjN t)) ∧ Below w.heap.size w w' := by
  obtain ⟨tag, A, n, c, zs⟩ := t
  have hA : Below w.heap.size w (w.alloc (.cells #[.string tag, .slice A n c] 30)) := (Below.refl _ _).alloc (Nat.le_refl _) _
  have HA := Lib.hid hA
  by_cases hh : tag.toList = [104, 101, 97, 100]
  · have H : Hid (adjN ⟨tag, A, n, c, zs⟩ = decide (12 ≤ (n : Int))) := by
      show _ = _
      unfold adjN headL
      simp only [hh]
      simp
      omega
    clear hA
    go_enter Try.func29, Try.ntmps29
    go_wp2
    go_ret
    rw [H.out]
    exact ⟨rfl, HA.out⟩
  · have H : Hid (adjN ⟨tag, A, n, c, zs⟩ = false) := by
      show _ = _
      unfold adjN headL
      simp [hh]
    clear hA
    go_enter Try.func29, Try.ntmps29
    go_wp2
    go_ret
    rw [H.out]
    exact ⟨rfl, HA.out⟩

/-- The first table that makes a file whole. -/
def adjIx : List T → Option Nat
  | [] => none
  | t :: r => if adjB t.1 t.2 = true then some 0 else (adjIx r).map (· + 1)

theorem adjIx_some : ∀ (l : List T) (i : Nat), adjIx l = some i → ∃ t, l[i]? = some t ∧ adjB t.1 t.2 = true
  | [], i, h => by simp [adjIx] at h
  | t :: r, i, h => by
    unfold adjIx at h
    split at h
    · simp at h
      subst h
      exact ⟨t, rfl, by assumption⟩
    · cases hr : adjIx r with
      | none => simp [hr] at h
      | some j =>
        simp [hr] at h
        subst h
        obtain ⟨t', h1, h2⟩ := adjIx_some r j hr
        exact ⟨t', by simpa using h1, h2⟩

theorem adjIx_pos {t : T} {r : List T} (h : adjB t.1 t.2 = true) : adjIx (t :: r) = some 0 := by rw [adjIx, if_pos h]
theorem adjIx_neg {t : T} {r : List T} (h : ¬ adjB t.1 t.2 = true) : adjIx (t :: r) = (adjIx r).map (· + 1) := by rw [adjIx, if_neg h]

theorem idx_adj : ∀ (l : List Tab), (∀ t ∈ l, t.zs.length = t.n) → ∀ i : Nat, Lib.idxByFrom (fun _ y => adjN y) default l i = match adjIx (l.map Tab.pure) with | none => -1 | some j => ((i + j : Nat) : Int)
  | [], _, _ => rfl
  | t :: r, h, i => by
    have ih := idx_adj r (fun x hx => h x (by simp [hx])) (i + 1)
    rw [List.map_cons]
    unfold Lib.idxByFrom
    rw [adjN_eq (h t (by simp))]
    by_cases hb : adjB t.tag.toList t.zs = true
    · rw [if_pos hb, adjIx_pos hb]
      simp
    · rw [if_neg hb, adjIx_neg hb, ih]
      cases hr : adjIx (r.map Tab.pure) with
      | none => rfl
      | some j =>
        show ((i + 1 + j : Nat) : Int) = ((i + (j + 1) : Nat) : Int)
        rw [show i + 1 + j = i + (j + 1) by omega]

/-- A font's bytes. -/
def buildL (l : List T) : List Int := match adjIx l with
  | none => writeL l
  | some i => (writeL l).take (placeT l i + 8) ++ (b4 ((2981146554 - rs (writeL l)) % 4294967296) ++ (writeL l).drop (placeT l i + 8 + 4))

theorem indexT_any (g n c : Nat) (l : List Tab) (w : World) (hr : RowS encT 2 w (some ⟨g, 0, none⟩) n l) (h0 : 0 < n) (hn : n ≤ 1000000) (hl : ∀ t ∈ l, t.zs.length = t.n) :
    Calls Try.prog 28 #[.slice (some ⟨g, 0, none⟩) n c, .func (.func 29) #[] #[]] w (Ret w (.int .i64 (match adjIx (l.map Tab.pure) with | none => -1 | some j => (j : Int)))) := by
  have eg : ∀ args w, (callFunc 29 args).run Try.prog w = .ok (.enter 29 args) w := enters_of Try.func29 (by kernel_rfl) rfl
  have hln := hr.len
  have hg : g < w.heap.size := by
    obtain ⟨g', off', e', hg', _⟩ := hr.2.2 (by omega)
    simp only [Option.some.injEq, Addr.mk.injEq, and_true] at e'
    omega
  have hcon := AnyQ.slices_IndexFunc Try.layIndexT 2 Try.isAgg30 Try.sizeOf30 encT encT_len adjN 29 #[] eg g 0 n c l w
    (fun W x hb => (adjustsN_any x W).mono fun e w' ⟨he, hb'⟩ => ⟨he, hb.trans (hb'.mono hb.size)⟩) (by omega) (by omega) hg (fun j hj i v hi => by
      obtain ⟨g', off', e', _, hc⟩ := hr.at encT_len (by omega) (j := j) (x := l[j]!) (by rw [getElem!_pos l j hj]; exact List.getElem?_eq_getElem hj)
      simp only [Option.some.injEq, Addr.mk.injEq, and_true] at e'
      obtain ⟨rfl, rfl⟩ := e'
      exact hc i v hi)
  change Calls Try.prog 28 _ _ _ at hcon
  rw [List.take_of_length_le (by omega)] at hcon
  refine hcon.mono ?_
  rintro e w' ⟨rfl, hb⟩
  refine ⟨?_, hb⟩
  unfold Lib.idxBy
  rw [idx_adj l hl 0]
  cases adjIx (l.map Tab.pure) <;> simp

theorem placeL_foldl (a b : Nat) (l : List Nat) : placeL (a + b) l = placeL a l + b := by
  unfold placeL
  induction l generalizing a with
  | nil => rfl
  | cons x l ih => rw [List.foldl_cons, List.foldl_cons, ← ih (a + padN x)]; congr 1; omega
theorem placeL_mono (a : Nat) (l r : List Nat) : placeL a l ≤ placeL a (l ++ r) := by
  unfold placeL
  rw [List.foldl_append]
  have : ∀ (r : List Nat) (a : Nat), a ≤ r.foldl (fun a n => a + padN n) a := by
    intro r
    induction r with
    | nil => intro a; exact Nat.le_refl _
    | cons x r ih => intro a; exact Nat.le_trans (Nat.le_add_right a (padN x)) (ih _)
  exact this _ _

theorem dataL_len (l : List T) : ∀ a, a + (dataL l).length = placeL a (l.map fun t => t.2.length) := by
  unfold dataL placeL
  induction l with
  | nil => intro a; rfl
  | cons x l ih =>
    intro a
    rw [List.map_cons, List.foldl_cons, ← ih (a + padN x.2.length), List.flatMap_cons, List.length_append, pad_len, stillL_len]
    omega

theorem placeT_full (l : List T) : placeT l l.length = placeL (12 + 16 * l.length) (l.map fun t => t.2.length) := by unfold placeT; rw [List.take_length]
theorem writeL_len (l : List T) (h4 : ∀ t ∈ l, t.1.length = 4) : (writeL l).length = placeT l l.length := by
  rw [placeT_full, ← dataL_len]
  unfold writeL
  rw [List.length_append, List.length_append, hdrL_len, entsL_len l h4 _ (Nat.le_refl _)]
theorem placeT_next (l : List T) (i : Nat) (t : T) (h : l[i]? = some t) : placeT l i + padN t.2.length ≤ placeT l l.length := by
  have h1 : (l.take (i + 1)).map (fun t => t.2.length) = (l.take i).map (fun t => t.2.length) ++ [t.2.length] := by rw [List.take_add_one, h]; simp
  have h2 : l.map (fun t => t.2.length) = (l.take (i + 1)).map (fun t => t.2.length) ++ (l.drop (i + 1)).map (fun t => t.2.length) := by rw [← List.map_append, List.take_append_drop]
  rw [placeT_full, h2, ← show placeL (12 + 16 * l.length) ((l.take (i + 1)).map fun t => t.2.length) = placeT l i + padN t.2.length by rw [h1, placeL_snoc]; rfl]
  exact placeL_mono _ _ _

theorem writeL_bytes {l : List T} (h : ∀ t ∈ l, Bytes t.2) : Bytes (writeL l) := by
  unfold writeL hdrL entsL dataL
  refine bytes_append (bytes_append (bytes_append (bytes_append (bytes_append (bytes_append (b4_bytes _) (b2_bytes _)) (b2_bytes _)) (b2_bytes _)) (b2_bytes _)) ?_) ?_
  · intro x hx
    obtain ⟨k, _, hk⟩ := List.mem_flatMap.1 hx
    revert x
    exact fun x _ hk => (bytes_append (bytes_append (bytes_append (tagN_bytes _) (b4_bytes _)) (b4_bytes _)) (b4_bytes _)) x hk
  · intro x hx
    obtain ⟨t, ht, hk⟩ := List.mem_flatMap.1 hx
    exact pad_bytes (stillL_bytes (h t ht)) x hk

/-- What Build leaves: nothing, or the font of the tables by their tags. -/
def RetBuild (w : World) (l : List Tab) (e : Ending) (w' : World) : Prop :=
  ∃ l' : List Tab, l'.Perm l ∧ l'.Pairwise (fun x y => cb y.tag.toList x.tag.toList ≥ 0) ∧ RetB w (if buildB l' = true then buildL (l'.map Tab.pure) else []) e w'

theorem build_none (A : Option Addr) (n c : Nat) (w : World) (h : cntB n = false) : Calls Try.prog 8 #[.slice A n c] w fun e w' => e = .returned (.slice none 0 0) ∧ w = w' := by
  go_enter Try.func8, Try.ntmps8
  go_wp2_with fail
  refine (countable_any _ _).mono ?_
  rintro e w' ⟨rfl, rfl⟩
  go_wp2
  go_ret
  exact ⟨rfl, rfl⟩

theorem row_alloc_wr (w : World) : Below w.heap.size w (w.alloc (.cells #[.slice none 0 0] 62)) := (Below.refl _ _).alloc (Nat.le_refl _) _

set_option maxRecDepth 100000 in
set_option maxHeartbeats 4000000 in
theorem build_any (A : Option Addr) (n c : Nat) (l : List Tab) (w : World) (hr : RowS encT 2 w A n l) (hok : ∀ t ∈ l, t.ok w) (h0 : 1 ≤ n) (hn : n ≤ 64) :
    Calls Try.prog 8 #[.slice A n c] w (RetBuild w l) := by
  have hcn : cntB n = true := by unfold cntB; simp; omega
  have Hn := Lib.hid hr.len
  have HO := Lib.hid hok
  obtain ⟨g, off, rfl, hg, _⟩ := hr.2.2 (by omega)
  clear hok
  go_enter Try.func8, Try.ntmps8
  go_wp2_with fail
  refine (countable_any _ _).mono ?_
  rintro e w' ⟨rfl, rfl⟩
  go_wp2_with fail
  refine (cloneT_any g off n c l _ hr (by omega) (by omega)).mono ?_
  rintro e w1 ⟨A1, n1, c1, rfl, hown1, hb1⟩
  obtain rfl : n1 = n := by have := hown1.len; have := Hn.out; omega
  have hc1 := hown1.cap
  obtain ⟨g1, rfl⟩ : ∃ g1, A1 = some ⟨g1, 0, none⟩ := by
    rcases hown1.shape with ⟨_, h, _⟩ | ⟨g1, _, h, _⟩
    · have := Hn.out; rw [h] at this; simp at this; omega
    · exact ⟨g1, h⟩
  have hg1 := hown1.from_ g1 rfl
  go_wp2_with fail
  refine (sortT_any g1 n1 c1 _ l _ hown1 (by omega)).mono ?_
  rintro e w2 ⟨rfl, l', hp, hs, hr2, hgr⟩
  have hb2 : Below w.heap.size w w2 := hb1.grown hgr hb1.size (fun k e => by cases e; exact hg1.1)
  have Hl' := Lib.hid hr2.len
  have HO' : Hid (∀ t ∈ l', t.ok w2) := fun t ht => (HO.out t (hp.mem_iff.1 ht)).below hb2
  clear hown1 hgr hb1 hr HO
  have hs2 := hb2.size
  go_wp2_with fail
  refine (buildable_any _ n1 c1 l' _ hr2 (fun t ht => (HO'.out t ht).2.2) (by omega) hc1).mono ?_
  rintro e w3 ⟨rfl, hb3⟩
  have hr3 := hr2.below hb3
  have hB3 := hb2.trans (hb3.mono hs2)
  have HO3 : Hid (∀ t ∈ l', t.ok w3) := fun t ht => (HO'.out t ht).below hb3
  clear hr2 hb3 hb2 HO'
  cases hbb : buildB l' with
  | false =>
    have HR : Hid (RetBuild w l (.returned (.slice none 0 0)) w3) := ⟨l', hp, hs, none, 0, 0, rfl, by rw [hbb]; simpa using Own.nil _ _ _ _, hB3⟩
    clear hbb hp hs
    go_wp2
    go_ret
    exact HR.out
  | true =>
    have hb' := hbb
    unfold buildB at hb'
    simp only [Bool.and_eq_true, decide_eq_true_eq] at hb'
    obtain ⟨htg, hpl⟩ := hb'
    have h4 : ∀ t ∈ l', t.tag.size = 4 := by
      intro t ht
      obtain ⟨k, hk⟩ := List.getElem?_of_mem ht
      have hkl := (List.getElem?_eq_some_iff.1 hk).1
      have h1 := List.all_eq_true.1 htg k (List.mem_range.2 hkl)
      unfold fineB at h1
      rw [tagLs_get hk, size_toList] at h1
      simp at h1
      exact h1.1
    rw [Hl'.out] at hpl
    have Hbb := Lib.hid hbb
    have Hp := Lib.hid hp
    have Hs := Lib.hid hs
    have H4 := Lib.hid h4
    have hlenL : Hid ((writeL (l'.map Tab.pure)).length = placeT (l'.map Tab.pure) n1) := by
      show _ = _
      rw [writeL_len _ (fun x hx => by obtain ⟨y, hy, rfl⟩ := List.mem_map.1 hx; show y.tag.toList.length = 4; rw [size_toList]; exact h4 y hy), List.length_map, Hl'.out]
    have hpt : ∀ i, i ≤ n1 → placeL (12 + 16 * n1) ((l'.take i).map Tab.n) = placeT (l'.map Tab.pure) i := by
      intro i _
      unfold placeT
      rw [List.length_map, Hl'.out]
      congr 1
      rw [← List.map_take, List.map_map]
      apply List.map_congr_left
      intro x hx
      exact (HO3.out x (List.mem_of_mem_take hx)).len.symm
    have hfl : placeT (l'.map Tab.pure) n1 ≤ 67108864 := by
      rw [← hpt n1 (Nat.le_refl _), List.take_of_length_le (by have := Hl'.out; omega)]
      exact hpl
    have HPT := Lib.hid hpt
    clear hbb hp hs h4 htg hpt
    have hs3 := hB3.size
    go_wp2_with fail
    refine (write_any _ n1 c1 l' _ hr3 HO3.out h0 hn hc1 H4.out hpl).mono ?_
    rintro e w4 ⟨A4, n4, c4, rfl, hown4, hb4⟩
    have hr4 := hr3.below hb4
    have hB4 := hB3.trans (hb4.mono hs3)
    have hs4 := hb4.size
    have hn4 : n4 ≤ 67108864 := by have := hown4.len; rw [hlenL.out] at this; omega
    have HO4 : Hid (∀ t ∈ l', t.ok w4) := fun t ht => (HO3.out t ht).below hb4
    clear hr3 hb4 HO3 hB3
    go_wp2_with fail
    refine (indexT_any g1 n1 c1 l' _ hr4 (by omega) (by omega) (fun t ht => (HO4.out t ht).len)).mono ?_
    rintro e w5 ⟨rfl, hb5⟩
    have hr5 := hr4.below hb5
    have hown5 := hown4.below hb5
    have hB5 := hB4.trans (hb5.mono (by omega))
    have hs5 := hb5.size
    clear hr4 hb5 hown4 hB4
    cases hix : adjIx (l'.map Tab.pure) with
    | none =>
      have HR : Hid (RetBuild w l (.returned (.slice A4 n4 c4)) w5) := ⟨l', Hp.out, Hs.out, A4, n4, c4, rfl, by rw [Hbb.out, if_pos rfl, buildL, hix]; exact hown5.mono (by omega), hB5⟩
      clear hix
      simp only
      go_wp2
      go_ret
      exact HR.out
    | some i =>
      obtain ⟨ti, hti, hadj⟩ := adjIx_some _ _ hix
      have hi : i < n1 := by have := (List.getElem?_eq_some_iff.1 hti).1; rw [List.length_map] at this; have := Hl'.out; omega
      have hnx := placeT_next _ _ _ hti
      have h12 : 12 ≤ padN ti.2.length := by unfold adjB at hadj; simp at hadj; unfold padN; omega
      have hl4 := hown5.len
      rw [hlenL.out] at hl4
      rw [List.length_map, Hl'.out] at hnx
      have hBy : Hid (Bytes (writeL (l'.map Tab.pure))) := writeL_bytes (fun x hx => by obtain ⟨y, hy, rfl⟩ := List.mem_map.1 hx; exact (HO4.out y hy).2.1)
      have HL : Hid (buildL (l'.map Tab.pure) = (writeL (l'.map Tab.pure)).take (placeT (l'.map Tab.pure) i + 8) ++ (b4 ((2981146554 - rs (writeL (l'.map Tab.pure))) % 4294967296) ++ (writeL (l'.map Tab.pure)).drop (placeT (l'.map Tab.pure) i + 8 + 4))) := by
        show _ = _
        rw [buildL, hix]
      have hpo := fun W (hW : Below w5.heap.size w5 W) => placeOf_any (some ⟨g1, 0, none⟩) n1 c1 l' i W (hr5.below hW) (fun x hx => (HO4.out x hx).2.2) (by omega) (by omega) hc1
      simp only [HPT.out i (by omega)] at hpo
      have HPO := Lib.hid hpo
      obtain ⟨g4, rfl⟩ : ∃ g4, A4 = some ⟨g4, 0, none⟩ := by
        rcases hown5.shape with ⟨_, h, h', _⟩ | ⟨g4, _, h, _⟩
        · omega
        · exact ⟨g4, h⟩
      have hg4 := hown5.from_ g4 rfl
      have hc4 := hown5.cap
      generalize placeT (l'.map Tab.pure) i = pl at *
      generalize hzz : writeL (l'.map Tab.pure) = zs at *
      obtain ⟨ad, had⟩ : ∃ x, (2981146554 - rs zs) % 4294967296 = x := ⟨_, rfl⟩
      have hadb : 0 ≤ ad ∧ ad < 4294967296 := by omega
      obtain ⟨ad0, ad1⟩ := hadb
      rw [had] at HL
      have Had := Lib.hid had
      have hw0 := wr_new w5
      have hV0 := row_alloc_wr w5
      have x1 : IntKind.i64.wrap ((pl : Int) + 8) = (pl : Int) + 8 := IntWalk.i64_in _ (by omega)
      have x2 : (0 : Int) ≤ (pl : Int) + 8 := by omega
      have x3 : ((pl : Int) + 8).toNat = pl + 8 := by omega
      have x4 : (pl : Int) + 8 ≤ (n4 : Int) := by omega
      have x5 : (0 ≤ (pl : Int) + 8 ∧ (pl : Int) + 8 ≤ (n4 : Int)) := ⟨x2, x4⟩
      have x6 : ¬ c4 = pl + 8 := by omega
      have k1 : pl + 8 + 4 ≤ n4 := by omega
      clear had hzz hpo hix hti hadj hnx h12 hl4 hr5 hpl hfl HPT hlenL
      simp only
      go_wp2_with fail
      generalize w5.alloc (.cells #[.slice none 0 0] 62) = V at *
      have hV := hV0.drew
      have hwV : Wr V.drew w5.heap.size w5.heap.size [] := hw0
      clear hV0 hw0
      go_region_with (first
        | (go_at_call 30; refine (HPO.out _ hV).mono ?_; rintro e w6 ⟨rfl, hb6⟩; have hv6 := hV.trans (hb6.mono hV.size); have hw6 := hwV.below hb6; clear hb6)
        | (go_at_call 32; refine (adjust_rs_any _ _ _ zs _ (hown5.below hv6).row hBy.out (by omega)).mono ?_; rintro e w7 ⟨rfl, hb7⟩; rw [Had.out]; have hv7 := hv6.trans (hb7.mono hv6.size); have hw7 := hw6.below hb7; clear hb7)
        | (go_at_call 31; refine (wu32_any _ _ _ ad _ hw7 (by simp) ad0 ad1).mono ?_; rintro e w8 ⟨rfl, hw8, t8⟩; have hv8 := hw7.older hv7 (Nat.le_refl _) t8; clear t8)
        | (go_at_call 33; refine (done_any _ _ _ _ hw8 (by simp [b4, b2])).mono ?_; rintro e w9 ⟨A9, n9, c9, rfl, hown9, hb9⟩; have hv9 := hv8.trans (hb9.mono hv8.size); have hn9 : n9 = 4 := hown9.len.symm; subst hn9; obtain ⟨w10, hcp, hown10, hg10⟩ := run_copy_mid w9 w3.heap.size g4 n4 c4 zs (hown5.below hv9) (pl + 8) (n4 - (pl + 8)) (c4 - (pl + 8)) A9 4 c9 (b4 ad) hown9.row (by omega) k1 (by omega); clear hb9 hown9))
      all_goals go_wp2
      all_goals go_ret
      refine ⟨l', Hp.out, Hs.out, _, _, _, rfl, ?_, ?_⟩
      · rw [Hbb.out, if_pos rfl, HL.out]
        exact hown10.mono (by omega)
      · exact (hB5.trans (hv9.mono (by omega))).grown hg10 (by have := hv9.size; omega) (fun q e => by cases e; omega)

end Go.Proofs.Ytlkidnacfljpkaa
