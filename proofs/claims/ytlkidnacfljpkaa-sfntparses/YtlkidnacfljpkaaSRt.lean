/- A font's bytes of tables are read again: plain lists. -/
import Derived.Test.YtlkidnacfljpkaaRParM
namespace Go.Proofs.Ytlkidnacfljpkaa
set_option linter.unusedVariables false
set_option linter.unusedSimpArgs false

/-- Tables that a font may be made of, in the order of their tags. -/
structure FineT (l : List T) : Prop where
  h1 : 1 ≤ l.length
  h64 : l.length ≤ 64
  tag : ∀ t ∈ l, t.1.length = 4
  rise : l.Pairwise fun x y => cb x.1 y.1 < 0
  bytes : ∀ t ∈ l, Bytes t.2
  size : placeT l l.length ≤ 67108864

/-- A table's data as the font has them. -/
def laidL (x : Int) (t : T) : List Int := if adjB t.1 t.2 = true then t.2.take 8 ++ (b4 x ++ t.2.drop 12) else t.2
theorem adj_len {t : T} (h : adjB t.1 t.2 = true) : t.1 = headL ∧ 12 ≤ t.2.length := by unfold adjB at h; simpa using h
theorem laid_len (x : Int) (t : T) : (laidL x t).length = t.2.length := by
  unfold laidL
  split
  · rename_i h
    have := (adj_len h).2
    simp [b4_len]
    omega
  · rfl
theorem laid_adj (x : Int) (t : T) : adjB t.1 (laidL x t) = adjB t.1 t.2 := by unfold adjB; rw [laid_len]
theorem laid_still (x : Int) (t : T) : stillL t.1 (laidL x t) = stillL t.1 t.2 := by
  unfold stillL
  rw [laid_adj]
  split
  · rename_i h
    have h2 := (adj_len h).2
    have h8 : (t.2.take 8).length = 8 := by simp; omega
    have e : ∀ p : List Int, p.length = 8 → List.drop (8 + 4) (p ++ (b4 x ++ t.2.drop 12)) = t.2.drop (8 + 4) := fun p hp => by
      rw [← List.drop_drop, show List.drop 8 (p ++ (b4 x ++ t.2.drop 12)) = b4 x ++ t.2.drop 12 by rw [← hp, List.drop_left]]
      rfl
    unfold laidL zeroedL
    rw [if_pos h, List.take_append_of_le_length (by omega), List.take_of_length_le (l := t.2.take 8) (by omega), e _ h8]
  · rename_i h
    unfold laidL
    rw [if_neg h]
theorem laid_bytes {t : T} (x : Int) (h : Bytes t.2) : Bytes (laidL x t) := by
  unfold laidL
  split
  · exact bytes_append (fun y hy => h y (List.mem_of_mem_take hy)) (bytes_append (b4_bytes _) (fun y hy => h y (List.mem_of_mem_drop hy)))
  · exact h

/-- The data of all tables, each up to a multiple of four. -/
def bodyL (g : T → List Int) (l : List T) : List Int := l.flatMap fun t => pad (g t)
theorem body_len {g : T → List Int} (hg : ∀ t, (g t).length = t.2.length) (l : List T) : ∀ a, a + (bodyL g l).length = placeL a (l.map fun t => t.2.length) := by
  unfold bodyL placeL
  induction l with
  | nil => intro a; rfl
  | cons x l ih =>
    intro a
    rw [List.map_cons, List.foldl_cons, ← ih (a + padN x.2.length), List.flatMap_cons, List.length_append, pad_len, hg]
    omega
theorem body_app (g : T → List Int) (a b : List T) : bodyL g (a ++ b) = bodyL g a ++ bodyL g b := by unfold bodyL; rw [List.flatMap_append]

/-- What stands ahead of the tables. -/
def frontL (l : List T) : List Int := hdrL l.length ++ entsL l l.length
theorem front_len {l : List T} (h : FineT l) : (frontL l).length = 12 + 16 * l.length := by unfold frontL; rw [List.length_append, hdrL_len, entsL_len l h.tag _ (Nat.le_refl _)]
def fontL (x : Int) (l : List T) : List Int := frontL l ++ bodyL (laidL x) l
theorem fontL_len {l : List T} (h : FineT l) (x : Int) : (fontL x l).length = placeT l l.length := by
  unfold fontL
  rw [List.length_append, front_len h, body_len (laid_len x), placeT_full]
theorem placeL_mod (l : List Nat) : ∀ a, a % 4 = 0 → placeL a l % 4 = 0 ∧ a ≤ placeL a l := by
  unfold placeL
  induction l with
  | nil => intro a h; exact ⟨h, Nat.le_refl _⟩
  | cons x l ih =>
    intro a h
    rw [List.foldl_cons]
    have hp := padN_mod x
    obtain ⟨h1, h2⟩ := ih (a + padN x) (by omega)
    exact ⟨h1, by omega⟩
theorem placeT_mod (l : List T) (i : Nat) : placeT l i % 4 = 0 ∧ 12 + 16 * l.length ≤ placeT l i := placeL_mod _ _ (by omega)
theorem padN_ge (n : Nat) : n ≤ padN n := by unfold padN; omega

/-- What stands from the table i on. -/
theorem font_drop {l : List T} (h : FineT l) (x : Int) (i : Nat) : (fontL x l).drop (placeT l i) = bodyL (laidL x) (l.drop i) := by
  have e : fontL x l = (frontL l ++ bodyL (laidL x) (l.take i)) ++ bodyL (laidL x) (l.drop i) := by
    unfold fontL
    rw [List.append_assoc, ← body_app, List.take_append_drop]
  have hl : (frontL l ++ bodyL (laidL x) (l.take i)).length = placeT l i := by
    rw [List.length_append, front_len h, body_len (laid_len x)]
    rfl
  rw [e, ← hl, List.drop_left]
theorem font_part {l : List T} (h : FineT l) (x : Int) {i : Nat} {t : T} (ht : l[i]? = some t) : part (fontL x l) (placeT l i) (placeT l i + t.2.length) = laidL x t := by
  have hi := (List.getElem?_eq_some_iff.1 ht).1
  have hd : l.drop i = t :: l.drop (i + 1) := by rw [List.drop_eq_getElem_cons hi, (List.getElem?_eq_some_iff.1 ht).2]
  unfold part
  rw [List.drop_take, show placeT l i + t.2.length - placeT l i = (laidL x t).length by rw [laid_len]; omega, font_drop h, hd]
  unfold bodyL pad
  rw [List.flatMap_cons, List.append_assoc, List.take_left]

theorem win_in {f : List Int} {a M : Nat} {E : List Int} (h : (f.drop a).take M = E) (b m : Nat) (hb : b + m ≤ M) : (f.drop (a + b)).take m = (E.drop b).take m := by
  rw [← h, List.drop_take, List.take_take, List.drop_drop, Nat.min_eq_left (by omega)]

theorem ents_win {l : List T} (h : FineT l) : ∀ (k i : Nat), i < k → k ≤ l.length → ((entsL l k).drop (16 * i)).take 16 = entL l i
  | 0, i, hi, _ => absurd hi (by omega)
  | k + 1, i, hi, hk => by
    have hlen := entsL_len l h.tag k (by omega)
    have hlen1 := entsL_len l h.tag (k + 1) hk
    rw [entsL_succ] at hlen1 ⊢
    by_cases e : i = k
    · subst e
      rw [← hlen, List.drop_left, List.take_of_length_le]
      rw [List.length_append] at hlen1
      omega
    · rw [List.drop_append_of_le_length (by omega), List.take_append_of_le_length (by rw [List.length_drop]; omega)]
      exact ents_win h k i (by omega) (by omega)

theorem font_win {l : List T} (h : FineT l) (x : Int) {i : Nat} (hi : i < l.length) : ((fontL x l).drop (12 + 16 * i)).take 16 = entL l i := by
  have hlen := entsL_len l h.tag l.length (Nat.le_refl _)
  unfold fontL frontL
  rw [List.append_assoc, ← List.drop_drop, show (12 : Nat) = (hdrL l.length).length from rfl, List.drop_left, List.drop_append_of_le_length (by omega), List.take_append_of_le_length (by rw [List.length_drop]; omega)]
  exact ents_win h _ i hi (Nat.le_refl _)
theorem font_head {l : List T} (x : Int) : ((fontL x l).drop 0).take 12 = hdrL l.length := by
  unfold fontL frontL
  rw [List.drop_zero, List.append_assoc, show (12 : Nat) = (hdrL l.length).length from rfl, List.take_left]

theorem u8s_tagN (tag : List UInt8) : u8s (tagN tag) = tag := by
  unfold u8s tagN
  rw [List.map_map]
  conv => rhs; rw [← List.map_id tag]
  apply List.map_congr_left
  intro b _
  simp

/-- What the directory tells of the table i. -/
theorem font_ent {l : List T} (h : FineT l) (x : Int) {i : Nat} {t : T} (ht : l[i]? = some t) :
    (entOf (fontL x l) i).tag.toList = t.1 ∧ (entOf (fontL x l) i).sm = sumL t.1 t.2 ∧ (entOf (fontL x l) i).at_ = (placeT l i : Nat) ∧ (entOf (fontL x l) i).sz = (t.2.length : Nat) := by
  have hi := (List.getElem?_eq_some_iff.1 ht).1
  have hgd : l.getD i default = t := by rw [List.getD_eq_getElem?_getD, ht]; rfl
  have hw := font_win h x hi
  have hlen := fontL_len h x
  have hpl := placeT_next l i t ht
  have hge := placeT_mod l l.length
  have hpi := placeT_mod l i
  have hpd := padN_ge t.2.length
  have hsz := h.size
  have h4 := h.tag t (List.mem_of_getElem? ht)
  have hE : entL l i = tagN t.1 ++ b4 (sumL t.1 t.2) ++ b4 (placeT l i : Nat) ++ b4 (t.2.length : Nat) := by unfold entL; rw [hgd]
  have hT : (tagN t.1).length = 4 := by rw [tagN_len]; exact h4
  rw [hE] at hw
  have hs0 : 0 ≤ sumL t.1 t.2 ∧ sumL t.1 t.2 < 4294967296 := by unfold sumL; omega
  have w0 := win_in hw 0 4 (by omega)
  have w1 := win_in hw 4 4 (by omega)
  have w2 := win_in hw 8 4 (by omega)
  have w3 := win_in hw 12 4 (by omega)
  obtain ⟨p, q, r, u, hT4⟩ : ∃ p q r u, tagN t.1 = [p, q, r, u] := by
    match tagN t.1, hT with
    | [p, q, r, u], _ => exact ⟨p, q, r, u, rfl⟩
  rw [hT4] at w0 w1 w2 w3
  have hfl : 12 + 16 * i + 16 ≤ (fontL x l).length := by rw [hlen]; omega
  refine ⟨?_, ?_, ?_, ?_⟩
  · show (strOfNums (told ((fontL x l).drop (12 + 16 * i)) 4)).toList = t.1
    have e : told ((fontL x l).drop (12 + 16 * i)) 4 = tagN t.1 := by
      unfold told
      rw [if_pos (by rw [List.length_drop]; omega), hT4]
      exact w0
    rw [e, strOf_list, u8s_tagN]
  · exact n4at_of (w1.trans rfl) hs0.1 hs0.2
  · show n4at (fontL x l) (12 + 16 * i + 4 + 4) = _
    rw [show 12 + 16 * i + 4 + 4 = 12 + 16 * i + 8 by omega]
    exact n4at_of (w2.trans rfl) (by omega) (by omega)
  · show n4at (fontL x l) (12 + 16 * i + 4 + 4 + 4) = _
    rw [show 12 + 16 * i + 4 + 4 + 4 = 12 + 16 * i + 12 by omega]
    exact n4at_of (w3.trans rfl) (by omega) (by omega)

theorem font_cnt {l : List T} (h : FineT l) (x : Int) : n2at (fontL x l) 4 = (l.length : Nat) ∧ cntN (fontL x l) = l.length := by
  have h1 := h.h1
  have h64 := h.h64
  have w : ((fontL x l).drop 4).take 2 = ((hdrL l.length).drop 4).take 2 := win_in (font_head (l := l) x) 4 2 (by omega)
  have e : n2at (fontL x l) 4 = (l.length : Nat) := n2at_of (w.trans rfl) (by omega) (by omega)
  exact ⟨e, by unfold cntN; rw [e]; omega⟩

theorem font_dir {l : List T} (h : FineT l) (x : Int) : dirB ((fontL x l).take 1036) = true := by
  have h1 := h.h1
  have h64 := h.h64
  obtain ⟨e4, ec⟩ := font_cnt h x
  obtain ⟨s0, s1, s2, s3, s4, s5, s6⟩ := sr_le l.length h1 h64
  have w0 : ((fontL x l).drop 0).take 4 = ((hdrL l.length).drop 0).take 4 := win_in (font_head (l := l) x) 0 4 (by omega)
  have w6 : ((fontL x l).drop 6).take 2 = ((hdrL l.length).drop 6).take 2 := win_in (font_head (l := l) x) 6 2 (by omega)
  have w8 : ((fontL x l).drop 8).take 2 = ((hdrL l.length).drop 8).take 2 := win_in (font_head (l := l) x) 8 2 (by omega)
  have w10 : ((fontL x l).drop 10).take 2 = ((hdrL l.length).drop 10).take 2 := win_in (font_head (l := l) x) 10 2 (by omega)
  have e0 : n4at (fontL x l) 0 = 65536 := n4at_of (w0.trans rfl) (by omega) (by omega)
  have e6 : n2at (fontL x l) 6 = sr1 l.length := n2at_of (w6.trans rfl) (by omega) (by omega)
  have e8 : n2at (fontL x l) 8 = sr2 l.length := n2at_of (w8.trans rfl) (by omega) (by omega)
  have e10 : n2at (fontL x l) 10 = sr3 l.length := n2at_of (w10.trans rfl) (by omega) (by omega)
  rw [dirB_take, e4, ec, e0]
  unfold searchB cntB
  rw [ec, e6, e8, e10, fontL_len h, decide_eq_true (placeT_mod l l.length).2, decide_eq_true (show 1 ≤ ((l.length : Nat) : Int) ∧ ((l.length : Nat) : Int) ≤ 64 by omega)]
  simp

theorem cb_no {a b : List UInt8} (h : cb a b < 0) : leS b a = false := by
  unfold leS
  rw [less_cb, Bool.or_eq_false_iff]
  have e := cb_anti b a
  refine ⟨by simp; omega, ?_⟩
  rw [beq_eq_false_iff_ne]
  rintro rfl
  rw [cb_self] at h
  omega

theorem font_form {l : List T} (h : FineT l) (x : Int) : formB (fontL x l) = true := by
  obtain ⟨e4, ec⟩ := font_cnt h x
  rw [formB_is (font_dir h x) (by rw [ec]; exact h.h64), ec]
  unfold okK
  rw [List.all_eq_true]
  intro i hi
  have hi := List.mem_range.1 hi
  obtain ⟨t, ht⟩ : ∃ t, l[i]? = some t := ⟨_, List.getElem?_eq_getElem hi⟩
  obtain ⟨a1, a2, a3, a4⟩ := font_ent h x ht
  have hpl := placeT_next l i t ht
  have hpi := placeT_mod l i
  have hpd := padN_ge t.2.length
  unfold okAt
  rw [Bool.and_eq_true]
  constructor
  · by_cases h0 : i = 0
    · simp [h0]
    · obtain ⟨s, hs⟩ : ∃ s, l[i - 1]? = some s := ⟨_, List.getElem?_eq_getElem (by omega)⟩
      obtain ⟨b1, _, _, _⟩ := font_ent h x hs
      unfold tagAt
      rw [a1, b1]
      have hr := List.pairwise_iff_getElem.1 h.rise (i - 1) i (by omega) hi (by omega)
      rw [(List.getElem?_eq_some_iff.1 ht).2, (List.getElem?_eq_some_iff.1 hs).2] at hr
      rw [cb_no hr]
      simp
  · unfold badE
    rw [a3, a4, ec, fontL_len h]
    simp
    omega

theorem font_ents {l : List T} (h : FineT l) (x : Int) : dirL ((fontL x l).take 1036) = (List.range l.length).map (entOf (fontL x l)) := by
  obtain ⟨e4, ec⟩ := font_cnt h x
  rw [dirL_take _ (by rw [ec]; exact h.h64), ec]

theorem font_pures {l : List T} (h : FineT l) (x : Int) : (dirL ((fontL x l).take 1036)).map (pureOf (fontL x l)) = l.map fun t => (t.1, laidL x t) := by
  rw [font_ents h, List.map_map]
  apply List.ext_getElem?
  intro i
  by_cases hi : i < l.length
  · obtain ⟨t, ht⟩ : ∃ t, l[i]? = some t := ⟨_, List.getElem?_eq_getElem hi⟩
    obtain ⟨a1, a2, a3, a4⟩ := font_ent h x ht
    rw [List.getElem?_map, List.getElem?_map, List.getElem?_range hi, ht]
    show some (pureOf (fontL x l) (entOf (fontL x l) i)) = some (t.1, laidL x t)
    unfold pureOf
    rw [a1, a3, a4, Int.toNat_natCast, Int.toNat_natCast, font_part h x ht]
  · rw [List.getElem?_eq_none (by simp; omega), List.getElem?_eq_none (by simp; omega)]

theorem adj_split : ∀ (l : List T), ((∀ t ∈ l, adjB t.1 t.2 = false) ∧ adjIx l = none) ∨ ∃ a t b, l = a ++ t :: b ∧ adjB t.1 t.2 = true ∧ (∀ s ∈ a, adjB s.1 s.2 = false) ∧ adjIx l = some a.length
  | [] => .inl ⟨(fun t ht => by cases ht), rfl⟩
  | t :: r => by
    cases hb : adjB t.1 t.2 with
    | true => exact .inr ⟨[], t, r, rfl, hb, (fun s hs => by cases hs), adjIx_pos hb⟩
    | false =>
      rcases adj_split r with ⟨h1, h2⟩ | ⟨a, u, b, rfl, h1, h2, h3⟩
      · refine .inl ⟨fun s hs => ?_, by rw [adjIx_neg (by rw [hb]; simp), h2]; rfl⟩
        rcases List.mem_cons.1 hs with rfl | hs
        · exact hb
        · exact h1 s hs
      · refine .inr ⟨t :: a, u, b, rfl, h1, fun s hs => ?_, by rw [adjIx_neg (by rw [hb]; simp), h3]; rfl⟩
        rcases List.mem_cons.1 hs with rfl | hs
        · exact hb
        · exact h2 s hs

theorem body_congr {g g' : T → List Int} {l : List T} (h : ∀ t ∈ l, g t = g' t) : bodyL g l = bodyL g' l := by
  unfold bodyL
  induction l with
  | nil => rfl
  | cons x l ih => rw [List.flatMap_cons, List.flatMap_cons, h x (by simp), ih (fun t ht => h t (by simp [ht]))]
theorem still_no {t : T} (h : adjB t.1 t.2 = false) (x : Int) : laidL x t = stillL t.1 t.2 := by
  unfold laidL stillL
  rw [h]
  rfl

/-- Where what makes a font whole stands. -/
theorem font_split {l a b : List T} {t : T} (h : FineT l) (hl : l = a ++ t :: b) (ht : adjB t.1 t.2 = true) (ha : ∀ s ∈ a, adjB s.1 s.2 = false) :
    ∃ P R : List Int, P.length = placeT l a.length + 8 ∧ writeL l = P ++ ([0, 0, 0, 0] ++ R) ∧ ∀ x, fontL x l = P ++ (b4 x ++ R) := by
  have hb : ∀ s ∈ b, adjB s.1 s.2 = false := fun s hs => by
    cases hs2 : adjB s.1 s.2 with
    | false => rfl
    | true =>
      have hr := h.rise
      rw [hl, List.pairwise_append] at hr
      have h1 := (List.pairwise_cons.1 hr.2.1).1 s hs
      rw [(adj_len ht).1, (adj_len hs2).1, cb_self] at h1
      omega
  have h12 := (adj_len ht).2
  refine ⟨frontL l ++ (bodyL (fun t => stillL t.1 t.2) a ++ t.2.take 8), t.2.drop 12 ++ (List.replicate (padN t.2.length - t.2.length) 0 ++ bodyL (fun t => stillL t.1 t.2) b), ?_, ?_, ?_⟩
  · have e : placeT l a.length = placeL (12 + 16 * l.length) (a.map fun t => t.2.length) := by
      unfold placeT
      rw [hl, List.take_left]
    rw [List.length_append, List.length_append, front_len h, e, ← body_len (g := fun t => stillL t.1 t.2) (fun t => stillL_len _ _), List.length_take]
    omega
  · have e : dataL l = bodyL (fun t => stillL t.1 t.2) l := rfl
    unfold writeL
    rw [e]
    conv => lhs; rw [show hdrL l.length ++ entsL l l.length = frontL l from rfl]; arg 2; rw [hl, body_app]
    rw [show bodyL (fun t => stillL t.1 t.2) (t :: b) = pad (stillL t.1 t.2) ++ bodyL (fun t => stillL t.1 t.2) b from rfl]
    unfold pad
    rw [stillL_len, show stillL t.1 t.2 = zeroedL t.2 8 4 by unfold stillL; rw [if_pos ht]]
    unfold zeroedL
    simp [List.append_assoc]
  · intro x
    unfold fontL
    conv => lhs; arg 2; rw [hl, body_app]
    rw [show bodyL (laidL x) (t :: b) = pad (laidL x t) ++ bodyL (laidL x) b from rfl, body_congr (fun s hs => still_no (ha s hs) x), body_congr (fun s hs => still_no (hb s hs) x)]
    unfold pad
    rw [laid_len]
    unfold laidL
    rw [if_pos ht]
    simp [List.append_assoc]

/-- What makes the font whole. -/
def wholeX (l : List T) : Int := (2981146554 - rs (writeL l)) % 4294967296

theorem build_font {l : List T} (h : FineT l) : buildL l = fontL (wholeX l) l := by
  rcases adj_split l with ⟨h1, h2⟩ | ⟨a, t, b, hl, h1, h2, h3⟩
  · unfold buildL
    rw [h2]
    show writeL l = _
    unfold writeL fontL
    rw [show dataL l = bodyL (fun t => stillL t.1 t.2) l from rfl, body_congr (fun s hs => still_no (h1 s hs) (wholeX l))]
    rfl
  · obtain ⟨P, R, hp, hw, hf⟩ := font_split h hl h1 h2
    unfold buildL
    rw [h3]
    show (writeL l).take (placeT l a.length + 8) ++ (b4 (wholeX l) ++ (writeL l).drop (placeT l a.length + 8 + 4)) = _
    rw [hf, hw, ← hp, List.take_left, ← List.drop_drop, List.drop_left]
    rfl

theorem font_whole {l : List T} (h : FineT l) (ha : (l.any fun t => adjB t.1 t.2) = true) : rs (fontL (wholeX l) l) % 4294967296 = 2981146554 := by
  rcases adj_split l with ⟨h1, h2⟩ | ⟨a, t, b, hl, h1, h2, h3⟩
  · obtain ⟨t, ht, h4⟩ := List.any_eq_true.1 ha
    rw [h1 t ht] at h4
    cases h4
  · obtain ⟨P, R, hp, hw, hf⟩ := font_split h hl h1 h2
    have hm := placeT_mod l a.length
    have e1 : rs (writeL l) = rs P + rs R := by
      rw [hw, rs_append _ _ (by omega), rs_append [0, 0, 0, 0] _ (by decide), show rs [0, 0, 0, 0] = 0 by decide]
      omega
    have hx : 0 ≤ wholeX l ∧ wholeX l < 4294967296 := by unfold wholeX; omega
    rw [hf, rs_append _ _ (by omega), rs_append (b4 _) _ (by rw [b4_len]), rs_b4 _ hx.1 hx.2]
    unfold wholeX
    omega

theorem font_bytes {l : List T} (h : FineT l) (x : Int) : Bytes (fontL x l) := by
  have hw := writeL_bytes h.bytes
  unfold fontL
  refine bytes_append (fun y hy => hw y (List.mem_append_left _ hy)) (fun y hy => ?_)
  obtain ⟨t, ht, hy⟩ := List.mem_flatMap.1 hy
  exact pad_bytes (laid_bytes x (h.bytes t ht)) y hy

theorem font_summed {l : List T} (h : FineT l) : summedP (fontL (wholeX l) l) (dirL ((fontL (wholeX l) l).take 1036)) (l.map fun t => (t.1, laidL (wholeX l) t)) = true := by
  unfold summedP
  rw [Bool.and_eq_true]
  constructor
  · rw [List.all_eq_true]
    intro i hi
    rw [List.length_map] at hi
    have hi := List.mem_range.1 hi
    obtain ⟨t, ht⟩ : ∃ t, l[i]? = some t := ⟨_, List.getElem?_eq_getElem hi⟩
    obtain ⟨a1, a2, a3, a4⟩ := font_ent h (wholeX l) ht
    rw [font_ents h]
    have e1 : ((List.range l.length).map (entOf (fontL (wholeX l) l))).getD i default = entOf (fontL (wholeX l) l) i := by
      rw [List.getD_eq_getElem?_getD, List.getElem?_map, List.getElem?_range hi]
      rfl
    have e2 : (l.map fun t => (t.1, laidL (wholeX l) t)).getD i ([], []) = (t.1, laidL (wholeX l) t) := by
      rw [List.getD_eq_getElem?_getD, List.getElem?_map, ht]
      rfl
    rw [e1, e2, a2]
    show (sumL t.1 (laidL (wholeX l) t) == sumL t.1 t.2) = true
    unfold sumL
    rw [laid_still]
    simp
  · by_cases ha : (l.any fun t => adjB t.1 t.2) = true
    · rw [font_whole h ha]
      simp
    · have : ((l.map fun t => (t.1, laidL (wholeX l) t)).any fun t => adjB t.1 t.2) = false := by
        rw [List.any_map]
        rw [Bool.not_eq_true, List.any_eq_false] at ha
        rw [List.any_eq_false]
        intro t ht
        show ¬ adjB t.1 (laidL (wholeX l) t) = true
        rw [laid_adj]
        exact ha t ht
      rw [this]
      simp

end Go.Proofs.Ytlkidnacfljpkaa
