/- What few lays: the first tables, with tags that rise, as a contract over this seat's translation. -/
import Derived.Test.YtlkidnacfljpkaaLaw03
import Derived.Laws.BytesArg
import Derived.Lib.SliceRun
import Derived.Deep.DeepCutAuto
import Derived.Laws.IdiomStrings
namespace Go.Proofs.Ytlkidnacfljpkaa
open Go.RowKit
set_option linter.unusedVariables false

theorem Try.rtabinfo : (Try.prog.info? 36).map (fun i => (i.zero, i.size, i.bytes)) = some (some (.agg #[.string ByteArray.empty, .slice none 0 0]), 2, 40) := by kernel_rfl

/-- 'string(b)'. -/
theorem conv_str (A : Option Addr) (n c : Nat) (zs : List Int) (w : World) (hr : Row w A n (cellsOf .u8 zs)) : (convert 27 9 (.slice A n c)).run Try.prog w = .ok (.string (strOfNums zs)) w := by
  have hl := hr.len
  rcases Nat.eq_zero_or_pos n with h0 | h0
  · subst h0
    obtain rfl : zs = [] := List.eq_nil_of_length_eq_zero hl
    cases A with
    | none => exact run_convert_bytes_nil w 27 5 Try.underlying27 Try.underlying5 0 c 9 Try.underlying9
    | some a => exact run_convert_bytes_back (P := Try.prog) w 27 9 5 a c [] Try.underlying27 Try.underlying5 Try.underlying9 (fun j hj => absurd hj (by simp))
  · obtain ⟨g, off, rfl, _, hc⟩ := hr.2 h0
    exact run_convert_bytes_arg w 27 5 Try.underlying27 Try.underlying5 g off n c zs hl (fun i hi => hc i _ (by
      rw [cellsOf, List.getElem?_map, List.getElem?_eq_getElem (by omega), List.getD_eq_getElem?_getD, List.getElem?_eq_getElem (by omega)]; rfl)) 9 Try.underlying9

/-- Numbers as a text's bytes. -/
def u8s (zs : List Int) : List UInt8 := zs.map fun z => UInt8.ofNat z.toNat
theorem strOf_list (zs : List Int) : (strOfNums zs).toList = u8s zs := by rw [ByteArray.toList_eq]; rfl

theorem less_cb : ∀ a b : List UInt8, Op.bytesLess a b = decide (cb a b < 0)
  | [], [] => rfl
  | [], _ :: _ => rfl
  | _ :: _, [] => rfl
  | x :: a, y :: b => by
    have ih := less_cb a b
    simp only [cb, Lib.compareBytes, Op.bytesLess] at *
    by_cases h1 : x < y
    · simp [h1]
    · by_cases h2 : y < x
      · have hn : x ≠ y := by rintro rfl; simp at h2
        simp [h1, h2, hn]
      · have he : x = y := by
          rw [UInt8.lt_iff_toNat_lt] at h1 h2
          exact UInt8.toNat_inj.1 (by omega)
        simp [ih, he]

/-- Not at most: above. -/
theorem above_of {a b : List UInt8} (h1 : Op.bytesLess a b = false) (h2 : (a == b) = false) : cb b a < 0 := by
  rw [less_cb] at h1
  simp at h1 h2
  rcases Int.lt_trichotomy (cb a b) 0 with h | h | h
  · omega
  · exact absurd (cb_eq a b h) h2
  · rw [cb_anti]; omega

/-- A fresh slice of bytes is no row of another kind. -/
theorem OwnB.aside {α : Type} {tt : TypeId} {enc : α → List Value} {k : Nat} {w w' : World} {B B' : Nat} {A A1 : Option Addr} {n c n1 c1 : Nat} {zs : List Int} {l : List α} (h : OwnB w B A n c zs) (h1 : OwnS tt enc k w B' A1 n1 c1 l) (ht : tt ≠ 5) (hg : w.grownBy w' (blockOf A1)) : OwnB w' B A n c zs := by
  refine h.grown hg fun g e => ?_
  rcases h.shape with ⟨rfl, _⟩ | ⟨g', cur, rfl, _, _, hh, _⟩
  · simp [blockOf] at e
  · simp [blockOf] at e
    subst e
    rcases h1.shape with ⟨rfl, _⟩ | ⟨g1, cur1, rfl, _, _, hh1, _⟩
    · simp [blockOf]
    · simp only [blockOf, Option.map_some]
      intro e
      cases e
      rw [hh] at hh1
      simp at hh1
      exact ht hh1.2.symm

theorem OwnS.aside {α β : Type} {t2 tt : TypeId} {enc : α → List Value} {enc2 : β → List Value} {k k2 : Nat} {w w' : World} {B B' : Nat} {A A1 : Option Addr} {n c n1 c1 : Nat} {l2 : List β} {l : List α} (h : OwnS t2 enc2 k2 w B A n c l2) (h1 : OwnS tt enc k w B' A1 n1 c1 l) (ht : tt ≠ t2) (hg : w.grownBy w' (blockOf A1)) : OwnS t2 enc2 k2 w' B A n c l2 := by
  refine h.grown hg fun g e => ?_
  rcases h.shape with ⟨rfl, _⟩ | ⟨g', cur, rfl, _, _, hh, _⟩
  · simp [blockOf] at e
  · simp [blockOf] at e
    subst e
    rcases h1.shape with ⟨rfl, _⟩ | ⟨g1, cur1, rfl, _, _, hh1, _⟩
    · simp [blockOf]
    · simp only [blockOf, Option.map_some]
      intro e
      cases e
      rw [hh] at hh1
      simp at hh1
      exact ht hh1.2.symm

/-- What few's tables are. -/
def FewT (w : World) (B : Nat) (t : Tab) : Prop := OwnB w B t.A t.n t.c t.zs ∧ Bytes t.zs ∧ t.n ≤ 60 ∧ t.tag.size = 4
theorem FewT.ok {w : World} {B : Nat} {t : Tab} (h : FewT w B t) : t.ok w := ⟨h.1.row, h.2.1, by have := h.2.2.1; omega⟩
theorem FewT.below {w w' : World} {B : Nat} {t : Tab} (h : FewT w B t) (hb : Below w.heap.size w w') : FewT w' B t := ⟨h.1.below hb, h.2⟩
def riseT (l : List Tab) : Prop := l.Pairwise fun x y => cb x.tag.toList y.tag.toList < 0

/-- What few leaves, in a round or behind all: two lists of one kind of tables. -/
def FewL (w wr : World) (A1 A2 : Option Addr) (m c1 c2 : Nat) (L : List Tab) : Prop :=
  OwnS 30 encT 2 wr w.heap.size A1 m c1 L ∧ OwnS 36 encT 2 wr w.heap.size A2 m c2 L ∧ (∀ t ∈ L, FewT wr w.heap.size t) ∧ riseT L ∧ Below w.heap.size w wr

theorem FewL.below {w wr w' : World} {A1 A2 : Option Addr} {m c1 c2 : Nat} {L : List Tab} (h : FewL w wr A1 A2 m c1 c2 L) (hb : Below wr.heap.size wr w') : FewL w w' A1 A2 m c1 c2 L :=
  ⟨h.1.below hb, h.2.1.below hb, fun t ht => (h.2.2.1 t ht).below hb, h.2.2.2.1, h.2.2.2.2.trans (hb.mono h.2.2.2.2.size)⟩

theorem riseT_snoc {L : List Tab} {t : Tab} (h : riseT L) (hl : ∀ s, L.getLast? = some s → cb s.tag.toList t.tag.toList < 0) : riseT (L ++ [t]) := by
  unfold riseT at *
  rw [List.pairwise_append]
  refine ⟨h, by simp, fun x hx y hy => ?_⟩
  simp at hy
  subst hy
  rcases List.eq_nil_or_concat L with rfl | ⟨L', z, rfl⟩
  · cases hx
  · have hz := hl z (by simp)
    rw [List.concat_eq_append] at h hx
    rcases List.mem_append.1 hx with hx | hx
    · exact cb_lt_trans ((List.pairwise_append.1 h).2.2 x hx z (by simp)) hz
    · simp at hx
      subst hx
      exact hz

theorem few_two {w w2 w3 : World} {A1 A2 : Option Addr} {m c1 c2 : Nat} {L : List Tab} (hF : FewL w w2 A1 A2 m c1 c2 L) {o1 : Obj} (hg6 : (w2.alloc o1).grownBy w3 (blockOf A1)) : OwnS 36 encT 2 w3 w.heap.size A2 m c2 L :=
  (hF.2.1.alloc o1).aside (hF.1.alloc o1) (by decide) hg6

theorem few_step {w w2 w3 w4 : World} {A1 A2 A6 A7 : Option Addr} {m c1 c2 c6 c7 : Nat} {L : List Tab} (hF : FewL w w2 A1 A2 m c1 c2 L) (t : Tab) (ht : FewT w2 w.heap.size t) (hl : ∀ s, L.getLast? = some s → cb s.tag.toList t.tag.toList < 0) {o1 o2 : Obj}
    (ho6 : OwnS 30 encT 2 w3 w.heap.size A6 (m + 1) c6 (L ++ [t])) (hg6 : (w2.alloc o1).grownBy w3 (blockOf A1)) (ho7 : OwnS 36 encT 2 w4 w.heap.size A7 (m + 1) c7 (L ++ [t])) (hg7 : (w3.alloc o2).grownBy w4 (blockOf A2)) : FewL w w4 A6 A7 (m + 1) c6 c7 (L ++ [t]) := by
  have h2 := few_two hF hg6
  have hs := hF.2.2.2.2.size
  have car : ∀ s, FewT w2 w.heap.size s → FewT w4 w.heap.size s := fun s hs => ⟨OwnB.aside (Own.alloc (OwnB.aside (hs.1.alloc o1) (hF.1.alloc o1) (by decide) hg6) o2) (h2.alloc o2) (by decide) hg7, hs.2⟩
  have b3 : Below w.heap.size w w3 := (hF.2.2.2.2.alloc hs o1).grown hg6 (by simp; omega) (fun q e => (hF.1.from_ q e).1)
  refine ⟨(ho6.alloc o2).aside (h2.alloc o2) (by decide) hg7, ho7, fun s hs' => ?_, riseT_snoc hF.2.2.2.1 hl, (b3.alloc b3.size o2).grown hg7 (by have := b3.size; simp; omega) (fun q e => (h2.from_ q e).1)⟩
  rcases List.mem_append.1 hs' with h | h
  · exact car s (hF.2.2.1 s h)
  · simp at h
    subst h
    exact car _ ht

theorem last_of {L : List Tab} {m j : Nat} (hl : L.length = m) (hj : m = j + 1) {s : Tab} (hs : L[j]? = some s) : ∀ s', L.getLast? = some s' → s' = s := by
  intro s' h
  rw [List.getLast?_eq_getElem?, hl, hj, show j + 1 - 1 = j by omega, hs] at h
  exact (Option.some.inj h).symm

def headS : ByteArray := ⟨#[104, 101, 97, 100]⟩
theorem headS_list : headS.toList = [104, 101, 97, 100] := by rw [ByteArray.toList_eq]; rfl

/-- What few leaves. -/
def RetFew (w : World) (e : Ending) (w' : World) : Prop := ∃ A1 A2 m c1 c2 L, e = .returned (.tuple #[.slice A1 m c1, .slice A2 m c2]) ∧ m ≤ 9 ∧ FewL w w' A1 A2 m c1 c2 L

set_option maxRecDepth 100000 in
set_option maxHeartbeats 8000000 in
theorem few_any (A : Option Addr) (n c : Nat) (l : List Tab) (w : World) (hr : RowS encT 2 w A n l) (hok : ∀ t ∈ l, Row w t.A t.n (cellsOf .u8 t.zs) ∧ Bytes t.zs ∧ t.n ≤ 9223372036854775807) (hn : n ≤ 9223372036854775807) :
    Calls Try.prog 7 #[.slice A n c] w (RetFew w) := by
  obtain ⟨i1, hi1, hz01, hz11, hz21⟩ := info_parts Try.tabinfo
  obtain ⟨i2, hi2, hz02, hz12, hz22⟩ := info_parts Try.rtabinfo
  have Hn := Lib.hid hr.len
  have HO := Lib.hid hok
  clear hok
  go_enter Try.func7, Try.ntmps7
  go_wp2
  go_loopw [4, 5, 13] (fun v x i wr => ∃ (k : Nat) (A1 A2 : Option Addr) (m c1 c2 : Nat) (L : List Tab), k ≤ n ∧ k ≤ 9 ∧ m ≤ k ∧ i = .int .i64 k ∧ v = .slice A1 m c1 ∧ x = .slice A2 m c2 ∧ FewL w wr A1 A2 m c1 c2 L) (fun _ _ i _ => n - (intOf i).toNat)
  case atStart => exact ⟨0, none, none, 0, 0, 0, [], Nat.zero_le _, by omega, Nat.le_refl _, rfl, rfl, rfl, OwnS.nil _ _ _ _ _, OwnS.nil _ _ _ _ _, (fun t ht => by cases ht), List.Pairwise.nil, Below.refl _ _⟩
  case round =>
    obtain ⟨k, A1, A2, m, c1, c2, L, hk, hk9, hmk, rfl, rfl, rfl, hF⟩ := hrel
    have hb := hF.2.2.2.2
    by_cases hlt : k < n
    · obtain ⟨t, ht⟩ : ∃ t, l[k]? = some t := ⟨l[k]'(by have := Hn.out; omega), List.getElem?_eq_getElem (by have := Hn.out; omega)⟩
      obtain ⟨g, off, rfl, hg, hcl⟩ := (hr.below hb).at encT_len (by omega) ht
      have q0 : wr.cell? ⟨g, off + k * 2, none⟩ = some (.string t.tag) := hcl 0 _ rfl
      have q1 : wr.cell? ⟨g, off + k * 2 + 1, none⟩ = some (.slice t.A t.n t.c) := hcl 1 _ rfl
      obtain ⟨hrow, hby, htn⟩ := HO.out t (List.mem_of_getElem? ht)
      have hrow' := hrow.below hb
      by_cases h9 : k < 9
      · have hcv := conv_str (some ⟨wr.heap.size + 1, 0, none⟩) 4 4 [97 + (k : Int), 98, 99, 100] ((wr.alloc (.cells (encT t).toArray 30)).alloc (.cells (cellsOf .u8 [97 + (k : Int), 98, 99, 100]).toArray 5)) (by
          have := row_lit (wr.alloc (.cells (encT t).toArray 30)) .u8 5 [97 + (k : Int), 98, 99, 100] 4 rfl
          rwa [show (wr.alloc (.cells (encT t).toArray 30)).heap.size = wr.heap.size + 1 by simp] at this)
        have hW : Below wr.heap.size wr ((wr.alloc (.cells (encT t).toArray 30)).alloc (.cells (cellsOf .u8 [97 + (k : Int), 98, 99, 100]).toArray 5)) := ((Below.refl _ _).alloc (Nat.le_refl _) _).alloc (by simp) _
        simp only [cellsOf, List.map_cons, List.map_nil, encT] at hcv hW
        have HBY := Lib.hid hby
        clear hcl ht hrow hby hr
        obtain ⟨tag, tA, tn, tc, zs⟩ := t
        simp only at q0 q1 hcv hW hrow' htn HBY
        have hsz0 : (strOfNums [97 + (k : Int), 98, 99, 100]).size = 4 := rfl
        generalize strOfNums [97 + (k : Int), 98, 99, 100] = tg at hcv hsz0
        have Hsz0 := Lib.hid hsz0
        clear hsz0
        by_cases hh : tag.toList = [104, 101, 97, 100]
        · by_cases h8 : k < 8
          · have hh8 : (decide ((k : Int) < 8)) = true := by simp; omega
            by_cases hm : 0 < m
            · obtain ⟨j, hj⟩ : ∃ j, m = j + 1 := ⟨m - 1, by omega⟩
              subst hj
              obtain ⟨s, hs⟩ : ∃ s, L[j]? = some s := ⟨L[j]'(by have := hF.1.len; omega), List.getElem?_eq_getElem (by have := hF.1.len; omega)⟩
              obtain ⟨g2, off2, hA2, hg2, hcl2⟩ := (hF.2.1.row encT_len).at encT_len (by omega) hs
              subst hA2
              have p0 : wr.cell? ⟨g2, off2 + j * 2, none⟩ = some (.string s.tag) := hcl2 0 _ rfl
              have hlst := last_of hF.1.len rfl hs
              have Hlst := Lib.hid hlst
              clear hcl2 hs hlst
              obtain ⟨stag, sA, sn, sc, szs⟩ := s
              simp only at p0
              cases h1 : Op.bytesLess [104, 101, 97, 100] stag.toList with
              | true =>
                have HF := Lib.hid (hF.below hW)
                clear hF hW hb hrow'
                go_wp2
                go_roundw
                case rel => exact ⟨k + 1, _, _, _, _, _, L, by omega, by omega, by omega, by go_num, rfl, rfl, HF.out⟩
                case measure => simp [intOf]; omega
              | false =>
                cases h2 : (([104, 101, 97, 100] : List UInt8) == stag.toList) with
                | true =>
                  have HF := Lib.hid (hF.below hW)
                  clear hF hW hb hrow'
                  go_wp2
                  go_roundw
                  case rel => exact ⟨k + 1, _, _, _, _, _, L, by omega, by omega, by omega, by go_num, rfl, rfl, HF.out⟩
                  case measure => simp [intOf]; omega
                | false =>
                  have hab := above_of h1 h2
                  have HL := Lib.hid (show ∀ s, L.getLast? = some s → cb s.tag.toList (Tab.mk headS none 0 0 []).tag.toList < 0 from fun s h => by rw [Hlst.out s h]; show cb stag.toList headS.toList < 0; rw [headS_list]; exact hab)
                  have HF0 := Lib.hid (hF.below hW)
                  have HR0 := Lib.hid (hrow'.below hW)
                  clear hF hW hb hrow'
                  go_wp2_with fail
                  refine (cut_any _ _ _ zs 60 _ HR0.out htn (by omega)).mono ?_
                  rintro e w2 ⟨A5, n5, c5, rfl, ho5, hb5⟩
                  have hF2 := HF0.out.below hb5
                  have hn5 : n5 ≤ 60 := by have := ho5.len; rw [List.length_take] at this; simp at this; omega
                  have hs2 := hF2.2.2.2.2.size
                  have hT : FewT w2 w.heap.size ⟨headS, A5, n5, c5, zs.take (60 : Int).toNat⟩ := ⟨ho5.mono (Nat.le_trans HF0.out.2.2.2.2.size (Nat.le_refl _)), (fun x hx => HBY.out x (List.mem_of_mem_take hx)), hn5, rfl⟩
                  have HT := Lib.hid hT
                  have HF2 := Lib.hid hF2
                  have ho61 := fun o => hF2.1.alloc o
                  clear hF2 hT HF0 HR0 hb5 ho5
                  go_wp2_with (first
                    | (at_builtin; refine wpList_append_rowS rfl (.tmp 49) (.tmp 53) _ rfl 30 encT 2 encT_len (by omega) encT_one w.heap.size i1 _ 40 Try.underlying22 hi1 hz01 hz11 rfl hz21 _ (j + 1) c1 L rfl (HF2.out.1.alloc _) (some ⟨w2.heap.size, 0, none⟩) 1 1 [⟨headS, A5, n5, c5, zs.take (60 : Int).toNat⟩] rfl (rowS_vals encT_len w2 30 [⟨headS, A5, n5, c5, zs.take (60 : Int).toNat⟩] _ rfl 1 rfl) (by omega) (by omega) (by simp; omega) ?_; intro A6 c6 w3 ho6 hg6; have hs3 : w2.heap.size + 1 ≤ w3.heap.size := by (have := hg6.size; simpa using this))
                    | (at_builtin; refine wpList_append_rowS rfl (.tmp 55) (.tmp 59) _ rfl 36 encT 2 encT_len (by omega) encT_one w.heap.size i2 _ 40 Try.underlying24 hi2 hz02 hz12 rfl hz22 _ (j + 1) c2 L rfl ((few_two HF2.out hg6).alloc _) (some ⟨w3.heap.size, 0, none⟩) 1 1 [⟨headS, A5, n5, c5, zs.take (60 : Int).toNat⟩] rfl (rowS_vals encT_len w3 36 [⟨headS, A5, n5, c5, zs.take (60 : Int).toNat⟩] _ rfl 1 rfl) (by omega) (by omega) (by simp; omega) ?_; intro A7 c7 w4 ho7 hg7))
                  have hFin := few_step HF2.out _ HT.out HL.out ho6 hg6 ho7 hg7
                  clear ho6 hg6 ho7 hg7 ho61
                  go_roundw
                  case rel => exact ⟨k + 1, _, _, _, _, _, _, by omega, by omega, by omega, by go_num, rfl, rfl, hFin⟩
                  case measure => simp [intOf]; omega
            · obtain rfl : m = 0 := by omega
              have HL := Lib.hid (show ∀ s, L.getLast? = some s → cb s.tag.toList (Tab.mk headS none 0 0 []).tag.toList < 0 from fun s h => by have h1 := List.eq_nil_of_length_eq_zero hF.1.len; rw [h1] at h; simp at h)
              have HF0 := Lib.hid (hF.below hW)
              have HR0 := Lib.hid (hrow'.below hW)
              clear hF hW hb hrow'
              go_wp2_with fail
              refine (cut_any _ _ _ zs 60 _ HR0.out htn (by omega)).mono ?_
              rintro e w2 ⟨A5, n5, c5, rfl, ho5, hb5⟩
              have hF2 := HF0.out.below hb5
              have hn5 : n5 ≤ 60 := by have := ho5.len; rw [List.length_take] at this; simp at this; omega
              have hs2 := hF2.2.2.2.2.size
              have hT : FewT w2 w.heap.size ⟨headS, A5, n5, c5, zs.take (60 : Int).toNat⟩ := ⟨ho5.mono (Nat.le_trans HF0.out.2.2.2.2.size (Nat.le_refl _)), (fun x hx => HBY.out x (List.mem_of_mem_take hx)), hn5, rfl⟩
              have HT := Lib.hid hT
              have HF2 := Lib.hid hF2
              have ho61 := fun o => hF2.1.alloc o
              clear hF2 hT HF0 HR0 hb5 ho5
              go_wp2_with (first
                | (at_builtin; refine wpList_append_rowS rfl (.tmp 49) (.tmp 53) _ rfl 30 encT 2 encT_len (by omega) encT_one w.heap.size i1 _ 40 Try.underlying22 hi1 hz01 hz11 rfl hz21 _ 0 c1 L rfl (HF2.out.1.alloc _) (some ⟨w2.heap.size, 0, none⟩) 1 1 [⟨headS, A5, n5, c5, zs.take (60 : Int).toNat⟩] rfl (rowS_vals encT_len w2 30 [⟨headS, A5, n5, c5, zs.take (60 : Int).toNat⟩] _ rfl 1 rfl) (by omega) (by omega) (by simp; omega) ?_; intro A6 c6 w3 ho6 hg6; have hs3 : w2.heap.size + 1 ≤ w3.heap.size := by (have := hg6.size; simpa using this))
                | (at_builtin; refine wpList_append_rowS rfl (.tmp 55) (.tmp 59) _ rfl 36 encT 2 encT_len (by omega) encT_one w.heap.size i2 _ 40 Try.underlying24 hi2 hz02 hz12 rfl hz22 _ 0 c2 L rfl ((few_two HF2.out hg6).alloc _) (some ⟨w3.heap.size, 0, none⟩) 1 1 [⟨headS, A5, n5, c5, zs.take (60 : Int).toNat⟩] rfl (rowS_vals encT_len w3 36 [⟨headS, A5, n5, c5, zs.take (60 : Int).toNat⟩] _ rfl 1 rfl) (by omega) (by omega) (by simp; omega) ?_; intro A7 c7 w4 ho7 hg7))
              have hFin := few_step HF2.out _ HT.out HL.out ho6 hg6 ho7 hg7
              clear ho6 hg6 ho7 hg7 ho61
              go_roundw
              case rel => exact ⟨k + 1, _, _, _, _, _, _, by omega, by omega, by omega, by go_num, rfl, rfl, hFin⟩
              case measure => simp [intOf]; omega
          · have hh8 : (decide ((k : Int) < 8)) = false := by simp; omega
            by_cases hm : 0 < m
            · obtain ⟨j, hj⟩ : ∃ j, m = j + 1 := ⟨m - 1, by omega⟩
              subst hj
              obtain ⟨s, hs⟩ : ∃ s, L[j]? = some s := ⟨L[j]'(by have := hF.1.len; omega), List.getElem?_eq_getElem (by have := hF.1.len; omega)⟩
              obtain ⟨g2, off2, hA2, hg2, hcl2⟩ := (hF.2.1.row encT_len).at encT_len (by omega) hs
              subst hA2
              have p0 : wr.cell? ⟨g2, off2 + j * 2, none⟩ = some (.string s.tag) := hcl2 0 _ rfl
              have hlst := last_of hF.1.len rfl hs
              have Hlst := Lib.hid hlst
              clear hcl2 hs hlst
              obtain ⟨stag, sA, sn, sc, szs⟩ := s
              simp only at p0
              cases h1 : Op.bytesLess tg.toList stag.toList with
              | true =>
                have HF := Lib.hid (hF.below hW)
                clear hF hW hb hrow'
                go_wp2
                go_roundw
                case rel => exact ⟨k + 1, _, _, _, _, _, L, by omega, by omega, by omega, by go_num, rfl, rfl, HF.out⟩
                case measure => simp [intOf]; omega
              | false =>
                cases h2 : ((tg.toList : List UInt8) == stag.toList) with
                | true =>
                  have HF := Lib.hid (hF.below hW)
                  clear hF hW hb hrow'
                  go_wp2
                  go_roundw
                  case rel => exact ⟨k + 1, _, _, _, _, _, L, by omega, by omega, by omega, by go_num, rfl, rfl, HF.out⟩
                  case measure => simp [intOf]; omega
                | false =>
                  have hab := above_of h1 h2
                  have HL := Lib.hid (show ∀ s, L.getLast? = some s → cb s.tag.toList (Tab.mk tg none 0 0 []).tag.toList < 0 from fun s h => by rw [Hlst.out s h]; show cb stag.toList tg.toList < 0; exact hab)
                  have HF0 := Lib.hid (hF.below hW)
                  have HR0 := Lib.hid (hrow'.below hW)
                  clear hF hW hb hrow'
                  go_wp2_with fail
                  refine (cut_any _ _ _ zs 60 _ HR0.out htn (by omega)).mono ?_
                  rintro e w2 ⟨A5, n5, c5, rfl, ho5, hb5⟩
                  have hF2 := HF0.out.below hb5
                  have hn5 : n5 ≤ 60 := by have := ho5.len; rw [List.length_take] at this; simp at this; omega
                  have hs2 := hF2.2.2.2.2.size
                  have hT : FewT w2 w.heap.size ⟨tg, A5, n5, c5, zs.take (60 : Int).toNat⟩ := ⟨ho5.mono (Nat.le_trans HF0.out.2.2.2.2.size (Nat.le_refl _)), (fun x hx => HBY.out x (List.mem_of_mem_take hx)), hn5, Hsz0.out⟩
                  have HT := Lib.hid hT
                  have HF2 := Lib.hid hF2
                  have ho61 := fun o => hF2.1.alloc o
                  clear hF2 hT HF0 HR0 hb5 ho5
                  go_wp2_with (first
                    | (at_builtin; refine wpList_append_rowS rfl (.tmp 49) (.tmp 53) _ rfl 30 encT 2 encT_len (by omega) encT_one w.heap.size i1 _ 40 Try.underlying22 hi1 hz01 hz11 rfl hz21 _ (j + 1) c1 L rfl (HF2.out.1.alloc _) (some ⟨w2.heap.size, 0, none⟩) 1 1 [⟨tg, A5, n5, c5, zs.take (60 : Int).toNat⟩] rfl (rowS_vals encT_len w2 30 [⟨tg, A5, n5, c5, zs.take (60 : Int).toNat⟩] _ rfl 1 rfl) (by omega) (by omega) (by simp; omega) ?_; intro A6 c6 w3 ho6 hg6; have hs3 : w2.heap.size + 1 ≤ w3.heap.size := by (have := hg6.size; simpa using this))
                    | (at_builtin; refine wpList_append_rowS rfl (.tmp 55) (.tmp 59) _ rfl 36 encT 2 encT_len (by omega) encT_one w.heap.size i2 _ 40 Try.underlying24 hi2 hz02 hz12 rfl hz22 _ (j + 1) c2 L rfl ((few_two HF2.out hg6).alloc _) (some ⟨w3.heap.size, 0, none⟩) 1 1 [⟨tg, A5, n5, c5, zs.take (60 : Int).toNat⟩] rfl (rowS_vals encT_len w3 36 [⟨tg, A5, n5, c5, zs.take (60 : Int).toNat⟩] _ rfl 1 rfl) (by omega) (by omega) (by simp; omega) ?_; intro A7 c7 w4 ho7 hg7))
                  have hFin := few_step HF2.out _ HT.out HL.out ho6 hg6 ho7 hg7
                  clear ho6 hg6 ho7 hg7 ho61
                  go_roundw
                  case rel => exact ⟨k + 1, _, _, _, _, _, _, by omega, by omega, by omega, by go_num, rfl, rfl, hFin⟩
                  case measure => simp [intOf]; omega
            · obtain rfl : m = 0 := by omega
              have HL := Lib.hid (show ∀ s, L.getLast? = some s → cb s.tag.toList (Tab.mk tg none 0 0 []).tag.toList < 0 from fun s h => by have h1 := List.eq_nil_of_length_eq_zero hF.1.len; rw [h1] at h; simp at h)
              have HF0 := Lib.hid (hF.below hW)
              have HR0 := Lib.hid (hrow'.below hW)
              clear hF hW hb hrow'
              go_wp2_with fail
              refine (cut_any _ _ _ zs 60 _ HR0.out htn (by omega)).mono ?_
              rintro e w2 ⟨A5, n5, c5, rfl, ho5, hb5⟩
              have hF2 := HF0.out.below hb5
              have hn5 : n5 ≤ 60 := by have := ho5.len; rw [List.length_take] at this; simp at this; omega
              have hs2 := hF2.2.2.2.2.size
              have hT : FewT w2 w.heap.size ⟨tg, A5, n5, c5, zs.take (60 : Int).toNat⟩ := ⟨ho5.mono (Nat.le_trans HF0.out.2.2.2.2.size (Nat.le_refl _)), (fun x hx => HBY.out x (List.mem_of_mem_take hx)), hn5, Hsz0.out⟩
              have HT := Lib.hid hT
              have HF2 := Lib.hid hF2
              have ho61 := fun o => hF2.1.alloc o
              clear hF2 hT HF0 HR0 hb5 ho5
              go_wp2_with (first
                | (at_builtin; refine wpList_append_rowS rfl (.tmp 49) (.tmp 53) _ rfl 30 encT 2 encT_len (by omega) encT_one w.heap.size i1 _ 40 Try.underlying22 hi1 hz01 hz11 rfl hz21 _ 0 c1 L rfl (HF2.out.1.alloc _) (some ⟨w2.heap.size, 0, none⟩) 1 1 [⟨tg, A5, n5, c5, zs.take (60 : Int).toNat⟩] rfl (rowS_vals encT_len w2 30 [⟨tg, A5, n5, c5, zs.take (60 : Int).toNat⟩] _ rfl 1 rfl) (by omega) (by omega) (by simp; omega) ?_; intro A6 c6 w3 ho6 hg6; have hs3 : w2.heap.size + 1 ≤ w3.heap.size := by (have := hg6.size; simpa using this))
                | (at_builtin; refine wpList_append_rowS rfl (.tmp 55) (.tmp 59) _ rfl 36 encT 2 encT_len (by omega) encT_one w.heap.size i2 _ 40 Try.underlying24 hi2 hz02 hz12 rfl hz22 _ 0 c2 L rfl ((few_two HF2.out hg6).alloc _) (some ⟨w3.heap.size, 0, none⟩) 1 1 [⟨tg, A5, n5, c5, zs.take (60 : Int).toNat⟩] rfl (rowS_vals encT_len w3 36 [⟨tg, A5, n5, c5, zs.take (60 : Int).toNat⟩] _ rfl 1 rfl) (by omega) (by omega) (by simp; omega) ?_; intro A7 c7 w4 ho7 hg7))
              have hFin := few_step HF2.out _ HT.out HL.out ho6 hg6 ho7 hg7
              clear ho6 hg6 ho7 hg7 ho61
              go_roundw
              case rel => exact ⟨k + 1, _, _, _, _, _, _, by omega, by omega, by omega, by go_num, rfl, rfl, hFin⟩
              case measure => simp [intOf]; omega
        · have hh0 : (tag.toList == [104, 101, 97, 100]) = false := by simp [hh]
          by_cases hm : 0 < m
          · obtain ⟨j, hj⟩ : ∃ j, m = j + 1 := ⟨m - 1, by omega⟩
            subst hj
            obtain ⟨s, hs⟩ : ∃ s, L[j]? = some s := ⟨L[j]'(by have := hF.1.len; omega), List.getElem?_eq_getElem (by have := hF.1.len; omega)⟩
            obtain ⟨g2, off2, hA2, hg2, hcl2⟩ := (hF.2.1.row encT_len).at encT_len (by omega) hs
            subst hA2
            have p0 : wr.cell? ⟨g2, off2 + j * 2, none⟩ = some (.string s.tag) := hcl2 0 _ rfl
            have hlst := last_of hF.1.len rfl hs
            have Hlst := Lib.hid hlst
            clear hcl2 hs hlst
            obtain ⟨stag, sA, sn, sc, szs⟩ := s
            simp only at p0
            cases h1 : Op.bytesLess tg.toList stag.toList with
            | true =>
              have HF := Lib.hid (hF.below hW)
              clear hF hW hb hrow'
              go_wp2
              go_roundw
              case rel => exact ⟨k + 1, _, _, _, _, _, L, by omega, by omega, by omega, by go_num, rfl, rfl, HF.out⟩
              case measure => simp [intOf]; omega
            | false =>
              cases h2 : ((tg.toList : List UInt8) == stag.toList) with
              | true =>
                have HF := Lib.hid (hF.below hW)
                clear hF hW hb hrow'
                go_wp2
                go_roundw
                case rel => exact ⟨k + 1, _, _, _, _, _, L, by omega, by omega, by omega, by go_num, rfl, rfl, HF.out⟩
                case measure => simp [intOf]; omega
              | false =>
                have hab := above_of h1 h2
                have HL := Lib.hid (show ∀ s, L.getLast? = some s → cb s.tag.toList (Tab.mk tg none 0 0 []).tag.toList < 0 from fun s h => by rw [Hlst.out s h]; show cb stag.toList tg.toList < 0; exact hab)
                have HF0 := Lib.hid (hF.below hW)
                have HR0 := Lib.hid (hrow'.below hW)
                clear hF hW hb hrow'
                go_wp2_with fail
                refine (cut_any _ _ _ zs 60 _ HR0.out htn (by omega)).mono ?_
                rintro e w2 ⟨A5, n5, c5, rfl, ho5, hb5⟩
                have hF2 := HF0.out.below hb5
                have hn5 : n5 ≤ 60 := by have := ho5.len; rw [List.length_take] at this; simp at this; omega
                have hs2 := hF2.2.2.2.2.size
                have hT : FewT w2 w.heap.size ⟨tg, A5, n5, c5, zs.take (60 : Int).toNat⟩ := ⟨ho5.mono (Nat.le_trans HF0.out.2.2.2.2.size (Nat.le_refl _)), (fun x hx => HBY.out x (List.mem_of_mem_take hx)), hn5, Hsz0.out⟩
                have HT := Lib.hid hT
                have HF2 := Lib.hid hF2
                have ho61 := fun o => hF2.1.alloc o
                clear hF2 hT HF0 HR0 hb5 ho5
                go_wp2_with (first
                  | (at_builtin; refine wpList_append_rowS rfl (.tmp 49) (.tmp 53) _ rfl 30 encT 2 encT_len (by omega) encT_one w.heap.size i1 _ 40 Try.underlying22 hi1 hz01 hz11 rfl hz21 _ (j + 1) c1 L rfl (HF2.out.1.alloc _) (some ⟨w2.heap.size, 0, none⟩) 1 1 [⟨tg, A5, n5, c5, zs.take (60 : Int).toNat⟩] rfl (rowS_vals encT_len w2 30 [⟨tg, A5, n5, c5, zs.take (60 : Int).toNat⟩] _ rfl 1 rfl) (by omega) (by omega) (by simp; omega) ?_; intro A6 c6 w3 ho6 hg6; have hs3 : w2.heap.size + 1 ≤ w3.heap.size := by (have := hg6.size; simpa using this))
                  | (at_builtin; refine wpList_append_rowS rfl (.tmp 55) (.tmp 59) _ rfl 36 encT 2 encT_len (by omega) encT_one w.heap.size i2 _ 40 Try.underlying24 hi2 hz02 hz12 rfl hz22 _ (j + 1) c2 L rfl ((few_two HF2.out hg6).alloc _) (some ⟨w3.heap.size, 0, none⟩) 1 1 [⟨tg, A5, n5, c5, zs.take (60 : Int).toNat⟩] rfl (rowS_vals encT_len w3 36 [⟨tg, A5, n5, c5, zs.take (60 : Int).toNat⟩] _ rfl 1 rfl) (by omega) (by omega) (by simp; omega) ?_; intro A7 c7 w4 ho7 hg7))
                have hFin := few_step HF2.out _ HT.out HL.out ho6 hg6 ho7 hg7
                clear ho6 hg6 ho7 hg7 ho61
                go_roundw
                case rel => exact ⟨k + 1, _, _, _, _, _, _, by omega, by omega, by omega, by go_num, rfl, rfl, hFin⟩
                case measure => simp [intOf]; omega
          · obtain rfl : m = 0 := by omega
            have HL := Lib.hid (show ∀ s, L.getLast? = some s → cb s.tag.toList (Tab.mk tg none 0 0 []).tag.toList < 0 from fun s h => by have h1 := List.eq_nil_of_length_eq_zero hF.1.len; rw [h1] at h; simp at h)
            have HF0 := Lib.hid (hF.below hW)
            have HR0 := Lib.hid (hrow'.below hW)
            clear hF hW hb hrow'
            go_wp2_with fail
            refine (cut_any _ _ _ zs 60 _ HR0.out htn (by omega)).mono ?_
            rintro e w2 ⟨A5, n5, c5, rfl, ho5, hb5⟩
            have hF2 := HF0.out.below hb5
            have hn5 : n5 ≤ 60 := by have := ho5.len; rw [List.length_take] at this; simp at this; omega
            have hs2 := hF2.2.2.2.2.size
            have hT : FewT w2 w.heap.size ⟨tg, A5, n5, c5, zs.take (60 : Int).toNat⟩ := ⟨ho5.mono (Nat.le_trans HF0.out.2.2.2.2.size (Nat.le_refl _)), (fun x hx => HBY.out x (List.mem_of_mem_take hx)), hn5, Hsz0.out⟩
            have HT := Lib.hid hT
            have HF2 := Lib.hid hF2
            have ho61 := fun o => hF2.1.alloc o
            clear hF2 hT HF0 HR0 hb5 ho5
            go_wp2_with (first
              | (at_builtin; refine wpList_append_rowS rfl (.tmp 49) (.tmp 53) _ rfl 30 encT 2 encT_len (by omega) encT_one w.heap.size i1 _ 40 Try.underlying22 hi1 hz01 hz11 rfl hz21 _ 0 c1 L rfl (HF2.out.1.alloc _) (some ⟨w2.heap.size, 0, none⟩) 1 1 [⟨tg, A5, n5, c5, zs.take (60 : Int).toNat⟩] rfl (rowS_vals encT_len w2 30 [⟨tg, A5, n5, c5, zs.take (60 : Int).toNat⟩] _ rfl 1 rfl) (by omega) (by omega) (by simp; omega) ?_; intro A6 c6 w3 ho6 hg6; have hs3 : w2.heap.size + 1 ≤ w3.heap.size := by (have := hg6.size; simpa using this))
              | (at_builtin; refine wpList_append_rowS rfl (.tmp 55) (.tmp 59) _ rfl 36 encT 2 encT_len (by omega) encT_one w.heap.size i2 _ 40 Try.underlying24 hi2 hz02 hz12 rfl hz22 _ 0 c2 L rfl ((few_two HF2.out hg6).alloc _) (some ⟨w3.heap.size, 0, none⟩) 1 1 [⟨tg, A5, n5, c5, zs.take (60 : Int).toNat⟩] rfl (rowS_vals encT_len w3 36 [⟨tg, A5, n5, c5, zs.take (60 : Int).toNat⟩] _ rfl 1 rfl) (by omega) (by omega) (by simp; omega) ?_; intro A7 c7 w4 ho7 hg7))
            have hFin := few_step HF2.out _ HT.out HL.out ho6 hg6 ho7 hg7
            clear ho6 hg6 ho7 hg7 ho61
            go_roundw
            case rel => exact ⟨k + 1, _, _, _, _, _, _, by omega, by omega, by omega, by go_num, rfl, rfl, hFin⟩
            case measure => simp [intOf]; omega
      · have HF := Lib.hid (hF.below ((Below.refl wr.heap.size wr).alloc (Nat.le_refl _) (.cells (encT t).toArray 30)))
        obtain ⟨tag, tA, tn, tc, zs⟩ := t
        simp only [encT] at q0 q1 HF
        clear hF hb hrow' hrow hby hcl ht hr
        go_wp2
        go_ret2
        exact ⟨A1, A2, m, c1, c2, L, rfl, by omega, HF.out⟩
    · clear hb hr
      go_wp2
      go_ret2
      exact ⟨A1, A2, m, c1, c2, L, rfl, by omega, hF⟩

end Go.Proofs.Ytlkidnacfljpkaa
