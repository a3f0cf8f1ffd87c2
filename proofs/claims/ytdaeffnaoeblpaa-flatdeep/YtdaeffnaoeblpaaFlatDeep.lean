/- Of glyphs made of one another as deep as may be there are contours, of one deeper there is the error. -/
import Derived.Test.YtdaeffnaoeblpaaRows
import Derived.WalkKit
import Derived.ProofKit
import Derived.OpenShut
import Derived.ShutString
import Derived.ChangeOld
import Derived.Below
import Derived.Lib.SmallJoins
import Derived.Test.YtdaeffnaoeblpaaBase2
import Derived.Test.YtdaeffnaoeblpaaBase8
import Derived.Test.YtdaeffnaoeblpaaBase9
import Derived.Test.YtdaeffnaoeblpaaBase15

namespace Go.Proofs.Ytdaeffnaoeblpaa
open Go.RowKit
set_option linter.unusedVariables false
set_option linter.unusedSimpArgs false

theorem Try.bsinfoM : (Try.prog.info? 42).map (fun i => (i.zero, i.size, i.bytes)) = some (some (.slice none 0 0), 1, 24) := by kernel_rfl
/-- Bytes in rows of their own, gathered in a row. -/
def InB (w : World) (S : List Sl) (L : List (List Int)) : Prop := S.length = L.length ∧ ∀ (i : Nat) (s : Sl) (z : List Int), S[i]? = some s → L[i]? = some z → (Row w s.1 s.2.1 (cellsOf .u8 z) ∧ ∀ g, blockOf s.1 = some g → Typed w g 5) ∧ Bytes z ∧ s.2.1 ≤ 68747 ∧ s.2.1 ≤ s.2.2
theorem InB.keep {w w' : World} {S : List Sl} {L : List (List Int)} (h : InB w S L) (hs : w.heap.size ≤ w'.heap.size) (hk : ∀ g, Typed w g 5 → w'.heap[g]? = w.heap[g]?) : InB w' S L :=
  ⟨h.1, fun i s z a b => by
    obtain ⟨⟨h1, h2⟩, h3⟩ := h.2 i s z a b
    exact ⟨⟨h1.keep hs (fun g hg _ => hk g (h2 g hg)), fun g hg => (h2 g hg).keep (hk g (h2 g hg))⟩, h3⟩⟩
theorem InB.below {w w' : World} {S : List Sl} {L : List (List Int)} (h : InB w S L) (hb : Below w.heap.size w w') : InB w' S L := h.keep hb.size fun g hg => hb.block g hg.lt
theorem InB.nil (w : World) : InB w [] [] := ⟨rfl, fun i s c h => by simp at h⟩
theorem InB.push {w : World} {S : List Sl} {L : List (List Int)} (h : InB w S L) {A : Option Addr} {n k : Nat} {z : List Int} (hr : Row w A n (cellsOf .u8 z)) (ht : ∀ g, blockOf A = some g → Typed w g 5) (hB : Bytes z) (hn : n ≤ 68747) (hk : n ≤ k) : InB w (S ++ [(A, n, k)]) (L ++ [z]) := by
  refine ⟨by simp [h.1], fun i s d a b => ?_⟩
  by_cases hi : i < S.length
  · rw [List.getElem?_append_left hi] at a
    rw [List.getElem?_append_left (by rw [← h.1]; exact hi)] at b
    exact h.2 i s d a b
  · have hi2 : i = S.length := by
      have := (List.getElem?_eq_some_iff.1 a).1
      simp at this
      omega
    subst hi2
    rw [List.getElem?_append_right (Nat.le_refl _), Nat.sub_self] at a
    rw [h.1, List.getElem?_append_right (Nat.le_refl _), Nat.sub_self] at b
    simp at a b
    subst a b
    exact ⟨⟨hr, ht⟩, hB, hn, hk⟩
def AccB (w : World) (B : Nat) (A : Option Addr) (n c : Nat) (L : List (List Int)) : Prop := ∃ S : List Sl, OwnS 42 encSl 1 w B A n c S ∧ InB w S L
theorem AccB.len {w : World} {B : Nat} {A : Option Addr} {n c : Nat} {L : List (List Int)} (h : AccB w B A n c L) : L.length = n := by obtain ⟨S, h1, h2⟩ := h; rw [← h2.1]; exact h1.len
theorem AccB.nil (w : World) (B : Nat) : AccB w B none 0 0 [] := ⟨[], OwnS.nil _ _ _ _ _, InB.nil _⟩
theorem AccB.below {w w' : World} {B : Nat} {A : Option Addr} {n c : Nat} {L : List (List Int)} (h : AccB w B A n c L) (hb : Below w.heap.size w w') : AccB w' B A n c L := by
  obtain ⟨S, h1, h2⟩ := h
  exact ⟨S, h1.below hb, h2.below hb⟩
theorem AccB.gls {w : World} {B : Nat} {A : Option Addr} {n c : Nat} {L : List (List Int)} (h : AccB w B A n c L) : GlsIn w A n L := by
  obtain ⟨S, h1, h2⟩ := h
  exact ⟨S, h1.row encSl_len, h2.1, fun i s z a b => by
    obtain ⟨⟨r, _⟩, x⟩ := h2.2 i s z a b
    exact ⟨r, x⟩⟩
theorem AccB.bytes {w : World} {B : Nat} {A : Option Addr} {n c : Nat} {L : List (List Int)} (h : AccB w B A n c L) : ptsOk L := by
  obtain ⟨S, h1, h2⟩ := h
  intro z hz
  obtain ⟨i, hi⟩ := List.getElem?_of_mem hz
  have hl := (List.getElem?_eq_some_iff.1 hi).1
  obtain ⟨s, hs⟩ : ∃ s, S[i]? = some s := ⟨_, List.getElem?_eq_getElem (by rw [h2.1]; exact hl)⟩
  exact (h2.2 i s z hs hi).2.1
/-- Behind an append. -/
theorem AccB.push {w w' : World} {B : Nat} {A A2 : Option Addr} {n c c2 : Nat} {L : List (List Int)} {S : List Sl} {M : Option Addr} {m k : Nat} {z : List Int} (hd : OwnS 42 encSl 1 w B A n c S) (hi : InB w S L) (ho : OwnS 42 encSl 1 w' B A2 (n + 1) c2 (S ++ [(M, m, k)])) (hg : w.grownBy w' (blockOf A)) (hr : Row w M m (cellsOf .u8 z)) (ht : ∀ g, blockOf M = some g → Typed w g 5) (hB : Bytes z) (hm : m ≤ 68747) (hk : m ≤ k) : AccB w' B A2 (n + 1) c2 (L ++ [z]) := by
  have hsame : ∀ g, Typed w g 5 → w'.heap[g]? = w.heap[g]? := fun g a => hg.block g a.lt fun e => (a.ne (hd.typed g e.symm) (by decide)) rfl
  exact ⟨_, ho, (hi.keep hg.size hsame).push (hr.keep hg.size fun g hq _ => hsame g (ht g hq)) (fun g hq => (ht g hq).keep (hsame g (ht g hq))) hB hm hk⟩

/-- A glyph of parts is one. -/
theorem shZ_cB (g : Cg) (ho : g.ok) (hr : cRight g = true) : shZ (cB g) = some ([], g.ps) := by
  obtain ⟨h1, h2, h3⟩ := cB_dec g ho hr []
  have h4 := cOk_cB g ho hr []
  rw [List.append_nil] at h1 h2 h3 h4
  have hB := cB_bytes g ho hr
  have hc : cIs (cB g) = true := by
    rw [cIs_n2v hB]
    refine decide_eq_true ?_
    generalize cB g = zs at *
    match zs, h1 with
    | [], h1 => exact absurd (show be [] = 65535 from h1) (by decide)
    | [x], h1 => exact absurd (show be [] = 65535 from h1) (by decide)
    | x :: y :: r, h1 =>
      have e : n2at (x :: y :: r) 0 = 256 * x + y := by
        show be [x, y] = _
        simp [be]
        omega
      show 32767 < 256 * x + y
      omega
  have hl : (cB g).length ≠ 0 := by
    intro e
    rw [List.eq_nil_of_length_eq_zero e] at h1
    exact absurd (show be [] = 65535 from h1) (by decide)
  unfold shZ
  rw [if_neg hl, hc, h4, h3, h2, List.drop_length]
  rfl

def chP (tg : Int) : Pt := ⟨3, tg, 1, 0, 16384, 0, 0, 16384⟩
def chG (tg : Int) : Cg := ⟨0, 0, 0, 0, [chP tg], []⟩
theorem chG_right (tg : Int) : cRight (chG tg) = true := by kernel_rfl
theorem chG_ok {tg : Int} (h0 : 0 ≤ tg) (h1 : tg ≤ 65535) : (chG tg).ok := by
  refine ⟨fun x hx => ?_, fun p hp => ?_, fun x hx => by cases hx⟩
  · simp [chG] at hx; omega
  · simp [chG] at hp
    subst hp
    exact ⟨by simp [chP], ⟨h0, h1⟩, by simp [chP], by simp [chP], by simp [chP], by simp [chP], by simp [chP], by simp [chP]⟩
theorem chG_len (tg : Int) : (cB (chG tg)).length = 18 := by rfl
def chO : Gl := ⟨0, 0, 0, 0, [0], [], [(5, 0, false)]⟩
theorem chO_ok : chO.ok := ⟨by decide, by decide, (fun x hx => by cases hx), by decide⟩
theorem chO_right : oRight chO = true := by decide
theorem chO_cts : ctsG chO = [[(5, 0, false)]] := by decide
theorem chO_len : (oB chO).length = 16 := by decide
/-- To which glyph the one leads. -/
def toK (n : Nat) (back : Int) (i : Nat) : Int := if i + 1 = n ∧ 0 ≤ back then back else i + 1
def chL (n : Nat) (back : Int) : List (List Int) := (List.range n).map (fun i => cB (chG (toK n back i))) ++ [oB chO]

/-- The bytes of one part, as a law of the chain writes them. -/
theorem chG_bytes (tg : Int) (h0 : 0 ≤ tg) (h1 : tg ≤ 65535) (W : World) : Calls Try.prog 20 #[.agg #[.int .i16 0, .int .i16 0, .int .i16 0, .int .i16 0, .slice (some ⟨W.heap.size, 0, none⟩) 1 1, .slice none 0 0]] (W.alloc (.cells #[.int .u16 3, .int .u16 tg, .int .i16 1, .int .i16 0, .int .i16 16384, .int .i16 0, .int .i16 0, .int .i16 16384] 46)) (RetB (W.alloc (.cells #[.int .u16 3, .int .u16 tg, .int .i16 1, .int .i16 0, .int .i16 16384, .int .i16 0, .int .i16 0, .int .i16 16384] 46)) (cB (chG tg))) := by
  have h := cbytes_any ⟨chG tg, some ⟨W.heap.size, 0, none⟩, 1, 1, none, 0, 0⟩ (W.alloc (.cells #[.int .u16 3, .int .u16 tg, .int .i16 1, .int .i16 0, .int .i16 16384, .int .i16 0, .int .i16 0, .int .i16 16384] 46)) ⟨rowS_vals encPt_len W 46 [chP tg] _ rfl 1 rfl, Row.empty _ _⟩ (by show 1 ≤ 1000000; omega) (by show 0 ≤ 1000000; omega) (chG_ok h0 h1)
  unfold cBytes at h
  rw [if_pos (chG_right tg)] at h
  exact h
/-- The bytes of the chain's last one. -/
theorem chO_bytes (W : World) : Calls Try.prog 21 #[.agg #[.int .i16 0, .int .i16 0, .int .i16 0, .int .i16 0, .slice (some ⟨W.heap.size, 0, none⟩) 1 1, .slice none 0 0, .slice (some ⟨W.heap.size + 1, 0, none⟩) 1 1]] ((W.alloc (.cells #[.int .u16 0] 39)).alloc (.cells #[.int .i16 5, .int .i16 0, .bool false] 54)) (RetB ((W.alloc (.cells #[.int .u16 0] 39)).alloc (.cells #[.int .i16 5, .int .i16 0, .bool false] 54)) (oB chO)) := by
  have hr : GlV.rows ((W.alloc (.cells #[.int .u16 0] 39)).alloc (.cells #[.int .i16 5, .int .i16 0, .bool false] 54)) ⟨chO, some ⟨W.heap.size, 0, none⟩, 1, 1, none, 0, 0, some ⟨W.heap.size + 1, 0, none⟩, 1, 1⟩ := by
    refine ⟨(row_one W .u16 0 39).below ((Below.refl _ _).alloc (Nat.le_refl _) _), Row.empty _ _, ?_⟩
    have := rowS_vals encSp_len (W.alloc (.cells #[.int .u16 0] 39)) 54 [(5, 0, false)] #[.int .i16 5, .int .i16 0, .bool false] rfl 1 rfl
    rwa [show (W.alloc (.cells #[.int .u16 0] 39)).heap.size = W.heap.size + 1 by simp] at this
  have h := obytes_any _ _ hr ⟨by show (1 : Nat) ≤ 10000; omega, by show (0 : Nat) ≤ 10000; omega, by show (1 : Nat) ≤ 10000; omega⟩ chO_ok
  unfold oBytes at h
  rw [if_pos chO_right] at h
  exact h

def chnK (n : Nat) (back : Int) (k : Nat) : List (List Int) := (List.range k).map (fun i => cB (chG (toK n back i)))
theorem chnK_succ (n : Nat) (back : Int) (k : Nat) : chnK n back (k + 1) = chnK n back k ++ [cB (chG (toK n back k))] := by simp [chnK, List.range_succ]

set_option maxRecDepth 100000 in
set_option maxHeartbeats 2000000 in
theorem chain_any (n : Nat) (back : Int) (w : World) (hn : n ≤ 1000) (hb0 : -1 ≤ back) (hb1 : back ≤ 65535) : Calls Try.prog 25 #[.int .i64 n, .int .i64 back] w fun e w' => ∃ A c, e = .returned (.slice A (n + 1) c) ∧ AccB w' w.heap.size A (n + 1) c (chL n back) ∧ Below w.heap.size w w' := by
  obtain ⟨i0, hi, hz0, hz1, hz2⟩ := info_parts Try.bsinfoM
  go_enter Try.func25, Try.ntmps25
  go_wp2
  go_loopw [5, 9] (fun a i' wr => ∃ (j : Nat) (DA : Option Addr) (dc : Nat), j ≤ n ∧ i' = .int .i64 j ∧ a = .slice DA j dc ∧ AccB wr w.heap.size DA j dc (chnK n back j) ∧ Below w.heap.size w wr) (fun _ i' _ => n - (intOf i').toNat)
  case atStart => exact ⟨0, none, 0, Nat.zero_le _, rfl, rfl, AccB.nil _ _, Below.refl _ _⟩
  case round =>
    obtain ⟨j, DA, dc, hj, rfl, rfl, hacc, hbel⟩ := hrel
    by_cases hlt : j < n
    · by_cases hjn : j + 1 = n
      · have hjb : ((j : Int) == (n : Int) - 1) = true := by simp; omega
        by_cases hbk : 0 ≤ back
        · have hT0 : 0 ≤ back := by omega
          have hT1 : back ≤ 65535 := by omega
          have hCs := chnK_succ n back j
          rw [show toK n back j = back by unfold toK; first | rw [if_pos (by omega)] | rw [if_neg (by omega)]] at hCs
          have HBc := Lib.hid (fun W => chG_bytes (back) hT0 hT1 W)
          clear hjn
          go_wp2_with fail
          refine (unit_any _).mono ?_
          rintro e w0 ⟨rfl, hb0⟩
          have HB := Lib.hid (HBc.out w0)
          have hacc0 := hacc.below hb0
          have hA1 := (Below.refl w0.heap.size w0).alloc (Nat.le_refl _) (.cells #[.int .u16 3, .int .u16 (back), .int .i16 1, .int .i16 0, .int .i16 16384, .int .i16 0, .int .i16 0, .int .i16 16384] 46)
          have hbw0 := hbel.trans (hb0.mono hbel.size)
          clear hacc hbel hb0 HBc
          go_wp2_with fail
          with_reducible refine HB.out.mono ?_
          rintro e w1 ⟨A1, n1, c1, rfl, hown1, hb1⟩
          have hl1 := hown1.len
          rw [chG_len] at hl1
          obtain rfl : n1 = 18 := by omega
          have hcap1 := hown1.cap
          have hb01 := hA1.trans (hb1.mono hA1.size)
          have hacc1 := hacc0.below hb01
          have hbw1 := hbw0.trans (hb01.mono hbw0.size)
          have hA2 := (Below.refl w1.heap.size w1).alloc (Nat.le_refl _) (.cells #[.slice A1 18 c1] 42)
          have hacc2 := hacc1.below hA2
          have hbw2 := hbw1.trans (hA2.mono hbw1.size)
          have hrowB := hown1.row.below hA2
          have htyB : ∀ g, blockOf A1 = some g → Typed (w1.alloc (.cells #[.slice A1 18 c1] 42)) g 5 := fun g hg => (hown1.typed g hg).keep (hA2.block g (hown1.typed g hg).lt)
          have hrow2 : RowS encSl 1 (w1.alloc (.cells #[.slice A1 18 c1] 42)) (some ⟨w1.heap.size, 0, none⟩) 1 [(A1, 18, c1)] := rowS_vals encSl_len w1 42 [(A1, 18, c1)] _ rfl 1 rfl
          obtain ⟨S, hSo, hSi⟩ := hacc2
          have HSo := Lib.hid hSo
          have hwb : w.heap.size ≤ w1.heap.size + 1 := by have := hbw1.size; omega
          clear HB hacc0 hacc1 hown1 hb1 hA1 hb01 hbw0 hbw1 hA2 hl1
          go_wp2_with (at_builtin; refine wpList_append_atS rfl (.tmp 23) (.tmp 31) _ rfl 42 encSl 1 encSl_len (by omega) encSl_one w.heap.size i0 _ 24 Try.underlying22 hi hz0 hz1 rfl hz2 DA j dc S rfl HSo.out (some ⟨w1.heap.size, 0, none⟩) 1 1 [(A1, 18, c1)] rfl hrow2 (by omega) (by omega) (by omega) (by simpa using hwb) ?_)
          intro D3 dc3 w2 hown2 hg2 _
          have hacc3 := AccB.push hSo hSi hown2 hg2 hrowB htyB (cB_bytes _ (chG_ok hT0 hT1) (chG_right _)) (by omega) hcap1
          rw [← hCs] at hacc3
          have hbw3 := hbw2.grown hg2 hbw2.size (fun k e => (hSo.from_ k e).1)
          have HA3 := Lib.hid hacc3
          have HB3 := Lib.hid hbw3
          clear hSo hSi HSo hown2 hg2 hrowB htyB hrow2 hacc3 hbw2 hbw3 hCs
          go_wp2_with fail
          go_roundw
          case rel => exact ⟨j + 1, D3, dc3, by omega, by go_num, rfl, HA3.out, HB3.out⟩
          case measure => simp [intOf]; omega
        · have hT0 : 0 ≤ (j : Int) + 1 := by omega
          have hT1 : (j : Int) + 1 ≤ 65535 := by omega
          have hCs := chnK_succ n back j
          rw [show toK n back j = (j : Int) + 1 by unfold toK; first | rw [if_pos (by omega)] | rw [if_neg (by omega)]] at hCs
          have HBc := Lib.hid (fun W => chG_bytes ((j : Int) + 1) hT0 hT1 W)
          clear hjn
          go_wp2_with fail
          refine (unit_any _).mono ?_
          rintro e w0 ⟨rfl, hb0⟩
          have HB := Lib.hid (HBc.out w0)
          have hacc0 := hacc.below hb0
          have hA1 := (Below.refl w0.heap.size w0).alloc (Nat.le_refl _) (.cells #[.int .u16 3, .int .u16 ((j : Int) + 1), .int .i16 1, .int .i16 0, .int .i16 16384, .int .i16 0, .int .i16 0, .int .i16 16384] 46)
          have hbw0 := hbel.trans (hb0.mono hbel.size)
          clear hacc hbel hb0 HBc
          go_wp2_with fail
          with_reducible refine HB.out.mono ?_
          rintro e w1 ⟨A1, n1, c1, rfl, hown1, hb1⟩
          have hl1 := hown1.len
          rw [chG_len] at hl1
          obtain rfl : n1 = 18 := by omega
          have hcap1 := hown1.cap
          have hb01 := hA1.trans (hb1.mono hA1.size)
          have hacc1 := hacc0.below hb01
          have hbw1 := hbw0.trans (hb01.mono hbw0.size)
          have hA2 := (Below.refl w1.heap.size w1).alloc (Nat.le_refl _) (.cells #[.slice A1 18 c1] 42)
          have hacc2 := hacc1.below hA2
          have hbw2 := hbw1.trans (hA2.mono hbw1.size)
          have hrowB := hown1.row.below hA2
          have htyB : ∀ g, blockOf A1 = some g → Typed (w1.alloc (.cells #[.slice A1 18 c1] 42)) g 5 := fun g hg => (hown1.typed g hg).keep (hA2.block g (hown1.typed g hg).lt)
          have hrow2 : RowS encSl 1 (w1.alloc (.cells #[.slice A1 18 c1] 42)) (some ⟨w1.heap.size, 0, none⟩) 1 [(A1, 18, c1)] := rowS_vals encSl_len w1 42 [(A1, 18, c1)] _ rfl 1 rfl
          obtain ⟨S, hSo, hSi⟩ := hacc2
          have HSo := Lib.hid hSo
          have hwb : w.heap.size ≤ w1.heap.size + 1 := by have := hbw1.size; omega
          clear HB hacc0 hacc1 hown1 hb1 hA1 hb01 hbw0 hbw1 hA2 hl1
          go_wp2_with (at_builtin; refine wpList_append_atS rfl (.tmp 23) (.tmp 31) _ rfl 42 encSl 1 encSl_len (by omega) encSl_one w.heap.size i0 _ 24 Try.underlying22 hi hz0 hz1 rfl hz2 DA j dc S rfl HSo.out (some ⟨w1.heap.size, 0, none⟩) 1 1 [(A1, 18, c1)] rfl hrow2 (by omega) (by omega) (by omega) (by simpa using hwb) ?_)
          intro D3 dc3 w2 hown2 hg2 _
          have hacc3 := AccB.push hSo hSi hown2 hg2 hrowB htyB (cB_bytes _ (chG_ok hT0 hT1) (chG_right _)) (by omega) hcap1
          rw [← hCs] at hacc3
          have hbw3 := hbw2.grown hg2 hbw2.size (fun k e => (hSo.from_ k e).1)
          have HA3 := Lib.hid hacc3
          have HB3 := Lib.hid hbw3
          clear hSo hSi HSo hown2 hg2 hrowB htyB hrow2 hacc3 hbw2 hbw3 hCs
          go_wp2_with fail
          go_roundw
          case rel => exact ⟨j + 1, D3, dc3, by omega, by go_num, rfl, HA3.out, HB3.out⟩
          case measure => simp [intOf]; omega
      · have hjb : ((j : Int) == (n : Int) - 1) = false := by simp; omega
        have hT0 : 0 ≤ (j : Int) + 1 := by omega
        have hT1 : (j : Int) + 1 ≤ 65535 := by omega
        have hCs := chnK_succ n back j
        rw [show toK n back j = (j : Int) + 1 by unfold toK; first | rw [if_pos (by omega)] | rw [if_neg (by omega)]] at hCs
        have HBc := Lib.hid (fun W => chG_bytes ((j : Int) + 1) hT0 hT1 W)
        clear hjn
        go_wp2_with fail
        refine (unit_any _).mono ?_
        rintro e w0 ⟨rfl, hb0⟩
        have HB := Lib.hid (HBc.out w0)
        have hacc0 := hacc.below hb0
        have hA1 := (Below.refl w0.heap.size w0).alloc (Nat.le_refl _) (.cells #[.int .u16 3, .int .u16 ((j : Int) + 1), .int .i16 1, .int .i16 0, .int .i16 16384, .int .i16 0, .int .i16 0, .int .i16 16384] 46)
        have hbw0 := hbel.trans (hb0.mono hbel.size)
        clear hacc hbel hb0 HBc
        go_wp2_with fail
        with_reducible refine HB.out.mono ?_
        rintro e w1 ⟨A1, n1, c1, rfl, hown1, hb1⟩
        have hl1 := hown1.len
        rw [chG_len] at hl1
        obtain rfl : n1 = 18 := by omega
        have hcap1 := hown1.cap
        have hb01 := hA1.trans (hb1.mono hA1.size)
        have hacc1 := hacc0.below hb01
        have hbw1 := hbw0.trans (hb01.mono hbw0.size)
        have hA2 := (Below.refl w1.heap.size w1).alloc (Nat.le_refl _) (.cells #[.slice A1 18 c1] 42)
        have hacc2 := hacc1.below hA2
        have hbw2 := hbw1.trans (hA2.mono hbw1.size)
        have hrowB := hown1.row.below hA2
        have htyB : ∀ g, blockOf A1 = some g → Typed (w1.alloc (.cells #[.slice A1 18 c1] 42)) g 5 := fun g hg => (hown1.typed g hg).keep (hA2.block g (hown1.typed g hg).lt)
        have hrow2 : RowS encSl 1 (w1.alloc (.cells #[.slice A1 18 c1] 42)) (some ⟨w1.heap.size, 0, none⟩) 1 [(A1, 18, c1)] := rowS_vals encSl_len w1 42 [(A1, 18, c1)] _ rfl 1 rfl
        obtain ⟨S, hSo, hSi⟩ := hacc2
        have HSo := Lib.hid hSo
        have hwb : w.heap.size ≤ w1.heap.size + 1 := by have := hbw1.size; omega
        clear HB hacc0 hacc1 hown1 hb1 hA1 hb01 hbw0 hbw1 hA2 hl1
        go_wp2_with (at_builtin; refine wpList_append_atS rfl (.tmp 23) (.tmp 31) _ rfl 42 encSl 1 encSl_len (by omega) encSl_one w.heap.size i0 _ 24 Try.underlying22 hi hz0 hz1 rfl hz2 DA j dc S rfl HSo.out (some ⟨w1.heap.size, 0, none⟩) 1 1 [(A1, 18, c1)] rfl hrow2 (by omega) (by omega) (by omega) (by simpa using hwb) ?_)
        intro D3 dc3 w2 hown2 hg2 _
        have hacc3 := AccB.push hSo hSi hown2 hg2 hrowB htyB (cB_bytes _ (chG_ok hT0 hT1) (chG_right _)) (by omega) hcap1
        rw [← hCs] at hacc3
        have hbw3 := hbw2.grown hg2 hbw2.size (fun k e => (hSo.from_ k e).1)
        have HA3 := Lib.hid hacc3
        have HB3 := Lib.hid hbw3
        clear hSo hSi HSo hown2 hg2 hrowB htyB hrow2 hacc3 hbw2 hbw3 hCs
        go_wp2_with fail
        go_roundw
        case rel => exact ⟨j + 1, D3, dc3, by omega, by go_num, rfl, HA3.out, HB3.out⟩
        case measure => simp [intOf]; omega
    · obtain rfl : j = n := by omega
      have hCL : chL j back = chnK j back j ++ [oB chO] := rfl
      have HB := Lib.hid (chO_bytes wr)
      have hA1 := (Below.refl wr.heap.size wr).alloc (Nat.le_refl _) (.cells #[.int .u16 0] 39)
      have hA2 := hA1.alloc hA1.size (.cells #[.int .i16 5, .int .i16 0, .bool false] 54)
      go_wp2_with fail
      with_reducible refine HB.out.mono ?_
      rintro e w1 ⟨A1, n1, c1, rfl, hown1, hb1⟩
      have hl1 := hown1.len
      rw [chO_len] at hl1
      obtain rfl : n1 = 16 := by omega
      have hcap1 := hown1.cap
      have hb01 := hA2.trans (hb1.mono hA2.size)
      have hacc1 := hacc.below hb01
      have hbw1 := hbel.trans (hb01.mono hbel.size)
      have hA3 := (Below.refl w1.heap.size w1).alloc (Nat.le_refl _) (.cells #[.slice A1 16 c1] 42)
      have hacc2 := hacc1.below hA3
      have hbw2 := hbw1.trans (hA3.mono hbw1.size)
      have hrowB := hown1.row.below hA3
      have htyB : ∀ g, blockOf A1 = some g → Typed (w1.alloc (.cells #[.slice A1 16 c1] 42)) g 5 := fun g hg => (hown1.typed g hg).keep (hA3.block g (hown1.typed g hg).lt)
      have hrow2 : RowS encSl 1 (w1.alloc (.cells #[.slice A1 16 c1] 42)) (some ⟨w1.heap.size, 0, none⟩) 1 [(A1, 16, c1)] := rowS_vals encSl_len w1 42 [(A1, 16, c1)] _ rfl 1 rfl
      obtain ⟨S, hSo, hSi⟩ := hacc2
      have HSo := Lib.hid hSo
      have hwb : w.heap.size ≤ w1.heap.size + 1 := by have := hbw1.size; omega
      clear HB hacc hacc1 hown1 hb1 hA1 hA2 hb01 hbw1 hA3 hl1 hbel
      go_wp2_with (at_builtin; refine wpList_append_atS rfl (.tmp 34) (.tmp 40) _ rfl 42 encSl 1 encSl_len (by omega) encSl_one w.heap.size i0 _ 24 Try.underlying22 hi hz0 hz1 rfl hz2 DA j dc S rfl HSo.out (some ⟨w1.heap.size, 0, none⟩) 1 1 [(A1, 16, c1)] rfl hrow2 (by omega) (by omega) (by omega) (by simpa using hwb) ?_)
      intro D3 dc3 w2 hown2 hg2 _
      have hacc3 := AccB.push hSo hSi hown2 hg2 hrowB htyB (oB_bytes chO chO_ok.pr) (by omega) hcap1
      rw [← hCL] at hacc3
      have hbw3 := hbw2.grown hg2 hbw2.size (fun k e => (hSo.from_ k e).1)
      clear hSo hSi HSo hown2 hg2 hrowB htyB hrow2 hbw2 hCL
      go_wp2_with fail
      go_ret
      exact ⟨_, _, rfl, hacc3, hbw3⟩

end Go.Proofs.Ytdaeffnaoeblpaa

namespace Go.Proofs.Ytdaeffnaoeblpaa
open Go.RowKit
set_option linter.unusedVariables false
set_option linter.unusedSimpArgs false

theorem chL_len (n : Nat) (back : Int) : (chL n back).length = n + 1 := by simp [chL]
theorem chL_get (n : Nat) (back : Int) {i : Nat} (h : i < n) : (chL n back).getD i [] = cB (chG (toK n back i)) := by
  unfold chL
  rw [List.getD_eq_getElem?_getD, List.getElem?_append_left (by simp [h])]
  simp [h]
theorem chL_last (n : Nat) (back : Int) : (chL n back).getD n [] = oB chO := by
  unfold chL
  rw [List.getD_eq_getElem?_getD, List.getElem?_append_right (by simp)]
  simp
theorem chL_part (n : Nat) (back : Int) {i : Nat} (h : i < n) (h0 : 0 ≤ toK n back i) (h1 : toK n back i ≤ 65535) : shZ ((chL n back).getD i []) = some ([], [chP (toK n back i)]) := by
  rw [chL_get n back h, shZ_cB _ (chG_ok h0 h1) (chG_right _)]
  rfl
theorem chL_end (n : Nat) (back : Int) : shZ ((chL n back).getD n []) = some ([[(5, 0, false)]], []) := by
  rw [chL_last, shZ_oB _ chO_ok chO_right, chO_cts]

theorem visitZ_part {L : List (List Int)} {k : Nat} {way : List Int} {i : Nat} {m q : Nat} {p : Pt} (h0 : codeE L.length way (i : Int) m = 0) (hs : shZ (L.getD i []) = some ([], [p])) (hq : q ≤ 20000) :
    visitZ L (k + 1) way (i : Int) m q = if (visitZ L k (way ++ [(i : Int)]) p.i (m + 1) q).1 = 0 then (0, (visitZ L k (way ++ [(i : Int)]) p.i (m + 1) q).2.1.map (mvC p), (visitZ L k (way ++ [(i : Int)]) p.i (m + 1) q).2.2.1, (visitZ L k (way ++ [(i : Int)]) p.i (m + 1) q).2.2.2) else ((visitZ L k (way ++ [(i : Int)]) p.i (m + 1) q).1, [], (visitZ L k (way ++ [(i : Int)]) p.i (m + 1) q).2.2.1, (visitZ L k (way ++ [(i : Int)]) p.i (m + 1) q).2.2.2) := by
  rw [visitZ_code, if_pos h0, Int.toNat_natCast, hs]
  unfold stepZ
  simp only
  rw [if_neg (by rw [ptsN_nil]; omega)]
  simp only [ptsN_nil, Nat.add_zero]
  rw [show partsZ (visitZ L k (way ++ [(i : Int)])) [p] [] (m + 1) q = if (visitZ L k (way ++ [(i : Int)]) p.i (m + 1) q).1 = 0 then (0, [] ++ (visitZ L k (way ++ [(i : Int)]) p.i (m + 1) q).2.1.map (mvC p), (visitZ L k (way ++ [(i : Int)]) p.i (m + 1) q).2.2.1, (visitZ L k (way ++ [(i : Int)]) p.i (m + 1) q).2.2.2) else ((visitZ L k (way ++ [(i : Int)]) p.i (m + 1) q).1, [], (visitZ L k (way ++ [(i : Int)]) p.i (m + 1) q).2.2.1, (visitZ L k (way ++ [(i : Int)]) p.i (m + 1) q).2.2.2) from rfl, List.nil_append]
theorem visitZ_pts {L : List (List Int)} {k : Nat} {way : List Int} {i : Nat} {m q : Nat} {cs : List (List Sp)} (h0 : codeE L.length way (i : Int) m = 0) (hs : shZ (L.getD i []) = some (cs, [])) (hq : q + ptsN cs ≤ 20000) : visitZ L (k + 1) way (i : Int) m q = (0, cs, m + 1, q + ptsN cs) := by
  rw [visitZ_code, if_pos h0, Int.toNat_natCast, hs]
  unfold stepZ
  simp only
  rw [if_neg (by omega)]
  unfold partsZ
  rfl

def wayN (i : Nat) : List Int := (List.range i).map (fun (j : Nat) => (j : Int))
theorem wayN_succ (i : Nat) : wayN i ++ [(i : Int)] = wayN (i + 1) := by simp [wayN, List.range_succ]
theorem wayN_len (i : Nat) : (wayN i).length = i := by simp [wayN]
theorem wayN_not (i : Nat) : (wayN i).contains (i : Int) = false := by
  rw [Bool.eq_false_iff]
  intro h
  rw [List.contains_iff_mem] at h
  simp only [wayN, List.mem_map, List.mem_range] at h
  obtain ⟨j, hj, e⟩ := h
  omega
theorem codeE_way {gn i m : Nat} (h1 : i < gn) (h2 : i ≤ 16) (h3 : m ≠ 20000) : codeE gn (wayN i) (i : Int) m = 0 := by
  unfold codeE
  rw [if_neg (by omega), if_neg (by rw [wayN_not]; simp), if_neg (by rw [wayN_len]; omega), if_neg h3]
theorem mv_one (t d : Int) : mvC (chP t) [(5 + d, 0, false)] = [(5 + (d + 1), 0, false)] := by
  have h : mvC (chP t) [(5 + d, 0, false)] = [(rnd (16384 * (5 + d) + 0 * 0) + 1, rnd (0 * (5 + d) + 16384 * 0) + 0, false)] := rfl
  rw [h]
  unfold rnd
  congr 1
  apply Prod.ext
  · simp only; omega
  · apply Prod.ext
    · simp only; omega
    · rfl

theorem deepA {n : Nat} (hn : n ≤ 16) : ∀ (d i : Nat), i + d = n → visitZ (chL n (-1)) (18 - i) (wayN i) (i : Int) i 0 = (0, [[(5 + (d : Int), 0, false)]], n + 1, 1) := by
  intro d
  induction d with
  | zero =>
    intro i hi
    obtain rfl : i = n := by omega
    rw [show 18 - i = (17 - i) + 1 by omega, visitZ_pts (codeE_way (by rw [chL_len]; omega) hn (by omega)) (chL_end i (-1)) (by decide)]
    rfl
  | succ d ih =>
    intro i hi
    have hT : toK n (-1) i = ((i + 1 : Nat) : Int) := by unfold toK; rw [if_neg (by omega)]; omega
    rw [show 18 - i = (17 - i) + 1 by omega, visitZ_part (codeE_way (by rw [chL_len]; omega) (by omega) (by omega)) (chL_part n (-1) (by omega) (by omega) (by omega)) (by omega), wayN_succ]
    have h := ih (i + 1) (by omega)
    rw [show 18 - (i + 1) = 17 - i by omega] at h
    rw [show (chP (toK n (-1) i)).i = ((i + 1 : Nat) : Int) from hT, h]
    simp only [if_true, List.map_cons, List.map_nil, mv_one]
    rw [show ((d + 1 : Nat) : Int) = (d : Int) + 1 by omega]
theorem deepB {n : Nat} (hn : 17 ≤ n) (hn2 : n ≤ 1000) : ∀ (d i : Nat), i + d = 17 → visitZ (chL n (-1)) (18 - i) (wayN i) (i : Int) i 0 = (7, [], 17, 0) := by
  intro d
  induction d with
  | zero =>
    intro i hi
    obtain rfl : i = 17 := by omega
    have hc : codeE (chL n (-1)).length (wayN 17) ((17 : Nat) : Int) 17 = 7 := by
      unfold codeE
      rw [if_neg (by rw [chL_len]; omega), if_neg (by rw [wayN_not]; simp), if_pos (by rw [wayN_len]; omega)]
    rw [show 18 - 17 = 0 + 1 from rfl, visitZ_code, hc, if_neg (by decide)]
  | succ d ih =>
    intro i hi
    have hT : toK n (-1) i = ((i + 1 : Nat) : Int) := by unfold toK; rw [if_neg (by omega)]; omega
    rw [show 18 - i = (17 - i) + 1 by omega, visitZ_part (codeE_way (by rw [chL_len]; omega) (by omega) (by omega)) (chL_part n (-1) (by omega) (by omega) (by omega)) (by omega), wayN_succ]
    have h := ih (i + 1) (by omega)
    rw [show 18 - (i + 1) = 17 - i by omega] at h
    rw [show (chP (toK n (-1) i)).i = ((i + 1 : Nat) : Int) from hT, h]
    rfl
theorem flat_deep {n : Nat} (hn : n ≤ 1000) : flatZ (chL n (-1)) 0 = if 16 < n then (7, [], 17, 0) else (0, [[(5 + (n : Int), 0, false)]], n + 1, 1) := by
  unfold flatZ
  split
  · exact deepB (by omega) hn 17 0 rfl
  · exact deepA (by omega) n 0 (by omega)

def cntW (k : Nat) (way : List Int) : Nat := ((List.range k).filter (fun (j : Nat) => !way.contains (j : Int))).length
theorem filter_less {p p' : Nat → Bool} (i : Nat) (h1 : ∀ j, p' j = true → p j = true) (h2 : p' i = false) (h3 : p i = true) : ∀ l : List Nat, (l.filter p').length ≤ (l.filter p).length ∧ (i ∈ l → (l.filter p').length + 1 ≤ (l.filter p).length)
  | [] => ⟨Nat.le_refl _, fun h => by cases h⟩
  | x :: l => by
    obtain ⟨a, b⟩ := filter_less i h1 h2 h3 l
    rw [List.filter_cons, List.filter_cons]
    by_cases hx : p' x = true
    · rw [if_pos hx, if_pos (h1 x hx)]
      refine ⟨by simp; exact a, fun hi => ?_⟩
      rcases List.mem_cons.1 hi with rfl | hi
      · rw [h2] at hx; cases hx
      · have := b hi; simp; omega
    · rw [if_neg hx]
      by_cases hp : p x = true
      · rw [if_pos hp]
        refine ⟨by simp; omega, fun _ => by simp; omega⟩
      · rw [if_neg hp]
        refine ⟨a, fun hi => ?_⟩
        rcases List.mem_cons.1 hi with rfl | hi
        · exact absurd h3 hp
        · exact b hi
theorem cntW_step {k i : Nat} {way : List Int} (hi : i < k) (h : way.contains (i : Int) = false) : cntW k (way ++ [(i : Int)]) + 1 ≤ cntW k way := by
  unfold cntW
  refine (filter_less i (fun j hj => ?_) ?_ ?_ (List.range k)).2 (List.mem_range.2 hi)
  · simp at hj ⊢
    exact hj.1
  · simp
  · simp at h ⊢
    exact h

theorem cyc {k b : Nat} (hk : k ≤ 16) (hb : b < k) : ∀ (f : Nat) (way : List Int) (i : Nat), i < k → way.length + cntW k way ≤ k → f + way.length = 18 → (visitZ (chL k (b : Int)) f way (i : Int) way.length 0).1 = 8 := by
  intro f
  induction f with
  | zero => intro way i hi h1 h2; omega
  | succ f ih =>
    intro way i hi h1 h2
    cases hc : way.contains (i : Int) with
    | true =>
      have hcode : codeE (chL k (b : Int)).length way (i : Int) way.length = 8 := by
        unfold codeE
        rw [if_neg (by rw [chL_len]; omega), if_pos hc]
      rw [visitZ_code, hcode, if_neg (by decide)]
    | false =>
      have hst := cntW_step hi hc
      have hcode : codeE (chL k (b : Int)).length way (i : Int) way.length = 0 := by
        unfold codeE
        rw [if_neg (by rw [chL_len]; omega), if_neg (by rw [hc]; simp), if_neg (by omega), if_neg (by omega)]
      obtain ⟨t, ht, htk⟩ : ∃ t : Nat, toK k (b : Int) i = (t : Int) ∧ t < k := by
        unfold toK
        by_cases h : i + 1 = k
        · exact ⟨b, by rw [if_pos ⟨h, by omega⟩], hb⟩
        · exact ⟨i + 1, by rw [if_neg (by omega)]; omega, by omega⟩
      have h := ih (way ++ [(i : Int)]) t htk (by rw [List.length_append, List.length_singleton]; omega) (by rw [List.length_append, List.length_singleton]; omega)
      rw [List.length_append, List.length_singleton] at h
      rw [visitZ_part hcode (chL_part k _ hi (by omega) (by omega)) (by omega)]
      rw [show (chP (toK k (b : Int) i)).i = (t : Int) from ht]
      generalize visitZ (chL k (b : Int)) f (way ++ [(i : Int)]) (t : Int) (way.length + 1) 0 = r at *
      rw [if_neg (by omega)]
      exact h
theorem flat_cyc {k b i : Nat} (hk : k ≤ 16) (hb : b < k) (hi : i < k) : (flatZ (chL k (b : Int)) (i : Int)).1 = 8 ∧ (flatZ (chL k (b : Int)) (i : Int)).2.1 = [] := by
  have h : (flatZ (chL k (b : Int)) (i : Int)).1 = 8 := by
    unfold flatZ
    refine cyc hk hb 18 [] i hi ?_ rfl
    have : cntW k [] ≤ (List.range k).length := List.length_filter_le _ _
    simp at this ⊢
    exact this
  exact ⟨h, (visitZ_ok _ 18 [] (i : Int) 0 0).no (by show ¬ (flatZ (chL k (b : Int)) (i : Int)).1 = 0; omega)⟩
theorem flat_last {k : Nat} (back : Int) : flatZ (chL k back) (k : Int) = (0, [[(5, 0, false)]], 1, 1) := by
  have h : (chL k back)[k]? = some (oB chO) := by
    unfold chL
    rw [List.getElem?_append_right (by simp)]
    simp
  refine flatZ_leaf h ?_ (by decide)
  rw [shZ_oB _ chO_ok chO_right, chO_cts]

end Go.Proofs.Ytdaeffnaoeblpaa

namespace Go.Proofs.Ytdaeffnaoeblpaa
open Go.RowKit
set_option linter.unusedVariables false
set_option linter.unusedSimpArgs false

set_option maxRecDepth 100000 in
set_option maxHeartbeats 2000000 in
theorem law_FlatDeep (a : Int) (w : World) (h0 : 0 ≤ a) (h1 : a ≤ 255) : Calls Try.prog 5 #[.int .u8 a] w (True_ w) := by
  have HAw := Lib.hid (awake14_any w)
  obtain ⟨n, hn⟩ : ∃ n : Nat, a % 40 = (n : Int) := ⟨(a % 40).toNat, by omega⟩
  have hn40 : n < 40 := by omega
  have htm : Int.tmod a 40 = (n : Int) := by rw [Int.tmod_eq_emod_of_nonneg h0]; exact hn
  have HCh : Hid (∀ W, Calls Try.prog 25 #[.int .i64 (n : Int), .int .i64 (-1)] W fun e w' => ∃ A c, e = .returned (.slice A (n + 1) c) ∧ AccB w' W.heap.size A (n + 1) c (chL n (-1)) ∧ Below W.heap.size W w') := Lib.hid fun W => chain_any n (-1) W (by omega) (by omega) (by omega)
  have hD := flat_deep (n := n) (by omega)
  clear hn
  go_enter Try.func5, Try.ntmps5
  go_wp2_with fail
  with_reducible refine HAw.out.mono ?_
  rintro e w0 ⟨rfl, hb0⟩
  have HC := Lib.hid (HCh.out w0)
  clear HAw HCh
  go_wp2_with fail
  with_reducible refine HC.out.mono ?_
  rintro e w1 ⟨GA, gc, rfl, hgl, hb1⟩
  have hbw1 := hb0.trans (hb1.mono hb0.size)
  have HF := Lib.hid (flat_any _ hgl.bytes w1 GA (n + 1) gc 0 hgl.gls (by omega) (by omega) (by omega))
  unfold RetFlat at HF
  rw [hD] at HF
  clear HC hb0 hb1 hgl hD
  by_cases h16 : 16 < n
  · have h16i : 16 < (n : Int) := by omega
    rw [if_pos h16] at HF
    go_wp2_with fail
    with_reducible refine HF.out.mono ?_
    rintro e w2 ⟨hb2, CA, cn, cc, rfl, hacc⟩
    have hcn := hacc.len
    obtain rfl : cn = 0 := by simpa using hcn.symm
    have hbw2 := hbw1.trans (hb2.mono hbw1.size)
    clear HF hacc hb2 hcn
    go_wp2_with fail
    go_ret
    exact ⟨rfl, hbw2⟩
  · have h16i : ¬ 16 < (n : Int) := by omega
    rw [if_neg h16] at HF
    go_wp2_with fail
    with_reducible refine HF.out.mono ?_
    rintro e w2 ⟨hb2, CB, m, d, rfl, hacc⟩
    have hn2 := hacc.len
    obtain rfl : m = 1 := by simpa using hn2.symm
    have hbw2 := hbw1.trans (hb2.mono hbw1.size)
    obtain ⟨S, hSo, hSl, hSi⟩ := hacc
    obtain ⟨s, hs⟩ : ∃ s, S[0]? = some s := ⟨_, List.getElem?_eq_getElem (by have : S.length = 1 := hSl; omega)⟩
    obtain ⟨g, o, rfl, hg, hcell⟩ := atSl (hSo.row encSl_len) hs
    obtain ⟨hr1, hr2, _⟩ := hSi 0 s _ hs rfl
    obtain ⟨sa, sn, sc⟩ := s
    simp only at hcell hr1 hr2
    obtain ⟨g', o', rfl, hg', q0, q1, q2⟩ := atRp hr1 (j := 0) rfl
    have hsn := hr1.len
    obtain rfl : sn = 1 := by simpa using hsn.symm
    simp only [Nat.zero_mul, Nat.add_zero] at q0 q1 q2 hcell
    clear HF hSo hSl hSi hs hr1 hr2 hb2 hn2 hsn
    go_wp2_with fail
    go_ret
    exact ⟨rfl, hbw2⟩

end Go.Proofs.Ytdaeffnaoeblpaa

namespace Go.Proofs.Ytdaeffnaoeblpaa.flatDeep
open Go.ChangeShapes Go.WideShapes Go.ChangeAt Go.RowKit
open Go.ChangeMaps (open_string shut_string)
set_option linter.unusedVariables false

theorem own : ownKnob Try.prog.godebug = none := by kernel_rfl
theorem laidOut : laidOutB Try.prog = true := by kernel_rfl

set_option maxRecDepth 100000 in
theorem lifted (os : Os) (started : os.Started) (H : Type) (enc : TypeId × Value → H) :
    ReturnsInHanded {} Try.checked os 5 .any (Rows.flatDeepSpec.pre6 enc Try.prog Try.f5 Rows.flatDeepRow.domain false) (Rows.flatDeepSpec.post enc Try.prog Try.f5 false true false false) := by
  refine returnsInHanded_of_change (C := Try.checked) own started (by kernel_rfl) Try.func5
    (ChangeSpec.witness6 (enc := enc) (C := Try.checked) false ⟨#[], #[.int .u8 0], []⟩ 8 (by kernel_rfl) (by kernel_rfl) (by kernel_rfl) (by kernel_rfl)) ?_
  intro W base args ds gs before hval0 hW hcnd _
  have hval : ∀ (j : Nat) t v, Try.f5.params[j]? = some t → args[j]? = some v → Value.okWide Try.prog W .any base t v := hval0
  have hW' := hW
  obtain ⟨p, q, hA0, hV, rfl, hfz, hnd⟩ := hW
  have hA : DataW.TrodAll enc Try.prog W 0 (fun _ => true) true Try.f5.params.toList args.toList ds p := hA0
  rw [Try.params5] at hA hval
  obtain ⟨v0, vs0, d0, ds0, p0, q0, hargs, rfl, rfl, h0, r0⟩ := trodAll_cons hA
  obtain ⟨rfl, rfl, rfl⟩ := trodAll_nil r0
  obtain rfl : args = #[v0] := by cases args; simp_all
  obtain ⟨rfl, rfl⟩ := trodVars_none hV
  have k0 := h0
  have lt0 : ∀ x ∈ p0, x.block < W.heap.size := by obtain ⟨m, hm⟩ := k0; exact DataW.trod_lt m _ _ _ hm
  obtain ⟨a0, rfl, rfl, rfl, u0⟩ := open_int Try.underlying5 (hval 0 5 v0 rfl rfl) h0
  have w0 := bounds_u8 u0
  clear hA0 hval0
  refine (law_FlatDeep a0 W w0.1 w0.2).mono fun e W' ⟨he, bel⟩ => ?_
  subst he
  exact ⟨_, rfl, _, _, _, [], _, [], hW', trodAll_mk1 (shut_bool Try.underlying4 _), (trodAll_cons_mk (Below.trod laidOut (by kernel_rfl) (of_decide_eq_true (by kernel_rfl)) k0 bel lt0) trodAll_mk0), rfl, bel.frame _, fun h => by cases h⟩

theorem over : Rows.flatDeepRow.holds Try.pinned (OpenSpec.ofChange Rows.flatDeepSpec) :=
  OpenClaim.holds_of_wide 5 Try.f5 rfl rfl rfl rfl rfl rfl rfl ⟨rfl, rfl, rfl, rfl, rfl⟩ rfl rfl rfl rfl rfl (by kernel_rfl) Try.func5 (by kernel_rfl)
    (of_decide_eq_true (by kernel_rfl)) (by unfold Func.isWrapper; first | (rw [if_pos (by decide +kernel)]; kernel_rfl) | (rw [if_neg (by decide +kernel)]; exact ⟨rfl, rfl⟩))
    (fun os started H enc _ => lifted os started H enc)

theorem proved : Rows.FlatDeepSaid := over
#print axioms proved
end Go.Proofs.Ytdaeffnaoeblpaa.flatDeep
