/- A glyph made of one part is that part's points, each of them moved by the document's rule. -/
import Derived.Deep.QuietTactic
import Derived.Deep.RegionWith
import Derived.StillTailTactics
import Derived.Test.YtdaeffnaoeblpaaRows
import Derived.WalkKit
import Derived.ProofKit
import Derived.OpenShut
import Derived.ShutString
import Derived.ChangeOld
import Derived.Below
import Derived.Lib.SmallJoins
import Derived.Test.YtdaeffnaoeblpaaBase2
import Derived.Test.YtdaeffnaoeblpaaBase8
import Derived.Test.YtdaeffnaoeblpaaBase9
import Derived.Test.YtdaeffnaoeblpaaBase14
import Derived.Test.YtdaeffnaoeblpaaBase15

namespace Go.Proofs.Ytdaeffnaoeblpaa
open Go.RowKit
set_option linter.unusedVariables false
set_option linter.unusedSimpArgs false

theorem Try.bsinfoM : (Try.prog.info? 42).map (fun i => (i.zero, i.size, i.bytes)) = some (some (.slice none 0 0), 1, 24) := by kernel_rfl
/-- Bytes in rows of their own, gathered in a row. -/
def InB (w : World) (S : List Sl) (L : List (List Int)) : Prop := S.length = L.length ∧ ∀ (i : Nat) (s : Sl) (z : List Int), S[i]? = some s → L[i]? = some z → (Row w s.1 s.2.1 (cellsOf .u8 z) ∧ ∀ g, blockOf s.1 = some g → Typed w g 5) ∧ Bytes z ∧ s.2.1 ≤ 68747 ∧ s.2.1 ≤ s.2.2
theorem InB.keep {w w' : World} {S : List Sl} {L : List (List Int)} (h : InB w S L) (hs : w.heap.size ≤ w'.heap.size) (hk : ∀ g, Typed w g 5 → w'.heap[g]? = w.heap[g]?) : InB w' S L :=
  ⟨h.1, fun i s z a b => by
    obtain ⟨⟨h1, h2⟩, h3⟩ := h.2 i s z a b
    exact ⟨⟨h1.keep hs (fun g hg _ => hk g (h2 g hg)), fun g hg => (h2 g hg).keep (hk g (h2 g hg))⟩, h3⟩⟩
theorem InB.below {w w' : World} {S : List Sl} {L : List (List Int)} (h : InB w S L) (hb : Below w.heap.size w w') : InB w' S L := h.keep hb.size fun g hg => hb.block g hg.lt
theorem InB.nil (w : World) : InB w [] [] := ⟨rfl, fun i s c h => by simp at h⟩
theorem InB.push {w : World} {S : List Sl} {L : List (List Int)} (h : InB w S L) {A : Option Addr} {n k : Nat} {z : List Int} (hr : Row w A n (cellsOf .u8 z)) (ht : ∀ g, blockOf A = some g → Typed w g 5) (hB : Bytes z) (hn : n ≤ 68747) (hk : n ≤ k) : InB w (S ++ [(A, n, k)]) (L ++ [z]) := by
  refine ⟨by simp [h.1], fun i s d a b => ?_⟩
  by_cases hi : i < S.length
  · rw [List.getElem?_append_left hi] at a
    rw [List.getElem?_append_left (by rw [← h.1]; exact hi)] at b
    exact h.2 i s d a b
  · have hi2 : i = S.length := by
      have := (List.getElem?_eq_some_iff.1 a).1
      simp at this
      omega
    subst hi2
    rw [List.getElem?_append_right (Nat.le_refl _), Nat.sub_self] at a
    rw [h.1, List.getElem?_append_right (Nat.le_refl _), Nat.sub_self] at b
    simp at a b
    subst a b
    exact ⟨⟨hr, ht⟩, hB, hn, hk⟩
def AccB (w : World) (B : Nat) (A : Option Addr) (n c : Nat) (L : List (List Int)) : Prop := ∃ S : List Sl, OwnS 42 encSl 1 w B A n c S ∧ InB w S L
theorem AccB.len {w : World} {B : Nat} {A : Option Addr} {n c : Nat} {L : List (List Int)} (h : AccB w B A n c L) : L.length = n := by obtain ⟨S, h1, h2⟩ := h; rw [← h2.1]; exact h1.len
theorem AccB.nil (w : World) (B : Nat) : AccB w B none 0 0 [] := ⟨[], OwnS.nil _ _ _ _ _, InB.nil _⟩
theorem AccB.below {w w' : World} {B : Nat} {A : Option Addr} {n c : Nat} {L : List (List Int)} (h : AccB w B A n c L) (hb : Below w.heap.size w w') : AccB w' B A n c L := by
  obtain ⟨S, h1, h2⟩ := h
  exact ⟨S, h1.below hb, h2.below hb⟩
theorem AccB.gls {w : World} {B : Nat} {A : Option Addr} {n c : Nat} {L : List (List Int)} (h : AccB w B A n c L) : GlsIn w A n L := by
  obtain ⟨S, h1, h2⟩ := h
  exact ⟨S, h1.row encSl_len, h2.1, fun i s z a b => by
    obtain ⟨⟨r, _⟩, x⟩ := h2.2 i s z a b
    exact ⟨r, x⟩⟩
theorem AccB.bytes {w : World} {B : Nat} {A : Option Addr} {n c : Nat} {L : List (List Int)} (h : AccB w B A n c L) : ptsOk L := by
  obtain ⟨S, h1, h2⟩ := h
  intro z hz
  obtain ⟨i, hi⟩ := List.getElem?_of_mem hz
  have hl := (List.getElem?_eq_some_iff.1 hi).1
  obtain ⟨s, hs⟩ : ∃ s, S[i]? = some s := ⟨_, List.getElem?_eq_getElem (by rw [h2.1]; exact hl)⟩
  exact (h2.2 i s z hs hi).2.1
/-- Behind an append. -/
theorem AccB.push {w w' : World} {B : Nat} {A A2 : Option Addr} {n c c2 : Nat} {L : List (List Int)} {S : List Sl} {M : Option Addr} {m k : Nat} {z : List Int} (hd : OwnS 42 encSl 1 w B A n c S) (hi : InB w S L) (ho : OwnS 42 encSl 1 w' B A2 (n + 1) c2 (S ++ [(M, m, k)])) (hg : w.grownBy w' (blockOf A)) (hr : Row w M m (cellsOf .u8 z)) (ht : ∀ g, blockOf M = some g → Typed w g 5) (hB : Bytes z) (hm : m ≤ 68747) (hk : m ≤ k) : AccB w' B A2 (n + 1) c2 (L ++ [z]) := by
  have hsame : ∀ g, Typed w g 5 → w'.heap[g]? = w.heap[g]? := fun g a => hg.block g a.lt fun e => (a.ne (hd.typed g e.symm) (by decide)) rfl
  exact ⟨_, ho, (hi.keep hg.size hsame).push (hr.keep hg.size fun g hq _ => hsame g (ht g hq)) (fun g hq => (ht g hq).keep (hsame g (ht g hq))) hB hm hk⟩

/-- A glyph of parts is one. -/
theorem shZ_cB (g : Cg) (ho : g.ok) (hr : cRight g = true) : shZ (cB g) = some ([], g.ps) := by
  obtain ⟨h1, h2, h3⟩ := cB_dec g ho hr []
  have h4 := cOk_cB g ho hr []
  rw [List.append_nil] at h1 h2 h3 h4
  have hB := cB_bytes g ho hr
  have hc : cIs (cB g) = true := by
    rw [cIs_n2v hB]
    refine decide_eq_true ?_
    generalize cB g = zs at *
    match zs, h1 with
    | [], h1 => exact absurd (show be [] = 65535 from h1) (by decide)
    | [x], h1 => exact absurd (show be [] = 65535 from h1) (by decide)
    | x :: y :: r, h1 =>
      have e : n2at (x :: y :: r) 0 = 256 * x + y := by
        show be [x, y] = _
        simp [be]
        omega
      show 32767 < 256 * x + y
      omega
  have hl : (cB g).length ≠ 0 := by
    intro e
    rw [List.eq_nil_of_length_eq_zero e] at h1
    exact absurd (show be [] = 65535 from h1) (by decide)
  unfold shZ
  rw [if_neg hl, hc, h4, h3, h2, List.drop_length]
  rfl

def chP (tg : Int) : Pt := ⟨3, tg, 1, 0, 16384, 0, 0, 16384⟩
def chG (tg : Int) : Cg := ⟨0, 0, 0, 0, [chP tg], []⟩
theorem chG_right (tg : Int) : cRight (chG tg) = true := by kernel_rfl
theorem chG_ok {tg : Int} (h0 : 0 ≤ tg) (h1 : tg ≤ 65535) : (chG tg).ok := by
  refine ⟨fun x hx => ?_, fun p hp => ?_, fun x hx => by cases hx⟩
  · simp [chG] at hx; omega
  · simp [chG] at hp
    subst hp
    exact ⟨by simp [chP], ⟨h0, h1⟩, by simp [chP], by simp [chP], by simp [chP], by simp [chP], by simp [chP], by simp [chP]⟩
theorem chG_len (tg : Int) : (cB (chG tg)).length = 18 := by rfl
def chO : Gl := ⟨0, 0, 0, 0, [0], [], [(5, 0, false)]⟩
theorem chO_ok : chO.ok := ⟨by decide, by decide, (fun x hx => by cases hx), by decide⟩
theorem chO_right : oRight chO = true := by decide
theorem chO_cts : ctsG chO = [[(5, 0, false)]] := by decide
theorem chO_len : (oB chO).length = 16 := by decide
/-- To which glyph the one leads. -/
def toK (n : Nat) (back : Int) (i : Nat) : Int := if i + 1 = n ∧ 0 ≤ back then back else i + 1
def chL (n : Nat) (back : Int) : List (List Int) := (List.range n).map (fun i => cB (chG (toK n back i))) ++ [oB chO]

/-- The bytes of one part, as a law of the chain writes them. -/
theorem chG_bytes (tg : Int) (h0 : 0 ≤ tg) (h1 : tg ≤ 65535) (W : World) : Calls Try.prog 20 #[.agg #[.int .i16 0, .int .i16 0, .int .i16 0, .int .i16 0, .slice (some ⟨W.heap.size, 0, none⟩) 1 1, .slice none 0 0]] (W.alloc (.cells #[.int .u16 3, .int .u16 tg, .int .i16 1, .int .i16 0, .int .i16 16384, .int .i16 0, .int .i16 0, .int .i16 16384] 46)) (RetB (W.alloc (.cells #[.int .u16 3, .int .u16 tg, .int .i16 1, .int .i16 0, .int .i16 16384, .int .i16 0, .int .i16 0, .int .i16 16384] 46)) (cB (chG tg))) := by
  have h := cbytes_any ⟨chG tg, some ⟨W.heap.size, 0, none⟩, 1, 1, none, 0, 0⟩ (W.alloc (.cells #[.int .u16 3, .int .u16 tg, .int .i16 1, .int .i16 0, .int .i16 16384, .int .i16 0, .int .i16 0, .int .i16 16384] 46)) ⟨rowS_vals encPt_len W 46 [chP tg] _ rfl 1 rfl, Row.empty _ _⟩ (by show 1 ≤ 1000000; omega) (by show 0 ≤ 1000000; omega) (chG_ok h0 h1)
  unfold cBytes at h
  rw [if_pos (chG_right tg)] at h
  exact h
/-- The bytes of the chain's last one. -/
theorem chO_bytes (W : World) : Calls Try.prog 21 #[.agg #[.int .i16 0, .int .i16 0, .int .i16 0, .int .i16 0, .slice (some ⟨W.heap.size, 0, none⟩) 1 1, .slice none 0 0, .slice (some ⟨W.heap.size + 1, 0, none⟩) 1 1]] ((W.alloc (.cells #[.int .u16 0] 39)).alloc (.cells #[.int .i16 5, .int .i16 0, .bool false] 54)) (RetB ((W.alloc (.cells #[.int .u16 0] 39)).alloc (.cells #[.int .i16 5, .int .i16 0, .bool false] 54)) (oB chO)) := by
  have hr : GlV.rows ((W.alloc (.cells #[.int .u16 0] 39)).alloc (.cells #[.int .i16 5, .int .i16 0, .bool false] 54)) ⟨chO, some ⟨W.heap.size, 0, none⟩, 1, 1, none, 0, 0, some ⟨W.heap.size + 1, 0, none⟩, 1, 1⟩ := by
    refine ⟨(row_one W .u16 0 39).below ((Below.refl _ _).alloc (Nat.le_refl _) _), Row.empty _ _, ?_⟩
    have := rowS_vals encSp_len (W.alloc (.cells #[.int .u16 0] 39)) 54 [(5, 0, false)] #[.int .i16 5, .int .i16 0, .bool false] rfl 1 rfl
    rwa [show (W.alloc (.cells #[.int .u16 0] 39)).heap.size = W.heap.size + 1 by simp] at this
  have h := obytes_any _ _ hr ⟨by show (1 : Nat) ≤ 10000; omega, by show (0 : Nat) ≤ 10000; omega, by show (1 : Nat) ≤ 10000; omega⟩ chO_ok
  unfold oBytes at h
  rw [if_pos chO_right] at h
  exact h

def chnK (n : Nat) (back : Int) (k : Nat) : List (List Int) := (List.range k).map (fun i => cB (chG (toK n back i)))
theorem chnK_succ (n : Nat) (back : Int) (k : Nat) : chnK n back (k + 1) = chnK n back k ++ [cB (chG (toK n back k))] := by simp [chnK, List.range_succ]

set_option maxRecDepth 100000 in
set_option maxHeartbeats 2000000 in
theorem chain_any (n : Nat) (back : Int) (w : World) (hn : n ≤ 1000) (hb0 : -1 ≤ back) (hb1 : back ≤ 65535) : Calls Try.prog 25 #[.int .i64 n, .int .i64 back] w fun e w' => ∃ A c, e = .returned (.slice A (n + 1) c) ∧ AccB w' w.heap.size A (n + 1) c (chL n back) ∧ Below w.heap.size w w' := by
  obtain ⟨i0, hi, hz0, hz1, hz2⟩ := info_parts Try.bsinfoM
  go_enter Try.func25, Try.ntmps25
  go_wp2
  go_loopw [5, 9] (fun a i' wr => ∃ (j : Nat) (DA : Option Addr) (dc : Nat), j ≤ n ∧ i' = .int .i64 j ∧ a = .slice DA j dc ∧ AccB wr w.heap.size DA j dc (chnK n back j) ∧ Below w.heap.size w wr) (fun _ i' _ => n - (intOf i').toNat)
  case atStart => exact ⟨0, none, 0, Nat.zero_le _, rfl, rfl, AccB.nil _ _, Below.refl _ _⟩
  case round =>
    obtain ⟨j, DA, dc, hj, rfl, rfl, hacc, hbel⟩ := hrel
    by_cases hlt : j < n
    · by_cases hjn : j + 1 = n
      · have hjb : ((j : Int) == (n : Int) - 1) = true := by simp; omega
        by_cases hbk : 0 ≤ back
        · have hT0 : 0 ≤ back := by omega
          have hT1 : back ≤ 65535 := by omega
          have hCs := chnK_succ n back j
          rw [show toK n back j = back by unfold toK; first | rw [if_pos (by omega)] | rw [if_neg (by omega)]] at hCs
          have HBc := Lib.hid (fun W => chG_bytes (back) hT0 hT1 W)
          clear hjn
          go_wp2_with fail
          refine (unit_any _).mono ?_
          rintro e w0 ⟨rfl, hb0⟩
          have HB := Lib.hid (HBc.out w0)
          have hacc0 := hacc.below hb0
          have hA1 := (Below.refl w0.heap.size w0).alloc (Nat.le_refl _) (.cells #[.int .u16 3, .int .u16 (back), .int .i16 1, .int .i16 0, .int .i16 16384, .int .i16 0, .int .i16 0, .int .i16 16384] 46)
          have hbw0 := hbel.trans (hb0.mono hbel.size)
          clear hacc hbel hb0 HBc
          go_wp2_with fail
          with_reducible refine HB.out.mono ?_
          rintro e w1 ⟨A1, n1, c1, rfl, hown1, hb1⟩
          have hl1 := hown1.len
          rw [chG_len] at hl1
          obtain rfl : n1 = 18 := by omega
          have hcap1 := hown1.cap
          have hb01 := hA1.trans (hb1.mono hA1.size)
          have hacc1 := hacc0.below hb01
          have hbw1 := hbw0.trans (hb01.mono hbw0.size)
          have hA2 := (Below.refl w1.heap.size w1).alloc (Nat.le_refl _) (.cells #[.slice A1 18 c1] 42)
          have hacc2 := hacc1.below hA2
          have hbw2 := hbw1.trans (hA2.mono hbw1.size)
          have hrowB := hown1.row.below hA2
          have htyB : ∀ g, blockOf A1 = some g → Typed (w1.alloc (.cells #[.slice A1 18 c1] 42)) g 5 := fun g hg => (hown1.typed g hg).keep (hA2.block g (hown1.typed g hg).lt)
          have hrow2 : RowS encSl 1 (w1.alloc (.cells #[.slice A1 18 c1] 42)) (some ⟨w1.heap.size, 0, none⟩) 1 [(A1, 18, c1)] := rowS_vals encSl_len w1 42 [(A1, 18, c1)] _ rfl 1 rfl
          obtain ⟨S, hSo, hSi⟩ := hacc2
          have HSo := Lib.hid hSo
          have hwb : w.heap.size ≤ w1.heap.size + 1 := by have := hbw1.size; omega
          clear HB hacc0 hacc1 hown1 hb1 hA1 hb01 hbw0 hbw1 hA2 hl1
          go_wp2_with (at_builtin; refine wpList_append_atS rfl (.tmp 23) (.tmp 31) _ rfl 42 encSl 1 encSl_len (by omega) encSl_one w.heap.size i0 _ 24 Try.underlying22 hi hz0 hz1 rfl hz2 DA j dc S rfl HSo.out (some ⟨w1.heap.size, 0, none⟩) 1 1 [(A1, 18, c1)] rfl hrow2 (by omega) (by omega) (by omega) (by simpa using hwb) ?_)
          intro D3 dc3 w2 hown2 hg2 _
          have hacc3 := AccB.push hSo hSi hown2 hg2 hrowB htyB (cB_bytes _ (chG_ok hT0 hT1) (chG_right _)) (by omega) hcap1
          rw [← hCs] at hacc3
          have hbw3 := hbw2.grown hg2 hbw2.size (fun k e => (hSo.from_ k e).1)
          have HA3 := Lib.hid hacc3
          have HB3 := Lib.hid hbw3
          clear hSo hSi HSo hown2 hg2 hrowB htyB hrow2 hacc3 hbw2 hbw3 hCs
          go_wp2_with fail
          go_roundw
          case rel => exact ⟨j + 1, D3, dc3, by omega, by go_num, rfl, HA3.out, HB3.out⟩
          case measure => simp [intOf]; omega
        · have hT0 : 0 ≤ (j : Int) + 1 := by omega
          have hT1 : (j : Int) + 1 ≤ 65535 := by omega
          have hCs := chnK_succ n back j
          rw [show toK n back j = (j : Int) + 1 by unfold toK; first | rw [if_pos (by omega)] | rw [if_neg (by omega)]] at hCs
          have HBc := Lib.hid (fun W => chG_bytes ((j : Int) + 1) hT0 hT1 W)
          clear hjn
          go_wp2_with fail
          refine (unit_any _).mono ?_
          rintro e w0 ⟨rfl, hb0⟩
          have HB := Lib.hid (HBc.out w0)
          have hacc0 := hacc.below hb0
          have hA1 := (Below.refl w0.heap.size w0).alloc (Nat.le_refl _) (.cells #[.int .u16 3, .int .u16 ((j : Int) + 1), .int .i16 1, .int .i16 0, .int .i16 16384, .int .i16 0, .int .i16 0, .int .i16 16384] 46)
          have hbw0 := hbel.trans (hb0.mono hbel.size)
          clear hacc hbel hb0 HBc
          go_wp2_with fail
          with_reducible refine HB.out.mono ?_
          rintro e w1 ⟨A1, n1, c1, rfl, hown1, hb1⟩
          have hl1 := hown1.len
          rw [chG_len] at hl1
          obtain rfl : n1 = 18 := by omega
          have hcap1 := hown1.cap
          have hb01 := hA1.trans (hb1.mono hA1.size)
          have hacc1 := hacc0.below hb01
          have hbw1 := hbw0.trans (hb01.mono hbw0.size)
          have hA2 := (Below.refl w1.heap.size w1).alloc (Nat.le_refl _) (.cells #[.slice A1 18 c1] 42)
          have hacc2 := hacc1.below hA2
          have hbw2 := hbw1.trans (hA2.mono hbw1.size)
          have hrowB := hown1.row.below hA2
          have htyB : ∀ g, blockOf A1 = some g → Typed (w1.alloc (.cells #[.slice A1 18 c1] 42)) g 5 := fun g hg => (hown1.typed g hg).keep (hA2.block g (hown1.typed g hg).lt)
          have hrow2 : RowS encSl 1 (w1.alloc (.cells #[.slice A1 18 c1] 42)) (some ⟨w1.heap.size, 0, none⟩) 1 [(A1, 18, c1)] := rowS_vals encSl_len w1 42 [(A1, 18, c1)] _ rfl 1 rfl
          obtain ⟨S, hSo, hSi⟩ := hacc2
          have HSo := Lib.hid hSo
          have hwb : w.heap.size ≤ w1.heap.size + 1 := by have := hbw1.size; omega
          clear HB hacc0 hacc1 hown1 hb1 hA1 hb01 hbw0 hbw1 hA2 hl1
          go_wp2_with (at_builtin; refine wpList_append_atS rfl (.tmp 23) (.tmp 31) _ rfl 42 encSl 1 encSl_len (by omega) encSl_one w.heap.size i0 _ 24 Try.underlying22 hi hz0 hz1 rfl hz2 DA j dc S rfl HSo.out (some ⟨w1.heap.size, 0, none⟩) 1 1 [(A1, 18, c1)] rfl hrow2 (by omega) (by omega) (by omega) (by simpa using hwb) ?_)
          intro D3 dc3 w2 hown2 hg2 _
          have hacc3 := AccB.push hSo hSi hown2 hg2 hrowB htyB (cB_bytes _ (chG_ok hT0 hT1) (chG_right _)) (by omega) hcap1
          rw [← hCs] at hacc3
          have hbw3 := hbw2.grown hg2 hbw2.size (fun k e => (hSo.from_ k e).1)
          have HA3 := Lib.hid hacc3
          have HB3 := Lib.hid hbw3
          clear hSo hSi HSo hown2 hg2 hrowB htyB hrow2 hacc3 hbw2 hbw3 hCs
          go_wp2_with fail
          go_roundw
          case rel => exact ⟨j + 1, D3, dc3, by omega, by go_num, rfl, HA3.out, HB3.out⟩
          case measure => simp [intOf]; omega
      · have hjb : ((j : Int) == (n : Int) - 1) = false := by simp; omega
        have hT0 : 0 ≤ (j : Int) + 1 := by omega
        have hT1 : (j : Int) + 1 ≤ 65535 := by omega
        have hCs := chnK_succ n back j
        rw [show toK n back j = (j : Int) + 1 by unfold toK; first | rw [if_pos (by omega)] | rw [if_neg (by omega)]] at hCs
        have HBc := Lib.hid (fun W => chG_bytes ((j : Int) + 1) hT0 hT1 W)
        clear hjn
        go_wp2_with fail
        refine (unit_any _).mono ?_
        rintro e w0 ⟨rfl, hb0⟩
        have HB := Lib.hid (HBc.out w0)
        have hacc0 := hacc.below hb0
        have hA1 := (Below.refl w0.heap.size w0).alloc (Nat.le_refl _) (.cells #[.int .u16 3, .int .u16 ((j : Int) + 1), .int .i16 1, .int .i16 0, .int .i16 16384, .int .i16 0, .int .i16 0, .int .i16 16384] 46)
        have hbw0 := hbel.trans (hb0.mono hbel.size)
        clear hacc hbel hb0 HBc
        go_wp2_with fail
        with_reducible refine HB.out.mono ?_
        rintro e w1 ⟨A1, n1, c1, rfl, hown1, hb1⟩
        have hl1 := hown1.len
        rw [chG_len] at hl1
        obtain rfl : n1 = 18 := by omega
        have hcap1 := hown1.cap
        have hb01 := hA1.trans (hb1.mono hA1.size)
        have hacc1 := hacc0.below hb01
        have hbw1 := hbw0.trans (hb01.mono hbw0.size)
        have hA2 := (Below.refl w1.heap.size w1).alloc (Nat.le_refl _) (.cells #[.slice A1 18 c1] 42)
        have hacc2 := hacc1.below hA2
        have hbw2 := hbw1.trans (hA2.mono hbw1.size)
        have hrowB := hown1.row.below hA2
        have htyB : ∀ g, blockOf A1 = some g → Typed (w1.alloc (.cells #[.slice A1 18 c1] 42)) g 5 := fun g hg => (hown1.typed g hg).keep (hA2.block g (hown1.typed g hg).lt)
        have hrow2 : RowS encSl 1 (w1.alloc (.cells #[.slice A1 18 c1] 42)) (some ⟨w1.heap.size, 0, none⟩) 1 [(A1, 18, c1)] := rowS_vals encSl_len w1 42 [(A1, 18, c1)] _ rfl 1 rfl
        obtain ⟨S, hSo, hSi⟩ := hacc2
        have HSo := Lib.hid hSo
        have hwb : w.heap.size ≤ w1.heap.size + 1 := by have := hbw1.size; omega
        clear HB hacc0 hacc1 hown1 hb1 hA1 hb01 hbw0 hbw1 hA2 hl1
        go_wp2_with (at_builtin; refine wpList_append_atS rfl (.tmp 23) (.tmp 31) _ rfl 42 encSl 1 encSl_len (by omega) encSl_one w.heap.size i0 _ 24 Try.underlying22 hi hz0 hz1 rfl hz2 DA j dc S rfl HSo.out (some ⟨w1.heap.size, 0, none⟩) 1 1 [(A1, 18, c1)] rfl hrow2 (by omega) (by omega) (by omega) (by simpa using hwb) ?_)
        intro D3 dc3 w2 hown2 hg2 _
        have hacc3 := AccB.push hSo hSi hown2 hg2 hrowB htyB (cB_bytes _ (chG_ok hT0 hT1) (chG_right _)) (by omega) hcap1
        rw [← hCs] at hacc3
        have hbw3 := hbw2.grown hg2 hbw2.size (fun k e => (hSo.from_ k e).1)
        have HA3 := Lib.hid hacc3
        have HB3 := Lib.hid hbw3
        clear hSo hSi HSo hown2 hg2 hrowB htyB hrow2 hacc3 hbw2 hbw3 hCs
        go_wp2_with fail
        go_roundw
        case rel => exact ⟨j + 1, D3, dc3, by omega, by go_num, rfl, HA3.out, HB3.out⟩
        case measure => simp [intOf]; omega
    · obtain rfl : j = n := by omega
      have hCL : chL j back = chnK j back j ++ [oB chO] := rfl
      have HB := Lib.hid (chO_bytes wr)
      have hA1 := (Below.refl wr.heap.size wr).alloc (Nat.le_refl _) (.cells #[.int .u16 0] 39)
      have hA2 := hA1.alloc hA1.size (.cells #[.int .i16 5, .int .i16 0, .bool false] 54)
      go_wp2_with fail
      with_reducible refine HB.out.mono ?_
      rintro e w1 ⟨A1, n1, c1, rfl, hown1, hb1⟩
      have hl1 := hown1.len
      rw [chO_len] at hl1
      obtain rfl : n1 = 16 := by omega
      have hcap1 := hown1.cap
      have hb01 := hA2.trans (hb1.mono hA2.size)
      have hacc1 := hacc.below hb01
      have hbw1 := hbel.trans (hb01.mono hbel.size)
      have hA3 := (Below.refl w1.heap.size w1).alloc (Nat.le_refl _) (.cells #[.slice A1 16 c1] 42)
      have hacc2 := hacc1.below hA3
      have hbw2 := hbw1.trans (hA3.mono hbw1.size)
      have hrowB := hown1.row.below hA3
      have htyB : ∀ g, blockOf A1 = some g → Typed (w1.alloc (.cells #[.slice A1 16 c1] 42)) g 5 := fun g hg => (hown1.typed g hg).keep (hA3.block g (hown1.typed g hg).lt)
      have hrow2 : RowS encSl 1 (w1.alloc (.cells #[.slice A1 16 c1] 42)) (some ⟨w1.heap.size, 0, none⟩) 1 [(A1, 16, c1)] := rowS_vals encSl_len w1 42 [(A1, 16, c1)] _ rfl 1 rfl
      obtain ⟨S, hSo, hSi⟩ := hacc2
      have HSo := Lib.hid hSo
      have hwb : w.heap.size ≤ w1.heap.size + 1 := by have := hbw1.size; omega
      clear HB hacc hacc1 hown1 hb1 hA1 hA2 hb01 hbw1 hA3 hl1 hbel
      go_wp2_with (at_builtin; refine wpList_append_atS rfl (.tmp 34) (.tmp 40) _ rfl 42 encSl 1 encSl_len (by omega) encSl_one w.heap.size i0 _ 24 Try.underlying22 hi hz0 hz1 rfl hz2 DA j dc S rfl HSo.out (some ⟨w1.heap.size, 0, none⟩) 1 1 [(A1, 16, c1)] rfl hrow2 (by omega) (by omega) (by omega) (by simpa using hwb) ?_)
      intro D3 dc3 w2 hown2 hg2 _
      have hacc3 := AccB.push hSo hSi hown2 hg2 hrowB htyB (oB_bytes chO chO_ok.pr) (by omega) hcap1
      rw [← hCL] at hacc3
      have hbw3 := hbw2.grown hg2 hbw2.size (fun k e => (hSo.from_ k e).1)
      clear hSo hSi HSo hown2 hg2 hrowB htyB hrow2 hbw2 hCL
      go_wp2_with fail
      go_ret
      exact ⟨_, _, rfl, hacc3, hbw3⟩

end Go.Proofs.Ytdaeffnaoeblpaa

namespace Go.Proofs.Ytdaeffnaoeblpaa
open Go.RowKit
set_option linter.unusedVariables false
set_option linter.unusedSimpArgs false

theorem chL_len (n : Nat) (back : Int) : (chL n back).length = n + 1 := by simp [chL]
theorem chL_get (n : Nat) (back : Int) {i : Nat} (h : i < n) : (chL n back).getD i [] = cB (chG (toK n back i)) := by
  unfold chL
  rw [List.getD_eq_getElem?_getD, List.getElem?_append_left (by simp [h])]
  simp [h]
theorem chL_last (n : Nat) (back : Int) : (chL n back).getD n [] = oB chO := by
  unfold chL
  rw [List.getD_eq_getElem?_getD, List.getElem?_append_right (by simp)]
  simp
theorem chL_part (n : Nat) (back : Int) {i : Nat} (h : i < n) (h0 : 0 ≤ toK n back i) (h1 : toK n back i ≤ 65535) : shZ ((chL n back).getD i []) = some ([], [chP (toK n back i)]) := by
  rw [chL_get n back h, shZ_cB _ (chG_ok h0 h1) (chG_right _)]
  rfl
theorem chL_end (n : Nat) (back : Int) : shZ ((chL n back).getD n []) = some ([[(5, 0, false)]], []) := by
  rw [chL_last, shZ_oB _ chO_ok chO_right, chO_cts]

theorem visitZ_part {L : List (List Int)} {k : Nat} {way : List Int} {i : Nat} {m q : Nat} {p : Pt} (h0 : codeE L.length way (i : Int) m = 0) (hs : shZ (L.getD i []) = some ([], [p])) (hq : q ≤ 20000) :
    visitZ L (k + 1) way (i : Int) m q = if (visitZ L k (way ++ [(i : Int)]) p.i (m + 1) q).1 = 0 then (0, (visitZ L k (way ++ [(i : Int)]) p.i (m + 1) q).2.1.map (mvC p), (visitZ L k (way ++ [(i : Int)]) p.i (m + 1) q).2.2.1, (visitZ L k (way ++ [(i : Int)]) p.i (m + 1) q).2.2.2) else ((visitZ L k (way ++ [(i : Int)]) p.i (m + 1) q).1, [], (visitZ L k (way ++ [(i : Int)]) p.i (m + 1) q).2.2.1, (visitZ L k (way ++ [(i : Int)]) p.i (m + 1) q).2.2.2) := by
  rw [visitZ_code, if_pos h0, Int.toNat_natCast, hs]
  unfold stepZ
  simp only
  rw [if_neg (by rw [ptsN_nil]; omega)]
  simp only [ptsN_nil, Nat.add_zero]
  rw [show partsZ (visitZ L k (way ++ [(i : Int)])) [p] [] (m + 1) q = if (visitZ L k (way ++ [(i : Int)]) p.i (m + 1) q).1 = 0 then (0, [] ++ (visitZ L k (way ++ [(i : Int)]) p.i (m + 1) q).2.1.map (mvC p), (visitZ L k (way ++ [(i : Int)]) p.i (m + 1) q).2.2.1, (visitZ L k (way ++ [(i : Int)]) p.i (m + 1) q).2.2.2) else ((visitZ L k (way ++ [(i : Int)]) p.i (m + 1) q).1, [], (visitZ L k (way ++ [(i : Int)]) p.i (m + 1) q).2.2.1, (visitZ L k (way ++ [(i : Int)]) p.i (m + 1) q).2.2.2) from rfl, List.nil_append]
theorem visitZ_pts {L : List (List Int)} {k : Nat} {way : List Int} {i : Nat} {m q : Nat} {cs : List (List Sp)} (h0 : codeE L.length way (i : Int) m = 0) (hs : shZ (L.getD i []) = some (cs, [])) (hq : q + ptsN cs ≤ 20000) : visitZ L (k + 1) way (i : Int) m q = (0, cs, m + 1, q + ptsN cs) := by
  rw [visitZ_code, if_pos h0, Int.toNat_natCast, hs]
  unfold stepZ
  simp only
  rw [if_neg (by omega)]
  unfold partsZ
  rfl

def wayN (i : Nat) : List Int := (List.range i).map (fun (j : Nat) => (j : Int))
theorem wayN_succ (i : Nat) : wayN i ++ [(i : Int)] = wayN (i + 1) := by simp [wayN, List.range_succ]
theorem wayN_len (i : Nat) : (wayN i).length = i := by simp [wayN]
theorem wayN_not (i : Nat) : (wayN i).contains (i : Int) = false := by
  rw [Bool.eq_false_iff]
  intro h
  rw [List.contains_iff_mem] at h
  simp only [wayN, List.mem_map, List.mem_range] at h
  obtain ⟨j, hj, e⟩ := h
  omega
theorem codeE_way {gn i m : Nat} (h1 : i < gn) (h2 : i ≤ 16) (h3 : m ≠ 20000) : codeE gn (wayN i) (i : Int) m = 0 := by
  unfold codeE
  rw [if_neg (by omega), if_neg (by rw [wayN_not]; simp), if_neg (by rw [wayN_len]; omega), if_neg h3]
theorem mv_one (t d : Int) : mvC (chP t) [(5 + d, 0, false)] = [(5 + (d + 1), 0, false)] := by
  have h : mvC (chP t) [(5 + d, 0, false)] = [(rnd (16384 * (5 + d) + 0 * 0) + 1, rnd (0 * (5 + d) + 16384 * 0) + 0, false)] := rfl
  rw [h]
  unfold rnd
  congr 1
  apply Prod.ext
  · simp only; omega
  · apply Prod.ext
    · simp only; omega
    · rfl

theorem deepA {n : Nat} (hn : n ≤ 16) : ∀ (d i : Nat), i + d = n → visitZ (chL n (-1)) (18 - i) (wayN i) (i : Int) i 0 = (0, [[(5 + (d : Int), 0, false)]], n + 1, 1) := by
  intro d
  induction d with
  | zero =>
    intro i hi
    obtain rfl : i = n := by omega
    rw [show 18 - i = (17 - i) + 1 by omega, visitZ_pts (codeE_way (by rw [chL_len]; omega) hn (by omega)) (chL_end i (-1)) (by decide)]
    rfl
  | succ d ih =>
    intro i hi
    have hT : toK n (-1) i = ((i + 1 : Nat) : Int) := by unfold toK; rw [if_neg (by omega)]; omega
    rw [show 18 - i = (17 - i) + 1 by omega, visitZ_part (codeE_way (by rw [chL_len]; omega) (by omega) (by omega)) (chL_part n (-1) (by omega) (by omega) (by omega)) (by omega), wayN_succ]
    have h := ih (i + 1) (by omega)
    rw [show 18 - (i + 1) = 17 - i by omega] at h
    rw [show (chP (toK n (-1) i)).i = ((i + 1 : Nat) : Int) from hT, h]
    simp only [if_true, List.map_cons, List.map_nil, mv_one]
    rw [show ((d + 1 : Nat) : Int) = (d : Int) + 1 by omega]
theorem deepB {n : Nat} (hn : 17 ≤ n) (hn2 : n ≤ 1000) : ∀ (d i : Nat), i + d = 17 → visitZ (chL n (-1)) (18 - i) (wayN i) (i : Int) i 0 = (7, [], 17, 0) := by
  intro d
  induction d with
  | zero =>
    intro i hi
    obtain rfl : i = 17 := by omega
    have hc : codeE (chL n (-1)).length (wayN 17) ((17 : Nat) : Int) 17 = 7 := by
      unfold codeE
      rw [if_neg (by rw [chL_len]; omega), if_neg (by rw [wayN_not]; simp), if_pos (by rw [wayN_len]; omega)]
    rw [show 18 - 17 = 0 + 1 from rfl, visitZ_code, hc, if_neg (by decide)]
  | succ d ih =>
    intro i hi
    have hT : toK n (-1) i = ((i + 1 : Nat) : Int) := by unfold toK; rw [if_neg (by omega)]; omega
    rw [show 18 - i = (17 - i) + 1 by omega, visitZ_part (codeE_way (by rw [chL_len]; omega) (by omega) (by omega)) (chL_part n (-1) (by omega) (by omega) (by omega)) (by omega), wayN_succ]
    have h := ih (i + 1) (by omega)
    rw [show 18 - (i + 1) = 17 - i by omega] at h
    rw [show (chP (toK n (-1) i)).i = ((i + 1 : Nat) : Int) from hT, h]
    rfl
theorem flat_deep {n : Nat} (hn : n ≤ 1000) : flatZ (chL n (-1)) 0 = if 16 < n then (7, [], 17, 0) else (0, [[(5 + (n : Int), 0, false)]], n + 1, 1) := by
  unfold flatZ
  split
  · exact deepB (by omega) hn 17 0 rfl
  · exact deepA (by omega) n 0 (by omega)

def cntW (k : Nat) (way : List Int) : Nat := ((List.range k).filter (fun (j : Nat) => !way.contains (j : Int))).length
theorem filter_less {p p' : Nat → Bool} (i : Nat) (h1 : ∀ j, p' j = true → p j = true) (h2 : p' i = false) (h3 : p i = true) : ∀ l : List Nat, (l.filter p').length ≤ (l.filter p).length ∧ (i ∈ l → (l.filter p').length + 1 ≤ (l.filter p).length)
  | [] => ⟨Nat.le_refl _, fun h => by cases h⟩
  | x :: l => by
    obtain ⟨a, b⟩ := filter_less i h1 h2 h3 l
    rw [List.filter_cons, List.filter_cons]
    by_cases hx : p' x = true
    · rw [if_pos hx, if_pos (h1 x hx)]
      refine ⟨by simp; exact a, fun hi => ?_⟩
      rcases List.mem_cons.1 hi with rfl | hi
      · rw [h2] at hx; cases hx
      · have := b hi; simp; omega
    · rw [if_neg hx]
      by_cases hp : p x = true
      · rw [if_pos hp]
        refine ⟨by simp; omega, fun _ => by simp; omega⟩
      · rw [if_neg hp]
        refine ⟨a, fun hi => ?_⟩
        rcases List.mem_cons.1 hi with rfl | hi
        · exact absurd h3 hp
        · exact b hi
theorem cntW_step {k i : Nat} {way : List Int} (hi : i < k) (h : way.contains (i : Int) = false) : cntW k (way ++ [(i : Int)]) + 1 ≤ cntW k way := by
  unfold cntW
  refine (filter_less i (fun j hj => ?_) ?_ ?_ (List.range k)).2 (List.mem_range.2 hi)
  · simp at hj ⊢
    exact hj.1
  · simp
  · simp at h ⊢
    exact h

theorem cyc {k b : Nat} (hk : k ≤ 16) (hb : b < k) : ∀ (f : Nat) (way : List Int) (i : Nat), i < k → way.length + cntW k way ≤ k → f + way.length = 18 → (visitZ (chL k (b : Int)) f way (i : Int) way.length 0).1 = 8 := by
  intro f
  induction f with
  | zero => intro way i hi h1 h2; omega
  | succ f ih =>
    intro way i hi h1 h2
    cases hc : way.contains (i : Int) with
    | true =>
      have hcode : codeE (chL k (b : Int)).length way (i : Int) way.length = 8 := by
        unfold codeE
        rw [if_neg (by rw [chL_len]; omega), if_pos hc]
      rw [visitZ_code, hcode, if_neg (by decide)]
    | false =>
      have hst := cntW_step hi hc
      have hcode : codeE (chL k (b : Int)).length way (i : Int) way.length = 0 := by
        unfold codeE
        rw [if_neg (by rw [chL_len]; omega), if_neg (by rw [hc]; simp), if_neg (by omega), if_neg (by omega)]
      obtain ⟨t, ht, htk⟩ : ∃ t : Nat, toK k (b : Int) i = (t : Int) ∧ t < k := by
        unfold toK
        by_cases h : i + 1 = k
        · exact ⟨b, by rw [if_pos ⟨h, by omega⟩], hb⟩
        · exact ⟨i + 1, by rw [if_neg (by omega)]; omega, by omega⟩
      have h := ih (way ++ [(i : Int)]) t htk (by rw [List.length_append, List.length_singleton]; omega) (by rw [List.length_append, List.length_singleton]; omega)
      rw [List.length_append, List.length_singleton] at h
      rw [visitZ_part hcode (chL_part k _ hi (by omega) (by omega)) (by omega)]
      rw [show (chP (toK k (b : Int) i)).i = (t : Int) from ht]
      generalize visitZ (chL k (b : Int)) f (way ++ [(i : Int)]) (t : Int) (way.length + 1) 0 = r at *
      rw [if_neg (by omega)]
      exact h
theorem flat_cyc {k b i : Nat} (hk : k ≤ 16) (hb : b < k) (hi : i < k) : (flatZ (chL k (b : Int)) (i : Int)).1 = 8 ∧ (flatZ (chL k (b : Int)) (i : Int)).2.1 = [] := by
  have h : (flatZ (chL k (b : Int)) (i : Int)).1 = 8 := by
    unfold flatZ
    refine cyc hk hb 18 [] i hi ?_ rfl
    have : cntW k [] ≤ (List.range k).length := List.length_filter_le _ _
    simp at this ⊢
    exact this
  exact ⟨h, (visitZ_ok _ 18 [] (i : Int) 0 0).no (by show ¬ (flatZ (chL k (b : Int)) (i : Int)).1 = 0; omega)⟩
theorem flat_last {k : Nat} (back : Int) : flatZ (chL k back) (k : Int) = (0, [[(5, 0, false)]], 1, 1) := by
  have h : (chL k back)[k]? = some (oB chO) := by
    unfold chL
    rw [List.getElem?_append_right (by simp)]
    simp
  refine flatZ_leaf h ?_ (by decide)
  rw [shZ_oB _ chO_ok chO_right, chO_cts]

end Go.Proofs.Ytdaeffnaoeblpaa

namespace Go.Proofs.Ytdaeffnaoeblpaa
open Go.RowKit
set_option linter.unusedVariables false
set_option linter.unusedSimpArgs false

set_option maxHeartbeats 1000000 in
theorem eqPt_self (A : Option Addr) (n c d : Nat) (xs : List Sp) (w : World) (hx : RowS encRp 3 w A n xs) (hl : n ≤ 1000000) : Calls Try.prog 68 #[.slice A n c, .slice A n d] w (Quiet w (.bool true)) := by
  have Hx := Lib.hid hx.len
  have hne : ((n : Int) != (n : Int)) = false := by simp
  go_enter Try.func68, Try.ntmps68
  go_wp2
  clear hne
  go_loopw [13] (fun i wr => ∃ k q : Nat, k ≤ n ∧ i = .int .i64 k ∧ wr = w.drewN q) (fun i _ => n - (intOf i).toNat)
  case atStart => exact ⟨0, 0, Nat.zero_le _, rfl, rfl⟩
  case round =>
    obtain ⟨k, q, hk, rfl, rfl⟩ := hrel
    by_cases hlt : k < n
    · obtain ⟨x, ex⟩ : ∃ p, xs[k]? = some p := ⟨xs[k]'(by have := Hx.out; omega), List.getElem?_eq_getElem (by have := Hx.out; omega)⟩
      obtain ⟨g, off, rfl, hg, q0, q1, q2⟩ := atRp hx ex
      have i0 : (0 : Int) ≤ (k : Int) := by omega
      have i1 : (k : Int) < (n : Int) := by omega
      clear ex
      obtain ⟨a0, a1, a2⟩ := x
      simp only at *
      go_wp2
      go_quiet (fail)
      go_wp2
      go_roundw
      case rel => exact ⟨k + 1, _, by omega, by go_num, by first | rfl | (rw [World.drewN_drewN])⟩
      case measure => simp [intOf]; omega
    · obtain rfl : k = n := by omega
      go_wp2
      go_ret
      exact ⟨rfl, _, rfl⟩

theorem fsameC_self (A : Option Addr) (n c d : Nat) (xs : List Sp) (w : World) (hx : RowS encRp 3 w A n xs) (hl : n ≤ 1000000) : Calls Try.prog 67 #[.slice A n c, .slice A n d] w (Quiet w (.bool true)) := by
  have HE := Lib.hid (eqPt_self A n c d xs w hx hl)
  go_enter Try.func67, Try.ntmps67
  go_wp2_with fail
  refine HE.out.mono ?_
  rintro e w' ⟨rfl, q, rfl⟩
  go_wp2
  go_ret
  exact ⟨rfl, q, rfl⟩

set_option maxHeartbeats 1000000 in
theorem eqFn_self (A : Option Addr) (n c d : Nat) (S : List Sl) (cs : List (List Sp)) (w : World) (hr : RowS encSl 1 w A n S) (hi : InT 59 w S cs) (hl : n ≤ 1000000) (hc : ∀ x ∈ cs, x.length ≤ 1000000) : Calls Try.prog 66 #[.slice A n c, .slice A n d, .func (.func 67) #[] #[]] w (Quiet w (.bool true)) := by
  have Hl : Hid (S.length = n) := hr.len
  have HIn := Lib.hid hi
  have HC := Lib.hid hc
  have hne : ((n : Int) != (n : Int)) = false := by simp
  clear hi hc
  go_enter Try.func66, Try.ntmps66
  go_wp2
  clear hne
  go_loopw [17] (fun i wr => ∃ k q : Nat, k ≤ n ∧ i = .int .i64 k ∧ wr = w.drewN q) (fun i _ => n - (intOf i).toNat)
  case atStart => exact ⟨0, 0, Nat.zero_le _, rfl, rfl⟩
  case round =>
    obtain ⟨k, q, hk, rfl, rfl⟩ := hrel
    by_cases hlt : k < n
    · obtain ⟨s, hs⟩ : ∃ s, S[k]? = some s := ⟨_, List.getElem?_eq_getElem (by have := Hl.out; omega)⟩
      obtain ⟨x, hx⟩ : ∃ x, cs[k]? = some x := ⟨_, List.getElem?_eq_getElem (by have := Hl.out; have := HIn.out.1; omega)⟩
      obtain ⟨g, off, rfl, hg, hcell⟩ := atSl hr hs
      obtain ⟨r1, r2, _⟩ := HIn.out.2 k s x hs hx
      have hxl := HC.out x (List.mem_of_getElem? hx)
      have hrl := r1.len
      obtain ⟨sa, sn, sc⟩ := s
      simp only at hcell r1 r2 hrl
      have HE := Lib.hid (fsameC_self sa sn sc sc x (w.drewN q) (r1.drewN q) (by omega))
      have hcell2 : (w.drewN q).cell? ⟨g, off + k, none⟩ = some (.slice sa sn sc) := hcell
      clear hs hx r1
      go_wp2_with fail
      refine HE.out.mono ?_
      rintro e w' ⟨rfl, q', rfl⟩
      go_wp2
      go_roundw
      case rel => exact ⟨k + 1, _, by omega, by go_num, by first | rfl | (rw [World.drewN_drewN])⟩
      case measure => simp [intOf]; omega
    · obtain rfl : k = n := by omega
      go_wp2
      go_ret
      exact ⟨rfl, _, rfl⟩
theorem fsame_self (A : Option Addr) (n c d : Nat) (S : List Sl) (cs : List (List Sp)) (w : World) (hr : RowS encSl 1 w A n S) (hi : InT 59 w S cs) (hl : n ≤ 1000000) (hc : ∀ x ∈ cs, x.length ≤ 1000000) : Calls Try.prog 24 #[.slice A n c, .slice A n d] w (Quiet w (.bool true)) := by
  have HE := Lib.hid (eqFn_self A n c d S cs w hr hi hl hc)
  go_enter Try.func24, Try.ntmps24
  go_wp2_with fail
  refine HE.out.mono ?_
  rintro e w' ⟨rfl, q, rfl⟩
  go_wp2
  go_ret
  exact ⟨rfl, q, rfl⟩
theorem eqFn_one (A : Option Addr) (c : Nat) (w : World) : Calls Try.prog 66 #[.slice A 1 c, .slice none 0 0, .func (.func 67) #[] #[]] w (Quiet w (.bool false)) := by
  go_enter Try.func66, Try.ntmps66
  go_wp2
  go_ret
  exact ⟨rfl, 0, rfl⟩
theorem fsame_one (A : Option Addr) (c : Nat) (w : World) : Calls Try.prog 24 #[.slice A 1 c, .slice none 0 0] w (Quiet w (.bool false)) := by
  have HE := Lib.hid (eqFn_one A c w)
  go_enter Try.func24, Try.ntmps24
  go_wp2_with fail
  refine HE.out.mono ?_
  rintro e w' ⟨rfl, q, rfl⟩
  go_wp2
  go_ret
  exact ⟨rfl, q, rfl⟩

end Go.Proofs.Ytdaeffnaoeblpaa

namespace Go.Proofs.Ytdaeffnaoeblpaa
open Go.RowKit
set_option linter.unusedVariables false

set_option maxRecDepth 100000 in
set_option maxHeartbeats 1000000 in
theorem rapply_any (a b c d x y : Int) (on : Bool) (dx dy : Int) (w : World) (a0 : -32768 ≤ a) (a1 : a ≤ 32767) (b0 : -32768 ≤ b) (b1 : b ≤ 32767) (c0 : -32768 ≤ c) (c1 : c ≤ 32767) (d0 : -32768 ≤ d) (d1 : d ≤ 32767)
    (x0 : -70368744177664 ≤ x) (x1 : x ≤ 70368744177664) (y0 : -70368744177664 ≤ y) (y1 : y ≤ 70368744177664) (u0 : -70368744177664 ≤ dx) (u1 : dx ≤ 70368744177664) (v0 : -70368744177664 ≤ dy) (v1 : dy ≤ 70368744177664) :
    Calls Try.prog 23 #[.agg #[.int .i64 a, .int .i64 b, .int .i64 c, .int .i64 d], ptV x y on, .int .i64 dx, .int .i64 dy] w fun e w' => e = .returned (ptV (rnd (a * x + c * y) + dx) (rnd (b * x + d * y) + dy) on) ∧ Below w.heap.size w w' := by
  obtain ⟨p0, p1⟩ := mul_bd a x a0 a1 x0 x1
  obtain ⟨q0, q1⟩ := mul_bd c y c0 c1 y0 y1
  obtain ⟨r0, r1⟩ := mul_bd b x b0 b1 x0 x1
  obtain ⟨s0, s1⟩ := mul_bd d y d0 d1 y0 y1
  have e1 : IntKind.i64.wrap (a * x) = a * x := IntWalk.i64_in _ (by omega)
  have e2 : IntKind.i64.wrap (c * y) = c * y := IntWalk.i64_in _ (by omega)
  have e3 : IntKind.i64.wrap (b * x) = b * x := IntWalk.i64_in _ (by omega)
  have e4 : IntKind.i64.wrap (d * y) = d * y := IntWalk.i64_in _ (by omega)
  have e5 : IntKind.i64.wrap (a * x + c * y) = a * x + c * y := IntWalk.i64_in _ (by omega)
  have e6 : IntKind.i64.wrap (b * x + d * y) = b * x + d * y := IntWalk.i64_in _ (by omega)
  have g1 : -562949953421312 ≤ rnd (a * x + c * y) ∧ rnd (a * x + c * y) ≤ 562949953421312 := by unfold rnd; omega
  have g2 : -562949953421312 ≤ rnd (b * x + d * y) ∧ rnd (b * x + d * y) ≤ 562949953421312 := by unfold rnd; omega
  have e7 : IntKind.i64.wrap (rnd (a * x + c * y) + dx) = rnd (a * x + c * y) + dx := IntWalk.i64_in _ (by omega)
  have e8 : IntKind.i64.wrap (rnd (b * x + d * y) + dy) = rnd (b * x + d * y) + dy := IntWalk.i64_in _ (by omega)
  have k1 := fun W => rround_any (a * x + c * y) W (by omega) (by omega)
  have k2 := fun W => rround_any (b * x + d * y) W (by omega) (by omega)
  have K1 := Lib.hid k1
  have K2 := Lib.hid k2
  clear k1 k2
  go_enter Try.func23, Try.ntmps23
  go_wp2_with fail
  refine region_tail 31 (by kernel_rfl) (by kernel_rfl) ?_
  simp only [List.take_succ_cons, List.take_zero, List.drop_succ_cons, List.drop_zero]
  repeat still_step
  still_call (K1.out _)
  repeat still_step
  still_call (K2.out _)
  repeat still_step
  refine wpStill_nil ?_
  go_wp2
  refine bodyPost_ret (v := ptV (rnd (a * x + c * y) + dx) (rnd (b * x + d * y) + dy) on) (by simp [results, Try.results23, go_sem]) rfl ⟨rfl, ?_⟩
  exact ((((Below.refl _ _).alloc (Nat.le_refl _) _).alloc (by simp) _).alloc (by simp; omega) _).drew

end Go.Proofs.Ytdaeffnaoeblpaa

namespace Go.Proofs.Ytdaeffnaoeblpaa
open Go.RowKit
set_option linter.unusedVariables false
set_option linter.unusedSimpArgs false

theorem ownS_emptyV {α : Type} (t : TypeId) (enc : α → List Value) (k : Nat) (w : World) (B : Nat) (h : B ≤ w.heap.size) : OwnS t enc k (w.alloc (.cells #[] t)) B (some ⟨w.heap.size, 0, none⟩) 0 0 [] :=
  ⟨rfl, by simp [flat], .inr ⟨w.heap.size, 0, #[], rfl, h, heap_alloc_new w _, by omega, by simp [maxLen], by simp, by simp [flat]⟩⟩
theorem Try.spinfoV : (Try.prog.info? 54).map (fun i => (i.zero, i.size, i.bytes)) = some (some (.agg #[.int .i16 0, .int .i16 0, .bool false]), 3, 6) := by kernel_rfl
theorem oB_lenV {g : Gl} (h1 : g.es.length ≤ 100) (h2 : g.pr.length ≤ 100) (h3 : g.ps.length ≤ 1000) : (oB g).length ≤ 7000 := by
  have a1 := rle_len (fls g.ps)
  have a2 := cbs_len (chs (xsOf g.ps))
  have a3 := cbs_len (chs (ysOf g.ps))
  unfold fls at a1
  rw [flK_len] at a1
  rw [chs_len, xsOf_len] at a2
  rw [chs_len, ysOf_len] at a3
  unfold oB
  simp only [List.length_append, oFront_len]
  unfold fls
  omega
def vP (x y a b c d : Int) : Pt := ⟨131, 1, x, y, a, b, c, d⟩
def vC (x y a b c d : Int) : Cg := ⟨0, 0, 0, 0, [vP x y a b c d], []⟩
theorem vC_right (x y a b c d : Int) : cRight (vC x y a b c d) = true := by kernel_rfl
theorem vC_len (x y a b c d : Int) : (cB (vC x y a b c d)).length = 26 := by rfl
theorem vC_ok {x y a b c d : Int} (hx : -32768 ≤ x ∧ x ≤ 32767) (hy : -32768 ≤ y ∧ y ≤ 32767) (ha : -32768 ≤ a ∧ a ≤ 32767) (hb : -32768 ≤ b ∧ b ≤ 32767) (hc : -32768 ≤ c ∧ c ≤ 32767) (hd : -32768 ≤ d ∧ d ≤ 32767) : (vC x y a b c d).ok := by
  refine ⟨fun x hx => ?_, fun p hp => ?_, fun x hx => by cases hx⟩
  · simp [vC] at hx; omega
  · simp [vC] at hp
    subst hp
    exact ⟨by simp [vP], by simp [vP], hx, hy, ha, hb, hc, hd⟩
def vG (ps : List Sp) : Gl := ⟨0, 0, 0, 0, [(ps.length : Int) - 1], [], ps⟩
theorem vG_cts {ps : List Sp} (h : 1 ≤ ps.length) (hr : oRight (vG ps) = true) : ctsG (vG ps) = [ps] := by
  unfold ctsG
  rw [if_pos hr]
  have hT : segT (vG ps).es 0 = ps.length := by
    show ((ps.length : Int) - 1).toNat + 1 = ps.length
    omega
  have hs : seg (vG ps).ps (vG ps).es 0 = ps := by
    unfold seg
    rw [hT]
    show (ps.take ps.length).drop 0 = ps
    simp
  show (List.range 1).map _ = _
  simp [List.range_succ, hs]
theorem flat_moves {ps : List Sp} {x y a b c d : Int} (h : 1 ≤ ps.length) (h40 : ps.length ≤ 40) (ho : (vG ps).ok) (hr : oRight (vG ps) = true) (hc : (vC x y a b c d).ok) : flatZ [cB (vC x y a b c d), oB (vG ps)] 0 = (0, [ps.map (moveP a b c d x y)], 2, ps.length) := by
  have hs : shZ (cB (vC x y a b c d)) = some ([], [vP x y a b c d]) := by
    rw [shZ_cB _ hc (vC_right _ _ _ _ _ _)]
    rfl
  have hs2 : shZ (oB (vG ps)) = some ([ps], []) := by rw [shZ_oB _ ho hr, vG_cts h hr]
  have hp : ptsN [ps] = ps.length := by simp [ptsN]
  generalize cB (vC x y a b c d) = za at *
  generalize oB (vG ps) = zb at *
  have h1 : visitZ [za, zb] 17 ([] ++ [((0 : Nat) : Int)]) ((1 : Nat) : Int) 1 0 = (0, [ps], 2, ps.length) := by
    rw [visitZ_pts (L := [za, zb]) (i := 1) (k := 16) (cs := [ps]) (by show codeE 2 [0] 1 1 = 0; decide) hs2 (by rw [hp]; omega), hp, Nat.zero_add]
  unfold flatZ
  rw [show (0 : Int) = ((0 : Nat) : Int) from rfl, visitZ_part (L := [za, zb]) (i := 0) (k := 17) (p := vP x y a b c d) (by show codeE 2 [] 0 0 = 0; decide) hs (by decide)]
  rw [show (vP x y a b c d).i = ((1 : Nat) : Int) from rfl, Nat.zero_add, h1]
  rfl

set_option maxRecDepth 1000000 in
set_option maxHeartbeats 8000000 in
theorem law_FlatMoves (A : Option Addr) (n c : Nat) (l : List Sp) (xx xy yx yy x y : Int) (w : World) (hr : RowS encSp 3 w A n l) (hl : ∀ q ∈ l, (-32768 ≤ q.1 ∧ q.1 ≤ 32767) ∧ (-32768 ≤ q.2.1 ∧ q.2.1 ≤ 32767)) (hn : n ≤ 9223372036854775807) (hc : n ≤ c)
    (hxx : -32768 ≤ xx ∧ xx ≤ 32767) (hxy : -32768 ≤ xy ∧ xy ≤ 32767) (hyx : -32768 ≤ yx ∧ yx ≤ 32767) (hyy : -32768 ≤ yy ∧ yy ≤ 32767) (x0 : -32768 ≤ x) (x1 : x ≤ 32767) (y0 : -32768 ≤ y) (y1 : y ≤ 32767) :
    Calls Try.prog 4 #[.slice A n c, mxV xx xy yx yy, .int .i16 x, .int .i16 y] w (True_ w) := by
  obtain ⟨i0, hi, hz0, hz1, hz2⟩ := info_parts Try.spinfoV
  have hA0 := (Below.refl w.heap.size w).alloc (Nat.le_refl _) (.cells #[.int .i16 xx, .int .i16 xy, .int .i16 yx, .int .i16 yy] 38)
  have hkM := heap_alloc_new w (.cells #[.int .i16 xx, .int .i16 xy, .int .i16 yx, .int .i16 yy] 38)
  have HAw := Lib.hid (awake14_any (w.alloc (.cells #[.int .i16 xx, .int .i16 xy, .int .i16 yx, .int .i16 yy] 38)))
  have hll := hr.len
  obtain ⟨k, hk⟩ : ∃ k : Nat, k = min n 40 := ⟨_, rfl⟩
  have hkn : k ≤ n := by omega
  have hk40 : k ≤ 40 := by omega
  have hrk := RowS.take encSp_len hr hkn
  have hmin : min (n : Int) 40 = (k : Int) := by omega
  have hkc : (k : Int) ≤ (c : Int) := by omega
  have hlk : (l.take k).length = k := hrk.len
  have hok : ∀ q ∈ l.take k, (-32768 ≤ q.1 ∧ q.1 ≤ 32767) ∧ (-32768 ≤ q.2.1 ∧ q.2.1 ≤ 32767) := fun q hq => hl q (List.mem_of_mem_take hq)
  clear hk hl
  unfold mxV
  go_enter Try.func4, Try.ntmps4
  go_wp2_with fail
  with_reducible refine HAw.out.mono ?_
  rintro e w0 ⟨rfl, hb0⟩
  have hkM0 := kept_block hkM hb0
  have hltM := lt_of_block hkM0
  have hbw0 := hA0.trans (hb0.mono hA0.size)
  have hrk0 := hrk.below hbw0
  have hE := ownS_emptyV 54 encSp 3 w0 w.heap.size hbw0.size
  have hAe := (Below.refl w0.heap.size w0).alloc (Nat.le_refl _) (.cells #[] 54)
  have hrk1 := hrk0.below hAe
  have hbw1 := hbw0.trans (hAe.mono hbw0.size)
  have hkM1 := kept_block hkM0 hAe
  have hsz1 : w.heap.size ≤ (w0.alloc (.cells #[] 54)).heap.size := hbw1.size
  generalize l.take k = ps at *
  clear HAw hA0 hkM hb0 hkM0 hrk hrk0 hAe hbw0 hr hll
  go_wp2_with (at_builtin; refine wpList_append_rowS rfl (.tmp 18) (.tmp 23) _ rfl 54 encSp 3 encSp_len (by omega) encSp_one w.heap.size i0 _ 6 Try.underlying35 hi hz0 hz1 rfl hz2 (some ⟨w0.heap.size, 0, none⟩) 0 0 [] rfl hE A k c ps rfl hrk1 (by omega) (by omega) hsz1 ?_)
  intro P0 pc w2 hown2 hg2
  have hkM2 := (hg2.block w.heap.size (lt_of_block hkM1) (by intro e; simp [blockOf] at e; omega)).trans hkM1
  have hbw2 := hbw1.grown hg2 hbw1.size (fun g e => by simp [blockOf] at e; omega)
  clear hE hrk1 hbw1 hkM1 hsz1 hg2 hi hz0 hz1 hz2
  by_cases hk0 : k = 0
  · subst hk0
    go_wp2_with fail
    go_ret
    exact ⟨rfl, hbw2⟩
  have hk0' : ¬ ((k : Int) = 0) := by omega
  have hps := hown2.row encSp_len
  have hps0 := hown2.cap
  have hes : (vG ps).es = [(k : Int) - 1] := by unfold vG; rw [hlk]
  have hA3 := (Below.refl w2.heap.size w2).alloc (Nat.le_refl _) (.cells #[.int .u16 ((k : Int) - 1)] 39)
  have hA4 := hA3.alloc hA3.size (.cells #[.int .i16 0, .int .i16 0, .int .i16 0, .int .i16 0, .slice (some ⟨w2.heap.size, 0, none⟩) 1 1, .slice none 0 0, .slice P0 k pc] 44)
  have hesR : Row ((w2.alloc (.cells #[.int .u16 ((k : Int) - 1)] 39)).alloc (.cells #[.int .i16 0, .int .i16 0, .int .i16 0, .int .i16 0, .slice (some ⟨w2.heap.size, 0, none⟩) 1 1, .slice none 0 0, .slice P0 k pc] 44)) (some ⟨w2.heap.size, 0, none⟩) 1 (cellsOf .u16 (vG ps).es) := by rw [hes]; exact (row_one w2 .u16 ((k : Int) - 1) 39).below ((Below.refl _ _).alloc (Nat.le_refl _) _)
  have hpsR := hps.below hA4
  have hkG : ((w2.alloc (.cells #[.int .u16 ((k : Int) - 1)] 39)).alloc (.cells #[.int .i16 0, .int .i16 0, .int .i16 0, .int .i16 0, .slice (some ⟨w2.heap.size, 0, none⟩) 1 1, .slice none 0 0, .slice P0 k pc] 44)).heap[w2.heap.size + 1]? = some (.cells #[.int .i16 0, .int .i16 0, .int .i16 0, .int .i16 0, .slice (some ⟨w2.heap.size, 0, none⟩) 1 1, .slice none 0 0, .slice P0 k pc] 44 (0, 0)) := by
    have h := heap_alloc_new (w2.alloc (.cells #[.int .u16 ((k : Int) - 1)] 39)) (.cells #[.int .i16 0, .int .i16 0, .int .i16 0, .int .i16 0, .slice (some ⟨w2.heap.size, 0, none⟩) 1 1, .slice none 0 0, .slice P0 k pc] 44)
    rwa [show (w2.alloc (.cells #[.int .u16 ((k : Int) - 1)] 39)).heap.size = w2.heap.size + 1 by simp] at h
  have hkM3 := kept_block hkM2 hA4
  have hbw3 := hbw2.trans (hA4.mono hbw2.size)
  have hGo : (vG ps).ok := ⟨fun z hz => (by simp [vG, Gl.box] at hz; omega), fun z hz => (by rw [hes] at hz; simp at hz; omega), fun z hz => (by cases hz), hok⟩
  have hRows : GlV.rows ((w2.alloc (.cells #[.int .u16 ((k : Int) - 1)] 39)).alloc (.cells #[.int .i16 0, .int .i16 0, .int .i16 0, .int .i16 0, .slice (some ⟨w2.heap.size, 0, none⟩) 1 1, .slice none 0 0, .slice P0 k pc] 44)) ⟨vG ps, some ⟨w2.heap.size, 0, none⟩, 1, 1, none, 0, 0, P0, k, pc⟩ := ⟨hesR, Row.empty _ _, hpsR⟩
  have hRgt : Hid (Calls Try.prog 19 #[.agg #[.int .i16 0, .int .i16 0, .int .i16 0, .int .i16 0, .slice (some ⟨w2.heap.size, 0, none⟩) 1 1, .slice none 0 0, .slice P0 k pc]] ((w2.alloc (.cells #[.int .u16 ((k : Int) - 1)] 39)).alloc (.cells #[.int .i16 0, .int .i16 0, .int .i16 0, .int .i16 0, .slice (some ⟨w2.heap.size, 0, none⟩) 1 1, .slice none 0 0, .slice P0 k pc] 44)) (Ret ((w2.alloc (.cells #[.int .u16 ((k : Int) - 1)] 39)).alloc (.cells #[.int .i16 0, .int .i16 0, .int .i16 0, .int .i16 0, .slice (some ⟨w2.heap.size, 0, none⟩) 1 1, .slice none 0 0, .slice P0 k pc] 44)) (.bool (oRight (vG ps))))) := oright_any ⟨vG ps, some ⟨w2.heap.size, 0, none⟩, 1, 1, none, 0, 0, P0, k, pc⟩ _ hRows ⟨by show 1 ≤ 10000; omega, by show 0 ≤ 10000; omega, by show k ≤ 10000; omega⟩ hGo
  clear hown2 hps hA3 hA4 hkM2 hbw2 hesR hpsR
  go_upto_region 7 with fail
  generalize (w2.alloc (.cells #[.int .u16 ((k : Int) - 1)] 39)).alloc (.cells #[.int .i16 0, .int .i16 0, .int .i16 0, .int .i16 0, .slice (some ⟨w2.heap.size, 0, none⟩) 1 1, .slice none 0 0, .slice P0 k pc] 44) = Wg at *
  obtain ⟨g0, g1, g2, g3, g4, g5, g6⟩ := cells7 hkG
  go_wp2_with fail
  with_reducible refine hRgt.out.mono ?_
  rintro e w3 ⟨rfl, hb3⟩
  have hkG3 := kept_block hkG hb3
  have hkM3' := kept_block hkM3 hb3
  have hRows3 := hRows.below hb3
  have hbw4 := hbw3.trans (hb3.mono hbw3.size)
  cases hR : oRight (vG ps) with
  | false =>
    clear hRgt
    go_wp2_with fail
    go_ret
    exact ⟨rfl, hbw4⟩
  | true =>
    clear hRgt g0 g1 g2 g3 g4 g5 g6 hkG hkM3 hRows hbw3 hb3
    obtain ⟨m0, m1, m2, m3⟩ := cells4W hkM3'
    have hA5 := (Below.refl w3.heap.size w3).alloc (Nat.le_refl _) (.cells #[.int .u16 131, .int .u16 1, .int .i16 x, .int .i16 y, .int .i16 xx, .int .i16 xy, .int .i16 yx, .int .i16 yy] 46)
    have hA6 := hA5.alloc hA5.size (.cells #[.int .i16 0, .int .i16 0, .int .i16 0, .int .i16 0, .slice (some ⟨w3.heap.size, 0, none⟩) 1 1, .slice none 0 0] 49)
    have hkC : ((w3.alloc (.cells #[.int .u16 131, .int .u16 1, .int .i16 x, .int .i16 y, .int .i16 xx, .int .i16 xy, .int .i16 yx, .int .i16 yy] 46)).alloc (.cells #[.int .i16 0, .int .i16 0, .int .i16 0, .int .i16 0, .slice (some ⟨w3.heap.size, 0, none⟩) 1 1, .slice none 0 0] 49)).heap[w3.heap.size + 1]? = some (.cells #[.int .i16 0, .int .i16 0, .int .i16 0, .int .i16 0, .slice (some ⟨w3.heap.size, 0, none⟩) 1 1, .slice none 0 0] 49 (0, 0)) := by
      have h := heap_alloc_new (w3.alloc (.cells #[.int .u16 131, .int .u16 1, .int .i16 x, .int .i16 y, .int .i16 xx, .int .i16 xy, .int .i16 yx, .int .i16 yy] 46)) (.cells #[.int .i16 0, .int .i16 0, .int .i16 0, .int .i16 0, .slice (some ⟨w3.heap.size, 0, none⟩) 1 1, .slice none 0 0] 49)
      rwa [show (w3.alloc (.cells #[.int .u16 131, .int .u16 1, .int .i16 x, .int .i16 y, .int .i16 xx, .int .i16 xy, .int .i16 yx, .int .i16 yy] 46)).heap.size = w3.heap.size + 1 by simp] at h
    have hPr : RowS encPt 8 ((w3.alloc (.cells #[.int .u16 131, .int .u16 1, .int .i16 x, .int .i16 y, .int .i16 xx, .int .i16 xy, .int .i16 yx, .int .i16 yy] 46)).alloc (.cells #[.int .i16 0, .int .i16 0, .int .i16 0, .int .i16 0, .slice (some ⟨w3.heap.size, 0, none⟩) 1 1, .slice none 0 0] 49)) (some ⟨w3.heap.size, 0, none⟩) 1 [vP x y xx xy yx yy] := (rowS_vals encPt_len w3 46 [vP x y xx xy yx yy] _ rfl 1 rfl).below ((Below.refl _ _).alloc (Nat.le_refl _) _)
    have hkG5 := kept_block hkG3 hA6
    have hkM5 := kept_block hkM3' hA6
    have hRows5 := hRows3.below hA6
    have hbw5 := hbw4.trans (hA6.mono hbw4.size)
    have hCo := vC_ok (x := x) (y := y) (a := xx) (b := xy) (c := yx) (d := yy) ⟨x0, x1⟩ ⟨y0, y1⟩ hxx hxy hyx hyy
    have hF := flat_moves (ps := ps) (x := x) (y := y) (a := xx) (b := xy) (c := yx) (d := yy) (by omega) (by omega) hGo hR hCo
    have hBa := cB_bytes _ hCo (vC_right x y xx xy yx yy)
    have hla := vC_len x y xx xy yx yy
    have hBb := oB_bytes (vG ps) hGo.pr
    have hlb := oB_lenV (g := vG ps) (by show 1 ≤ 100; omega) (by show 0 ≤ 100; omega) (by show ps.length ≤ 1000; omega)
    clear hA5 hA6 hkG3 hkM3' hRows3 hbw4
    go_upto_region 10 with fail
    generalize (w3.alloc (.cells #[.int .u16 131, .int .u16 1, .int .i16 x, .int .i16 y, .int .i16 xx, .int .i16 xy, .int .i16 yx, .int .i16 yy] 46)).alloc (.cells #[.int .i16 0, .int .i16 0, .int .i16 0, .int .i16 0, .slice (some ⟨w3.heap.size, 0, none⟩) 1 1, .slice none 0 0] 49) = Vw at *
    have hdr := (Below.refl Vw.heap.size Vw).drew
    have hkC6 : Vw.drew.heap[w3.heap.size + 1]? = some (.cells #[.int .i16 0, .int .i16 0, .int .i16 0, .int .i16 0, .slice (some ⟨w3.heap.size, 0, none⟩) 1 1, .slice none 0 0] 49 (0, 0)) := hkC
    have hkG6 : Vw.drew.heap[w2.heap.size + 1]? = some (.cells #[.int .i16 0, .int .i16 0, .int .i16 0, .int .i16 0, .slice (some ⟨w2.heap.size, 0, none⟩) 1 1, .slice none 0 0, .slice P0 k pc] 44 (0, 0)) := hkG5
    have hkM6 : Vw.drew.heap[w.heap.size]? = some (.cells #[.int .i16 xx, .int .i16 xy, .int .i16 yx, .int .i16 yy] 38 (0, 0)) := hkM5
    have hRows6 := hRows5.below hdr
    have hPr6 := hPr.below hdr
    have hbw6 := hbw5.drew
    clear m0 m1 m2 m3 hkC hkG5 hkM5 hRows5 hPr hbw5 hdr
    have hx0 : Ext Vw.drew Vw.drew := Ext.refl _
    refine regT_start 10 (Ext Vw.drew) (by kernel_rfl) ?_
    generalize Vw.drew = V at *
    refine regT_take (i := 0) (d := some 45) (v := ?_) [] hx0 rfl rfl (by kernel_rfl) (by kernel_rfl) (by kernel_rfl) (by kernel_rfl) (by kernel_rfl) (by decide) (fun _ _ _ h => h) (Or.inl ⟨by rfl, ?_⟩) ?_
    rotate_left
    · intro w' hx; obtain ⟨q0, q1, q2, q3, q4, q5⟩ := cells6 (kept_block hkC6 hx); (go_simp <;> with_reducible rfl)
    simp only [Act.put, List.setIfInBounds_toArray, List.set_cons_zero, List.set_cons_succ]
    refine regT_take (i := 2) (d := some 47) (v := ?_) [] hx0 rfl rfl (by kernel_rfl) (by kernel_rfl) (by kernel_rfl) (by kernel_rfl) (by kernel_rfl) (by decide) (fun _ _ _ h => h) (Or.inl ⟨by rfl, ?_⟩) ?_
    rotate_left
    · intro w' hx; obtain ⟨q0, q1, q2, q3, q4, q5, q6⟩ := cells7 (kept_block hkG6 hx); (go_simp <;> with_reducible rfl)
    simp only [Act.put, List.setIfInBounds_toArray, List.set_cons_zero, List.set_cons_succ]
    clear hx0
    have HCB : Hid (Calls Try.prog 20 #[.agg #[.int .i16 0, .int .i16 0, .int .i16 0, .int .i16 0, .slice (some ⟨w3.heap.size, 0, none⟩) 1 1, .slice none 0 0]] V (RetB V (cB (vC x y xx xy yx yy)))) := by
      have h := cbytes_any ⟨vC x y xx xy yx yy, some ⟨w3.heap.size, 0, none⟩, 1, 1, none, 0, 0⟩ V ⟨hPr6, Row.empty _ _⟩ (by show 1 ≤ 1000000; omega) (by show 0 ≤ 1000000; omega) hCo
      unfold cBytes at h
      rw [if_pos (vC_right x y xx xy yx yy)] at h
      exact h
    have HOB : Hid (∀ W, Ext V W → Calls Try.prog 21 #[.agg #[.int .i16 0, .int .i16 0, .int .i16 0, .int .i16 0, .slice (some ⟨w2.heap.size, 0, none⟩) 1 1, .slice none 0 0, .slice P0 k pc]] W (RetB W (oB (vG ps)))) := Lib.hid fun W hW => by
      have h := obytes_any ⟨vG ps, some ⟨w2.heap.size, 0, none⟩, 1, 1, none, 0, 0, P0, k, pc⟩ W (hRows6.below hW) ⟨by show 1 ≤ 10000; omega, by show 0 ≤ 10000; omega, by show k ≤ 10000; omega⟩ hGo
      unfold oBytes at h
      rw [if_pos hR] at h
      exact h
    have hps6 := hRows6.ps
    simp only at hps6
    have hpsV : RowS encSp 3 V P0 k ps := hps6
    clear hCo hRows6 hPr6 hkC6 hkG6 hGo hR hes hps6
    generalize cB (vC x y xx xy yx yy) = za at *
    generalize oB (vG ps) = zb at *
    have hLo : ptsOk [za, zb] := by
      intro z hz
      simp only [List.mem_cons, List.not_mem_nil, or_false] at hz
      rcases hz with rfl | rfl
      · exact hBa
      · exact hBb
    refine regT_one 1 _ (by kernel_rfl) rfl ?_
    intro K hK
    go_simp
    with_reducible refine HCB.out.mono ?_
    rintro e W1 ⟨A1, q1, d1, rfl, ho1, hb1⟩
    have hx1 : Ext V W1 := hb1
    have hr1 := ho1.row
    have hc1 := ho1.cap
    have hq1 := ho1.len
    refine hK.out _ _ (fun _ => hx1) ?_
    clear hK K HCB ho1
    refine regT_one 3 _ (by kernel_rfl) rfl ?_
    intro K hK
    go_simp
    have HO1 := Lib.hid (HOB.out W1 hx1)
    clear HOB
    with_reducible refine HO1.out.mono ?_
    rintro e W2 ⟨A2, q2, d2, rfl, ho2, hb2⟩
    have hx2 : Ext V W2 := hx1.call hb2
    have hr2 := ho2.row
    have hc2 := ho2.cap
    have hq2 := ho2.len
    have hr1' := hr1.below hb2
    refine hK.out _ _ (fun _ => hx2) ?_
    clear hK K HO1 ho2 hr1 hb2
    refine regT_one 4 _ (by kernel_rfl) rfl ?_
    intro K hK
    go_simp
    have hx3 := hx2.new (.cells #[.slice A1 q1 d1, .slice A2 q2 d2] 42)
    have hG := glsIn_two W2 42 hr1' hBa (by omega) hc1 hr2 hBb (by omega) hc2
    refine hK.out _ _ (fun _ => hx3) ?_
    clear hK K
    have HFl := Lib.hid (flat_any _ hLo _ _ 2 2 0 hG (by omega) (by omega) (by omega))
    unfold RetFlat at HFl
    rw [hF] at HFl
    clear hG hr1' hr2 hLo hF
    refine regT_one 5 _ (by kernel_rfl) rfl ?_
    intro K hK
    go_simp
    with_reducible refine HFl.out.mono ?_
    rintro e W4 ⟨hb4, CA, cn, cc, rfl, hacc⟩
    have hx4 : Ext V W4 := hx3.call hb4
    refine hK.out _ _ (fun _ => hx4) ?_
    clear hK K HFl hb4
    refine regT_take (i := 6) (d := some 44) (v := ?_) [] hx4 rfl rfl (by kernel_rfl) (by kernel_rfl) (by kernel_rfl) (by kernel_rfl) (by kernel_rfl) (by decide) (fun _ _ _ h => h) (Or.inl ⟨by rfl, ?_⟩) ?_
    rotate_left
    · intro w' hx; (go_simp <;> with_reducible rfl)
    simp only [Act.put, List.setIfInBounds_toArray, List.set_cons_zero, List.set_cons_succ]
    refine regT_take (i := 7) (d := some 51) (v := ?_) [] hx4 rfl rfl (by kernel_rfl) (by kernel_rfl) (by kernel_rfl) (by kernel_rfl) (by kernel_rfl) (by decide) (fun _ _ _ h => h) (Or.inl ⟨by rfl, ?_⟩) ?_
    rotate_left
    · intro w' hx; (go_simp <;> with_reducible rfl)
    simp only [Act.put, List.setIfInBounds_toArray, List.set_cons_zero, List.set_cons_succ]
    refine regT_take (i := 8) (d := some 52) (v := ?_) [] hx4 rfl rfl (by kernel_rfl) (by kernel_rfl) (by kernel_rfl) (by kernel_rfl) (by kernel_rfl) (by decide) (fun _ _ _ h => h) (Or.inl ⟨by rfl, ?_⟩) ?_
    rotate_left
    · intro w' hx; (go_simp <;> with_reducible rfl)
    simp only [Act.put, List.setIfInBounds_toArray, List.set_cons_zero, List.set_cons_succ]
    refine regT_take (i := 9) (d := some 11) (v := ?_) [] hx4 rfl rfl (by kernel_rfl) (by kernel_rfl) (by kernel_rfl) (by kernel_rfl) (by kernel_rfl) (by decide) (fun _ _ _ h => h) (Or.inl ⟨by rfl, ?_⟩) ?_
    rotate_left
    · intro w' hx; (go_simp <;> with_reducible rfl)
    simp only [Act.put, List.setIfInBounds_toArray, List.set_cons_zero, List.set_cons_succ]
    refine regT_one 10 _ (by kernel_rfl) rfl ?_
    intro K hK
    go_simp
    refine hK.out _ _ (fun h => absurd h (by decide)) ?_
    clear hK K
    refine regT_done (by kernel_rfl) ?_ _
    have hbwF := hbw6.trans (Below.mono hx4 hbw6.size)
    have hcn := hacc.len
    obtain rfl : cn = 1 := by simpa using hcn.symm
    have hkMF := kept_block hkM6 hx4
    have hpsF : RowS encSp 3 W4 P0 k ps := hpsV.below hx4
    obtain ⟨S, hSo, hSi⟩ := hacc
    clear hx1 hx2 hx3 hx4 hbw6 hkM6 hpsV hcn
    have hrowS := hSo.row encSl_len
    obtain ⟨s, hs⟩ : ∃ s, S[0]? = some s := ⟨_, List.getElem?_eq_getElem (by have := hSo.len; omega)⟩
    obtain ⟨g, o, rfl, hg, hcell⟩ := atSl hrowS hs
    obtain ⟨hr1, hr2, _⟩ := hSi.2 0 s _ hs rfl
    obtain ⟨sa, sn, sc⟩ := s
    simp only [Nat.add_zero] at hcell hr1 hr2
    have hsn := hr1.len
    rw [List.length_map, hlk] at hsn
    obtain rfl : sn = k := hsn.symm
    have hpt : ptsN [ps.map (moveP xx xy yx yy x y)] = sn := by simp [ptsN, hlk]
    have HPt := Lib.hid (fpoints_any (some ⟨g, o, none⟩) 1 cc S _ W4 hrowS hSi (by omega) (by rw [hpt]; omega))
    rw [hpt] at HPt
    go_wp2_with fail
    with_reducible refine HPt.out.mono ?_
    rintro e W5 ⟨rfl, rfl⟩
    clear HPt hpt
    go_wp2_with fail
    clear hcell hSo
    go_loopw [78] (fun i' wr => ∃ j : Nat, j ≤ sn ∧ i' = .int .i64 j ∧ Below W4.heap.size W4 wr) (fun i' _ => sn - (intOf i').toNat)
    case atStart => exact ⟨0, Nat.zero_le _, rfl, Below.refl _ _⟩
    case round =>
      obtain ⟨j, hj, rfl, hbel⟩ := hrel
      by_cases hlt : j < sn
      · obtain ⟨p, hp⟩ : ∃ p, ps[j]? = some p := ⟨_, List.getElem?_eq_getElem (by omega)⟩
        obtain ⟨gp, op, rfl, hgp, q0, q1, q2⟩ := atSp (hpsF.below hbel) hp
        obtain ⟨⟨u0, u1⟩, u2, u3⟩ := hok p (List.mem_of_getElem? hp)
        have hmv : (ps.map (moveP xx xy yx yy x y))[j]? = some (moveP xx xy yx yy x y p) := by rw [List.getElem?_map, hp]; rfl
        obtain ⟨m0, m1, m2, m3⟩ := cells4W (kept_block hkMF hbel)
        have hltM := lt_of_block (kept_block hkMF hbel)
        have hneM : w.heap.size ≠ wr.heap.size := by omega
        have hneM' : wr.heap.size ≠ w.heap.size := by omega
        obtain ⟨px, py, po⟩ := p
        simp only at q0 q1 q2 u0 u1 u2 u3
        have hA := (Below.refl wr.heap.size wr).alloc (Nat.le_refl _) (.cells #[.int .i16 px, .int .i16 py, .bool po] 54)
        have hbA := hbel.trans (hA.mono hbel.size)
        have HAp := Lib.hid (rapply_any xx xy yx yy px py po x y (wr.alloc (.cells #[.int .i16 px, .int .i16 py, .bool po] 54)) hxx.1 hxx.2 hxy.1 hxy.2 hyx.1 hyx.2 hyy.1 hyy.2 (by omega) (by omega) (by omega) (by omega) (by omega) (by omega) (by omega) (by omega))
        unfold ptV at HAp
        have hmE : moveP xx xy yx yy x y (px, py, po) = (rnd (xx * px + yx * py) + x, rnd (xy * px + yy * py) + y, po) := rfl
        rw [hmE] at hmv
        generalize rnd (xx * px + yx * py) + x = ex at *
        generalize rnd (xy * px + yy * py) + y = ey at *
        clear hp hA hmE
        go_wp2_with fail
        refine HAp.out.mono ?_
        rintro e w5 ⟨rfl, hb5⟩
        have hb5' := hbA.trans (hb5.mono hbA.size)
        have hA5 := (Below.refl w5.heap.size w5).alloc (Nat.le_refl _) (.cells #[.int .i64 ex, .int .i64 ey, .bool po] 56)
        have hk5 := heap_alloc_new w5 (.cells #[.int .i64 ex, .int .i64 ey, .bool po] 56)
        have hb6 := hb5'.trans (hA5.mono hb5'.size)
        clear HAp hbA hb5 hb5' hA5 q0 q1 q2 m0 m1 m2 m3 hbel
        go_upto_region 17 with fail
        generalize w5.alloc _ = W6 at *
        generalize w5.heap.size = bq at *
        obtain ⟨g9, o9, e9, _, hcell6⟩ := atSl (hrowS.below hb6) hs
        simp only [Option.some.injEq, Addr.mk.injEq, and_true] at e9
        obtain ⟨rfl, rfl⟩ := e9
        obtain ⟨gr, og, rfl, hgr, v0, v1, v2⟩ := atRp (hr1.below hb6) hmv
        simp only [Nat.add_zero] at hcell6 v0 v1 v2
        obtain ⟨t0, t1, t2⟩ : W6.cell? ⟨bq, 0, none⟩ = some (.int .i64 ex) ∧ W6.cell? ⟨bq, 1, none⟩ = some (.int .i64 ey) ∧ W6.cell? ⟨bq, 2, none⟩ = some (.bool po) := ⟨cell_of_row _ _ 0 _ _ _ hk5, cell_of_row _ _ 1 _ _ _ hk5, cell_of_row _ _ 2 _ _ _ hk5⟩
        have hbd := hb6.drew
        have hji : (0 : Int) ≤ (j : Int) := by omega
        have hjn : (j : Int) < (sn : Int) := by omega
        refine wp_region_still_tail 7 (by kernel_rfl) (by kernel_rfl) ?_
        simp only [List.take_succ_cons, List.take_zero, List.drop_succ_cons, List.drop_zero]
        repeat still_step
        refine wpStill_nil ?_
        go_wp2_with fail
        go_roundw
        case rel => exact ⟨j + 1, by omega, by go_num, hbd⟩
        case measure => simp [intOf]; omega
      · obtain rfl : j = sn := by omega
        have hbwG := hbwF.trans (hbel.mono hbwF.size)
        have HS1 := Lib.hid (fsame_self (some ⟨g, o, none⟩) 1 cc cc S _ wr (hrowS.below hbel) (hSi.below hbel) (by omega) (fun z hz => by simp at hz; subst hz; rw [List.length_map]; omega))
        clear hpsF hkMF
        go_wp2_with fail
        refine HS1.out.mono ?_
        rintro e w5 ⟨rfl, q, rfl⟩
        have HS2 := Lib.hid (fsame_one (some ⟨g, o, none⟩) cc (wr.drewN q))
        go_wp2_with fail
        refine HS2.out.mono ?_
        rintro e w6 ⟨rfl, q', rfl⟩
        go_wp2_with fail
        go_ret
        exact ⟨rfl, below_drewN hbwG (q + q')⟩

end Go.Proofs.Ytdaeffnaoeblpaa

namespace Go.Proofs.Ytdaeffnaoeblpaa.flatMoves
open Go.ChangeShapes Go.WideShapes Go.ChangeAt Go.RowKit
open Go.ChangeMaps (open_string shut_string)
set_option linter.unusedVariables false

theorem own : ownKnob Try.prog.godebug = none := by kernel_rfl
theorem laidOut : laidOutB Try.prog = true := by kernel_rfl

set_option maxRecDepth 100000 in
theorem lifted (os : Os) (started : os.Started) (H : Type) (enc : TypeId × Value → H) :
    ReturnsInHanded {} Try.checked os 4 .any (Rows.flatMovesSpec.pre6 enc Try.prog Try.f4 Rows.flatMovesRow.domain false) (Rows.flatMovesSpec.post enc Try.prog Try.f4 false true false false) := by
  refine returnsInHanded_of_change (C := Try.checked) own started (by kernel_rfl) Try.func4
    (ChangeSpec.witness6 (enc := enc) (C := Try.checked) false ⟨#[], #[.slice none 0 0, .agg #[.int .i16 0, .int .i16 0, .int .i16 0, .int .i16 0], .int .i16 0, .int .i16 0], []⟩ 8 (by kernel_rfl) (by kernel_rfl) (by kernel_rfl) (by kernel_rfl)) ?_
  intro W base args ds gs before hval0 hW hcnd _
  have hval : ∀ (j : Nat) t v, Try.f4.params[j]? = some t → args[j]? = some v → Value.okWide Try.prog W .any base t v := hval0
  have hW' := hW
  obtain ⟨p, q, hA0, hV, rfl, hfz, hnd⟩ := hW
  have hA : DataW.TrodAll enc Try.prog W 0 (fun _ => true) true Try.f4.params.toList args.toList ds p := hA0
  rw [Try.params4] at hA hval
  obtain ⟨v0, vs0, d0, ds0, p0, q0, hargs, rfl, rfl, h0, r0⟩ := trodAll_cons hA
  obtain ⟨v1, vs1, d1, ds1, p1, q1, rfl, rfl, rfl, h1, r1⟩ := trodAll_cons r0
  obtain ⟨v2, vs2, d2, ds2, p2, q2, rfl, rfl, rfl, h2, r2⟩ := trodAll_cons r1
  obtain ⟨v3, vs3, d3, ds3, p3, q3, rfl, rfl, rfl, h3, r3⟩ := trodAll_cons r2
  obtain ⟨rfl, rfl, rfl⟩ := trodAll_nil r3
  obtain rfl : args = #[v0, v1, v2, v3] := by cases args; simp_all
  obtain ⟨rfl, rfl⟩ := trodVars_none hV
  have k0 := h0
  have lt0 : ∀ x ∈ p0, x.block < W.heap.size := by obtain ⟨m, hm⟩ := k0; exact DataW.trod_lt m _ _ _ hm
  have k1 := h1
  have lt1 : ∀ x ∈ p1, x.block < W.heap.size := by obtain ⟨m, hm⟩ := k1; exact DataW.trod_lt m _ _ _ hm
  have k2 := h2
  have lt2 : ∀ x ∈ p2, x.block < W.heap.size := by obtain ⟨m, hm⟩ := k2; exact DataW.trod_lt m _ _ _ hm
  have k3 := h3
  have lt3 : ∀ x ∈ p3, x.block < W.heap.size := by obtain ⟨m, hm⟩ := k3; exact DataW.trod_lt m _ _ _ hm
  obtain ⟨A0, n0, c0, l0, rfl, hr0, hp0, hn0, hc0⟩ := open_sps (hval 0 35 v0 rfl rfl) k0
  obtain ⟨xx, xy, yx, yy, rfl, m0, m1, m2, m3⟩ := open_mx (hval 1 38 v1 rfl rfl) k1
  obtain ⟨a2, rfl, rfl, rfl, u2⟩ := open_int Try.underlying36 (hval 2 36 v2 rfl rfl) h2
  have w2 := bounds_i16 u2
  obtain ⟨a3, rfl, rfl, rfl, u3⟩ := open_int Try.underlying36 (hval 3 36 v3 rfl rfl) h3
  have w3 := bounds_i16 u3
  clear hA0 hval0
  refine (law_FlatMoves A0 n0 c0 l0 xx xy yx yy a2 a3 W hr0 hp0 hn0 hc0 m0 m1 m2 m3 w2.1 w2.2 w3.1 w3.2).mono fun e W' ⟨he, bel⟩ => ?_
  subst he
  exact ⟨_, rfl, _, _, _, [], _, [], hW', trodAll_mk1 (shut_bool Try.underlying4 _), (trodAll_cons_mk (Below.trod laidOut (by kernel_rfl) (of_decide_eq_true (by kernel_rfl)) k0 bel lt0) (trodAll_cons_mk (Below.trod laidOut (by kernel_rfl) (of_decide_eq_true (by kernel_rfl)) k1 bel lt1) (trodAll_cons_mk (Below.trod laidOut (by kernel_rfl) (of_decide_eq_true (by kernel_rfl)) k2 bel lt2) (trodAll_cons_mk (Below.trod laidOut (by kernel_rfl) (of_decide_eq_true (by kernel_rfl)) k3 bel lt3) trodAll_mk0)))), rfl, bel.frame _, fun h => by cases h⟩

theorem over : Rows.flatMovesRow.holds Try.pinned (OpenSpec.ofChange Rows.flatMovesSpec) :=
  OpenClaim.holds_of_wide 4 Try.f4 rfl rfl rfl rfl rfl rfl rfl ⟨rfl, rfl, rfl, rfl, rfl⟩ rfl rfl rfl rfl rfl (by kernel_rfl) Try.func4 (by kernel_rfl)
    (of_decide_eq_true (by kernel_rfl)) (by unfold Func.isWrapper; first | (rw [if_pos (by decide +kernel)]; kernel_rfl) | (rw [if_neg (by decide +kernel)]; exact ⟨rfl, rfl⟩))
    (fun os started H enc _ => lifted os started H enc)

theorem proved : Rows.FlatMovesSaid := over
#print axioms proved
end Go.Proofs.Ytdaeffnaoeblpaa.flatMoves
