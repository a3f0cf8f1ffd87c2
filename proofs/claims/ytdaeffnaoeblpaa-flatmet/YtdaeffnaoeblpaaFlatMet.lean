/- More glyphs than may be met are refused, also if they have no points; as many as may be aren't. -/
import Derived.Test.YtdaeffnaoeblpaaRows
import Derived.WalkKit
import Derived.ProofKit
import Derived.OpenShut
import Derived.ShutString
import Derived.ChangeOld
import Derived.Below
import Derived.Lib.SmallJoins
import Derived.Test.YtdaeffnaoeblpaaBase2
import Derived.Test.YtdaeffnaoeblpaaBase3
import Derived.Test.YtdaeffnaoeblpaaBase8
import Derived.Test.YtdaeffnaoeblpaaBase9
import Derived.Test.YtdaeffnaoeblpaaBase15

namespace Go.Proofs.Ytdaeffnaoeblpaa
open Go.RowKit
set_option linter.unusedVariables false
set_option linter.unusedSimpArgs false

theorem Try.bsinfoM : (Try.prog.info? 42).map (fun i => (i.zero, i.size, i.bytes)) = some (some (.slice none 0 0), 1, 24) := by kernel_rfl
/-- Bytes in rows of their own, gathered in a row. -/
def InB (w : World) (S : List Sl) (L : List (List Int)) : Prop := S.length = L.length ∧ ∀ (i : Nat) (s : Sl) (z : List Int), S[i]? = some s → L[i]? = some z → (Row w s.1 s.2.1 (cellsOf .u8 z) ∧ ∀ g, blockOf s.1 = some g → Typed w g 5) ∧ Bytes z ∧ s.2.1 ≤ 68747 ∧ s.2.1 ≤ s.2.2
theorem InB.keep {w w' : World} {S : List Sl} {L : List (List Int)} (h : InB w S L) (hs : w.heap.size ≤ w'.heap.size) (hk : ∀ g, Typed w g 5 → w'.heap[g]? = w.heap[g]?) : InB w' S L :=
  ⟨h.1, fun i s z a b => by
    obtain ⟨⟨h1, h2⟩, h3⟩ := h.2 i s z a b
    exact ⟨⟨h1.keep hs (fun g hg _ => hk g (h2 g hg)), fun g hg => (h2 g hg).keep (hk g (h2 g hg))⟩, h3⟩⟩
theorem InB.below {w w' : World} {S : List Sl} {L : List (List Int)} (h : InB w S L) (hb : Below w.heap.size w w') : InB w' S L := h.keep hb.size fun g hg => hb.block g hg.lt
theorem InB.nil (w : World) : InB w [] [] := ⟨rfl, fun i s c h => by simp at h⟩
theorem InB.push {w : World} {S : List Sl} {L : List (List Int)} (h : InB w S L) {A : Option Addr} {n k : Nat} {z : List Int} (hr : Row w A n (cellsOf .u8 z)) (ht : ∀ g, blockOf A = some g → Typed w g 5) (hB : Bytes z) (hn : n ≤ 68747) (hk : n ≤ k) : InB w (S ++ [(A, n, k)]) (L ++ [z]) := by
  refine ⟨by simp [h.1], fun i s d a b => ?_⟩
  by_cases hi : i < S.length
  · rw [List.getElem?_append_left hi] at a
    rw [List.getElem?_append_left (by rw [← h.1]; exact hi)] at b
    exact h.2 i s d a b
  · have hi2 : i = S.length := by
      have := (List.getElem?_eq_some_iff.1 a).1
      simp at this
      omega
    subst hi2
    rw [List.getElem?_append_right (Nat.le_refl _), Nat.sub_self] at a
    rw [h.1, List.getElem?_append_right (Nat.le_refl _), Nat.sub_self] at b
    simp at a b
    subst a b
    exact ⟨⟨hr, ht⟩, hB, hn, hk⟩
def AccB (w : World) (B : Nat) (A : Option Addr) (n c : Nat) (L : List (List Int)) : Prop := ∃ S : List Sl, OwnS 42 encSl 1 w B A n c S ∧ InB w S L
theorem AccB.len {w : World} {B : Nat} {A : Option Addr} {n c : Nat} {L : List (List Int)} (h : AccB w B A n c L) : L.length = n := by obtain ⟨S, h1, h2⟩ := h; rw [← h2.1]; exact h1.len
theorem AccB.nil (w : World) (B : Nat) : AccB w B none 0 0 [] := ⟨[], OwnS.nil _ _ _ _ _, InB.nil _⟩
theorem AccB.below {w w' : World} {B : Nat} {A : Option Addr} {n c : Nat} {L : List (List Int)} (h : AccB w B A n c L) (hb : Below w.heap.size w w') : AccB w' B A n c L := by
  obtain ⟨S, h1, h2⟩ := h
  exact ⟨S, h1.below hb, h2.below hb⟩
theorem AccB.gls {w : World} {B : Nat} {A : Option Addr} {n c : Nat} {L : List (List Int)} (h : AccB w B A n c L) : GlsIn w A n L := by
  obtain ⟨S, h1, h2⟩ := h
  exact ⟨S, h1.row encSl_len, h2.1, fun i s z a b => by
    obtain ⟨⟨r, _⟩, x⟩ := h2.2 i s z a b
    exact ⟨r, x⟩⟩
theorem AccB.bytes {w : World} {B : Nat} {A : Option Addr} {n c : Nat} {L : List (List Int)} (h : AccB w B A n c L) : ptsOk L := by
  obtain ⟨S, h1, h2⟩ := h
  intro z hz
  obtain ⟨i, hi⟩ := List.getElem?_of_mem hz
  have hl := (List.getElem?_eq_some_iff.1 hi).1
  obtain ⟨s, hs⟩ : ∃ s, S[i]? = some s := ⟨_, List.getElem?_eq_getElem (by rw [h2.1]; exact hl)⟩
  exact (h2.2 i s z hs hi).2.1
/-- Behind an append. -/
theorem AccB.push {w w' : World} {B : Nat} {A A2 : Option Addr} {n c c2 : Nat} {L : List (List Int)} {S : List Sl} {M : Option Addr} {m k : Nat} {z : List Int} (hd : OwnS 42 encSl 1 w B A n c S) (hi : InB w S L) (ho : OwnS 42 encSl 1 w' B A2 (n + 1) c2 (S ++ [(M, m, k)])) (hg : w.grownBy w' (blockOf A)) (hr : Row w M m (cellsOf .u8 z)) (ht : ∀ g, blockOf M = some g → Typed w g 5) (hB : Bytes z) (hm : m ≤ 68747) (hk : m ≤ k) : AccB w' B A2 (n + 1) c2 (L ++ [z]) := by
  have hsame : ∀ g, Typed w g 5 → w'.heap[g]? = w.heap[g]? := fun g a => hg.block g a.lt fun e => (a.ne (hd.typed g e.symm) (by decide)) rfl
  exact ⟨_, ho, (hi.keep hg.size hsame).push (hr.keep hg.size fun g hq _ => hsame g (ht g hq)) (fun g hq => (ht g hq).keep (hsame g (ht g hq))) hB hm hk⟩

/-- A glyph of parts is one. -/
theorem shZ_cB (g : Cg) (ho : g.ok) (hr : cRight g = true) : shZ (cB g) = some ([], g.ps) := by
  obtain ⟨h1, h2, h3⟩ := cB_dec g ho hr []
  have h4 := cOk_cB g ho hr []
  rw [List.append_nil] at h1 h2 h3 h4
  have hB := cB_bytes g ho hr
  have hc : cIs (cB g) = true := by
    rw [cIs_n2v hB]
    refine decide_eq_true ?_
    generalize cB g = zs at *
    match zs, h1 with
    | [], h1 => exact absurd (show be [] = 65535 from h1) (by decide)
    | [x], h1 => exact absurd (show be [] = 65535 from h1) (by decide)
    | x :: y :: r, h1 =>
      have e : n2at (x :: y :: r) 0 = 256 * x + y := by
        show be [x, y] = _
        simp [be]
        omega
      show 32767 < 256 * x + y
      omega
  have hl : (cB g).length ≠ 0 := by
    intro e
    rw [List.eq_nil_of_length_eq_zero e] at h1
    exact absurd (show be [] = 65535 from h1) (by decide)
  unfold shZ
  rw [if_neg hl, hc, h4, h3, h2, List.drop_length]
  rfl

def chP (tg : Int) : Pt := ⟨3, tg, 1, 0, 16384, 0, 0, 16384⟩
def chG (tg : Int) : Cg := ⟨0, 0, 0, 0, [chP tg], []⟩
theorem chG_right (tg : Int) : cRight (chG tg) = true := by kernel_rfl
theorem chG_ok {tg : Int} (h0 : 0 ≤ tg) (h1 : tg ≤ 65535) : (chG tg).ok := by
  refine ⟨fun x hx => ?_, fun p hp => ?_, fun x hx => by cases hx⟩
  · simp [chG] at hx; omega
  · simp [chG] at hp
    subst hp
    exact ⟨by simp [chP], ⟨h0, h1⟩, by simp [chP], by simp [chP], by simp [chP], by simp [chP], by simp [chP], by simp [chP]⟩
theorem chG_len (tg : Int) : (cB (chG tg)).length = 18 := by rfl
def chO : Gl := ⟨0, 0, 0, 0, [0], [], [(5, 0, false)]⟩
theorem chO_ok : chO.ok := ⟨by decide, by decide, (fun x hx => by cases hx), by decide⟩
theorem chO_right : oRight chO = true := by decide
theorem chO_cts : ctsG chO = [[(5, 0, false)]] := by decide
theorem chO_len : (oB chO).length = 16 := by decide
/-- To which glyph the one leads. -/
def toK (n : Nat) (back : Int) (i : Nat) : Int := if i + 1 = n ∧ 0 ≤ back then back else i + 1
def chL (n : Nat) (back : Int) : List (List Int) := (List.range n).map (fun i => cB (chG (toK n back i))) ++ [oB chO]

/-- The bytes of one part, as a law of the chain writes them. -/
theorem chG_bytes (tg : Int) (h0 : 0 ≤ tg) (h1 : tg ≤ 65535) (W : World) : Calls Try.prog 20 #[.agg #[.int .i16 0, .int .i16 0, .int .i16 0, .int .i16 0, .slice (some ⟨W.heap.size, 0, none⟩) 1 1, .slice none 0 0]] (W.alloc (.cells #[.int .u16 3, .int .u16 tg, .int .i16 1, .int .i16 0, .int .i16 16384, .int .i16 0, .int .i16 0, .int .i16 16384] 46)) (RetB (W.alloc (.cells #[.int .u16 3, .int .u16 tg, .int .i16 1, .int .i16 0, .int .i16 16384, .int .i16 0, .int .i16 0, .int .i16 16384] 46)) (cB (chG tg))) := by
  have h := cbytes_any ⟨chG tg, some ⟨W.heap.size, 0, none⟩, 1, 1, none, 0, 0⟩ (W.alloc (.cells #[.int .u16 3, .int .u16 tg, .int .i16 1, .int .i16 0, .int .i16 16384, .int .i16 0, .int .i16 0, .int .i16 16384] 46)) ⟨rowS_vals encPt_len W 46 [chP tg] _ rfl 1 rfl, Row.empty _ _⟩ (by show 1 ≤ 1000000; omega) (by show 0 ≤ 1000000; omega) (chG_ok h0 h1)
  unfold cBytes at h
  rw [if_pos (chG_right tg)] at h
  exact h
/-- The bytes of the chain's last one. -/
theorem chO_bytes (W : World) : Calls Try.prog 21 #[.agg #[.int .i16 0, .int .i16 0, .int .i16 0, .int .i16 0, .slice (some ⟨W.heap.size, 0, none⟩) 1 1, .slice none 0 0, .slice (some ⟨W.heap.size + 1, 0, none⟩) 1 1]] ((W.alloc (.cells #[.int .u16 0] 39)).alloc (.cells #[.int .i16 5, .int .i16 0, .bool false] 54)) (RetB ((W.alloc (.cells #[.int .u16 0] 39)).alloc (.cells #[.int .i16 5, .int .i16 0, .bool false] 54)) (oB chO)) := by
  have hr : GlV.rows ((W.alloc (.cells #[.int .u16 0] 39)).alloc (.cells #[.int .i16 5, .int .i16 0, .bool false] 54)) ⟨chO, some ⟨W.heap.size, 0, none⟩, 1, 1, none, 0, 0, some ⟨W.heap.size + 1, 0, none⟩, 1, 1⟩ := by
    refine ⟨(row_one W .u16 0 39).below ((Below.refl _ _).alloc (Nat.le_refl _) _), Row.empty _ _, ?_⟩
    have := rowS_vals encSp_len (W.alloc (.cells #[.int .u16 0] 39)) 54 [(5, 0, false)] #[.int .i16 5, .int .i16 0, .bool false] rfl 1 rfl
    rwa [show (W.alloc (.cells #[.int .u16 0] 39)).heap.size = W.heap.size + 1 by simp] at this
  have h := obytes_any _ _ hr ⟨by show (1 : Nat) ≤ 10000; omega, by show (0 : Nat) ≤ 10000; omega, by show (1 : Nat) ≤ 10000; omega⟩ chO_ok
  unfold oBytes at h
  rw [if_pos chO_right] at h
  exact h

def chnK (n : Nat) (back : Int) (k : Nat) : List (List Int) := (List.range k).map (fun i => cB (chG (toK n back i)))
theorem chnK_succ (n : Nat) (back : Int) (k : Nat) : chnK n back (k + 1) = chnK n back k ++ [cB (chG (toK n back k))] := by simp [chnK, List.range_succ]

set_option maxRecDepth 100000 in
set_option maxHeartbeats 2000000 in
theorem chain_any (n : Nat) (back : Int) (w : World) (hn : n ≤ 1000) (hb0 : -1 ≤ back) (hb1 : back ≤ 65535) : Calls Try.prog 25 #[.int .i64 n, .int .i64 back] w fun e w' => ∃ A c, e = .returned (.slice A (n + 1) c) ∧ AccB w' w.heap.size A (n + 1) c (chL n back) ∧ Below w.heap.size w w' := by
  obtain ⟨i0, hi, hz0, hz1, hz2⟩ := info_parts Try.bsinfoM
  go_enter Try.func25, Try.ntmps25
  go_wp2
  go_loopw [5, 9] (fun a i' wr => ∃ (j : Nat) (DA : Option Addr) (dc : Nat), j ≤ n ∧ i' = .int .i64 j ∧ a = .slice DA j dc ∧ AccB wr w.heap.size DA j dc (chnK n back j) ∧ Below w.heap.size w wr) (fun _ i' _ => n - (intOf i').toNat)
  case atStart => exact ⟨0, none, 0, Nat.zero_le _, rfl, rfl, AccB.nil _ _, Below.refl _ _⟩
  case round =>
    obtain ⟨j, DA, dc, hj, rfl, rfl, hacc, hbel⟩ := hrel
    by_cases hlt : j < n
    · by_cases hjn : j + 1 = n
      · have hjb : ((j : Int) == (n : Int) - 1) = true := by simp; omega
        by_cases hbk : 0 ≤ back
        · have hT0 : 0 ≤ back := by omega
          have hT1 : back ≤ 65535 := by omega
          have hCs := chnK_succ n back j
          rw [show toK n back j = back by unfold toK; first | rw [if_pos (by omega)] | rw [if_neg (by omega)]] at hCs
          have HBc := Lib.hid (fun W => chG_bytes (back) hT0 hT1 W)
          clear hjn
          go_wp2_with fail
          refine (unit_any _).mono ?_
          rintro e w0 ⟨rfl, hb0⟩
          have HB := Lib.hid (HBc.out w0)
          have hacc0 := hacc.below hb0
          have hA1 := (Below.refl w0.heap.size w0).alloc (Nat.le_refl _) (.cells #[.int .u16 3, .int .u16 (back), .int .i16 1, .int .i16 0, .int .i16 16384, .int .i16 0, .int .i16 0, .int .i16 16384] 46)
          have hbw0 := hbel.trans (hb0.mono hbel.size)
          clear hacc hbel hb0 HBc
          go_wp2_with fail
          with_reducible refine HB.out.mono ?_
          rintro e w1 ⟨A1, n1, c1, rfl, hown1, hb1⟩
          have hl1 := hown1.len
          rw [chG_len] at hl1
          obtain rfl : n1 = 18 := by omega
          have hcap1 := hown1.cap
          have hb01 := hA1.trans (hb1.mono hA1.size)
          have hacc1 := hacc0.below hb01
          have hbw1 := hbw0.trans (hb01.mono hbw0.size)
          have hA2 := (Below.refl w1.heap.size w1).alloc (Nat.le_refl _) (.cells #[.slice A1 18 c1] 42)
          have hacc2 := hacc1.below hA2
          have hbw2 := hbw1.trans (hA2.mono hbw1.size)
          have hrowB := hown1.row.below hA2
          have htyB : ∀ g, blockOf A1 = some g → Typed (w1.alloc (.cells #[.slice A1 18 c1] 42)) g 5 := fun g hg => (hown1.typed g hg).keep (hA2.block g (hown1.typed g hg).lt)
          have hrow2 : RowS encSl 1 (w1.alloc (.cells #[.slice A1 18 c1] 42)) (some ⟨w1.heap.size, 0, none⟩) 1 [(A1, 18, c1)] := rowS_vals encSl_len w1 42 [(A1, 18, c1)] _ rfl 1 rfl
          obtain ⟨S, hSo, hSi⟩ := hacc2
          have HSo := Lib.hid hSo
          have hwb : w.heap.size ≤ w1.heap.size + 1 := by have := hbw1.size; omega
          clear HB hacc0 hacc1 hown1 hb1 hA1 hb01 hbw0 hbw1 hA2 hl1
          go_wp2_with (at_builtin; refine wpList_append_atS rfl (.tmp 23) (.tmp 31) _ rfl 42 encSl 1 encSl_len (by omega) encSl_one w.heap.size i0 _ 24 Try.underlying22 hi hz0 hz1 rfl hz2 DA j dc S rfl HSo.out (some ⟨w1.heap.size, 0, none⟩) 1 1 [(A1, 18, c1)] rfl hrow2 (by omega) (by omega) (by omega) (by simpa using hwb) ?_)
          intro D3 dc3 w2 hown2 hg2 _
          have hacc3 := AccB.push hSo hSi hown2 hg2 hrowB htyB (cB_bytes _ (chG_ok hT0 hT1) (chG_right _)) (by omega) hcap1
          rw [← hCs] at hacc3
          have hbw3 := hbw2.grown hg2 hbw2.size (fun k e => (hSo.from_ k e).1)
          have HA3 := Lib.hid hacc3
          have HB3 := Lib.hid hbw3
          clear hSo hSi HSo hown2 hg2 hrowB htyB hrow2 hacc3 hbw2 hbw3 hCs
          go_wp2_with fail
          go_roundw
          case rel => exact ⟨j + 1, D3, dc3, by omega, by go_num, rfl, HA3.out, HB3.out⟩
          case measure => simp [intOf]; omega
        · have hT0 : 0 ≤ (j : Int) + 1 := by omega
          have hT1 : (j : Int) + 1 ≤ 65535 := by omega
          have hCs := chnK_succ n back j
          rw [show toK n back j = (j : Int) + 1 by unfold toK; first | rw [if_pos (by omega)] | rw [if_neg (by omega)]] at hCs
          have HBc := Lib.hid (fun W => chG_bytes ((j : Int) + 1) hT0 hT1 W)
          clear hjn
          go_wp2_with fail
          refine (unit_any _).mono ?_
          rintro e w0 ⟨rfl, hb0⟩
          have HB := Lib.hid (HBc.out w0)
          have hacc0 := hacc.below hb0
          have hA1 := (Below.refl w0.heap.size w0).alloc (Nat.le_refl _) (.cells #[.int .u16 3, .int .u16 ((j : Int) + 1), .int .i16 1, .int .i16 0, .int .i16 16384, .int .i16 0, .int .i16 0, .int .i16 16384] 46)
          have hbw0 := hbel.trans (hb0.mono hbel.size)
          clear hacc hbel hb0 HBc
          go_wp2_with fail
          with_reducible refine HB.out.mono ?_
          rintro e w1 ⟨A1, n1, c1, rfl, hown1, hb1⟩
          have hl1 := hown1.len
          rw [chG_len] at hl1
          obtain rfl : n1 = 18 := by omega
          have hcap1 := hown1.cap
          have hb01 := hA1.trans (hb1.mono hA1.size)
          have hacc1 := hacc0.below hb01
          have hbw1 := hbw0.trans (hb01.mono hbw0.size)
          have hA2 := (Below.refl w1.heap.size w1).alloc (Nat.le_refl _) (.cells #[.slice A1 18 c1] 42)
          have hacc2 := hacc1.below hA2
          have hbw2 := hbw1.trans (hA2.mono hbw1.size)
          have hrowB := hown1.row.below hA2
          have htyB : ∀ g, blockOf A1 = some g → Typed (w1.alloc (.cells #[.slice A1 18 c1] 42)) g 5 := fun g hg => (hown1.typed g hg).keep (hA2.block g (hown1.typed g hg).lt)
          have hrow2 : RowS encSl 1 (w1.alloc (.cells #[.slice A1 18 c1] 42)) (some ⟨w1.heap.size, 0, none⟩) 1 [(A1, 18, c1)] := rowS_vals encSl_len w1 42 [(A1, 18, c1)] _ rfl 1 rfl
          obtain ⟨S, hSo, hSi⟩ := hacc2
          have HSo := Lib.hid hSo
          have hwb : w.heap.size ≤ w1.heap.size + 1 := by have := hbw1.size; omega
          clear HB hacc0 hacc1 hown1 hb1 hA1 hb01 hbw0 hbw1 hA2 hl1
          go_wp2_with (at_builtin; refine wpList_append_atS rfl (.tmp 23) (.tmp 31) _ rfl 42 encSl 1 encSl_len (by omega) encSl_one w.heap.size i0 _ 24 Try.underlying22 hi hz0 hz1 rfl hz2 DA j dc S rfl HSo.out (some ⟨w1.heap.size, 0, none⟩) 1 1 [(A1, 18, c1)] rfl hrow2 (by omega) (by omega) (by omega) (by simpa using hwb) ?_)
          intro D3 dc3 w2 hown2 hg2 _
          have hacc3 := AccB.push hSo hSi hown2 hg2 hrowB htyB (cB_bytes _ (chG_ok hT0 hT1) (chG_right _)) (by omega) hcap1
          rw [← hCs] at hacc3
          have hbw3 := hbw2.grown hg2 hbw2.size (fun k e => (hSo.from_ k e).1)
          have HA3 := Lib.hid hacc3
          have HB3 := Lib.hid hbw3
          clear hSo hSi HSo hown2 hg2 hrowB htyB hrow2 hacc3 hbw2 hbw3 hCs
          go_wp2_with fail
          go_roundw
          case rel => exact ⟨j + 1, D3, dc3, by omega, by go_num, rfl, HA3.out, HB3.out⟩
          case measure => simp [intOf]; omega
      · have hjb : ((j : Int) == (n : Int) - 1) = false := by simp; omega
        have hT0 : 0 ≤ (j : Int) + 1 := by omega
        have hT1 : (j : Int) + 1 ≤ 65535 := by omega
        have hCs := chnK_succ n back j
        rw [show toK n back j = (j : Int) + 1 by unfold toK; first | rw [if_pos (by omega)] | rw [if_neg (by omega)]] at hCs
        have HBc := Lib.hid (fun W => chG_bytes ((j : Int) + 1) hT0 hT1 W)
        clear hjn
        go_wp2_with fail
        refine (unit_any _).mono ?_
        rintro e w0 ⟨rfl, hb0⟩
        have HB := Lib.hid (HBc.out w0)
        have hacc0 := hacc.below hb0
        have hA1 := (Below.refl w0.heap.size w0).alloc (Nat.le_refl _) (.cells #[.int .u16 3, .int .u16 ((j : Int) + 1), .int .i16 1, .int .i16 0, .int .i16 16384, .int .i16 0, .int .i16 0, .int .i16 16384] 46)
        have hbw0 := hbel.trans (hb0.mono hbel.size)
        clear hacc hbel hb0 HBc
        go_wp2_with fail
        with_reducible refine HB.out.mono ?_
        rintro e w1 ⟨A1, n1, c1, rfl, hown1, hb1⟩
        have hl1 := hown1.len
        rw [chG_len] at hl1
        obtain rfl : n1 = 18 := by omega
        have hcap1 := hown1.cap
        have hb01 := hA1.trans (hb1.mono hA1.size)
        have hacc1 := hacc0.below hb01
        have hbw1 := hbw0.trans (hb01.mono hbw0.size)
        have hA2 := (Below.refl w1.heap.size w1).alloc (Nat.le_refl _) (.cells #[.slice A1 18 c1] 42)
        have hacc2 := hacc1.below hA2
        have hbw2 := hbw1.trans (hA2.mono hbw1.size)
        have hrowB := hown1.row.below hA2
        have htyB : ∀ g, blockOf A1 = some g → Typed (w1.alloc (.cells #[.slice A1 18 c1] 42)) g 5 := fun g hg => (hown1.typed g hg).keep (hA2.block g (hown1.typed g hg).lt)
        have hrow2 : RowS encSl 1 (w1.alloc (.cells #[.slice A1 18 c1] 42)) (some ⟨w1.heap.size, 0, none⟩) 1 [(A1, 18, c1)] := rowS_vals encSl_len w1 42 [(A1, 18, c1)] _ rfl 1 rfl
        obtain ⟨S, hSo, hSi⟩ := hacc2
        have HSo := Lib.hid hSo
        have hwb : w.heap.size ≤ w1.heap.size + 1 := by have := hbw1.size; omega
        clear HB hacc0 hacc1 hown1 hb1 hA1 hb01 hbw0 hbw1 hA2 hl1
        go_wp2_with (at_builtin; refine wpList_append_atS rfl (.tmp 23) (.tmp 31) _ rfl 42 encSl 1 encSl_len (by omega) encSl_one w.heap.size i0 _ 24 Try.underlying22 hi hz0 hz1 rfl hz2 DA j dc S rfl HSo.out (some ⟨w1.heap.size, 0, none⟩) 1 1 [(A1, 18, c1)] rfl hrow2 (by omega) (by omega) (by omega) (by simpa using hwb) ?_)
        intro D3 dc3 w2 hown2 hg2 _
        have hacc3 := AccB.push hSo hSi hown2 hg2 hrowB htyB (cB_bytes _ (chG_ok hT0 hT1) (chG_right _)) (by omega) hcap1
        rw [← hCs] at hacc3
        have hbw3 := hbw2.grown hg2 hbw2.size (fun k e => (hSo.from_ k e).1)
        have HA3 := Lib.hid hacc3
        have HB3 := Lib.hid hbw3
        clear hSo hSi HSo hown2 hg2 hrowB htyB hrow2 hacc3 hbw2 hbw3 hCs
        go_wp2_with fail
        go_roundw
        case rel => exact ⟨j + 1, D3, dc3, by omega, by go_num, rfl, HA3.out, HB3.out⟩
        case measure => simp [intOf]; omega
    · obtain rfl : j = n := by omega
      have hCL : chL j back = chnK j back j ++ [oB chO] := rfl
      have HB := Lib.hid (chO_bytes wr)
      have hA1 := (Below.refl wr.heap.size wr).alloc (Nat.le_refl _) (.cells #[.int .u16 0] 39)
      have hA2 := hA1.alloc hA1.size (.cells #[.int .i16 5, .int .i16 0, .bool false] 54)
      go_wp2_with fail
      with_reducible refine HB.out.mono ?_
      rintro e w1 ⟨A1, n1, c1, rfl, hown1, hb1⟩
      have hl1 := hown1.len
      rw [chO_len] at hl1
      obtain rfl : n1 = 16 := by omega
      have hcap1 := hown1.cap
      have hb01 := hA2.trans (hb1.mono hA2.size)
      have hacc1 := hacc.below hb01
      have hbw1 := hbel.trans (hb01.mono hbel.size)
      have hA3 := (Below.refl w1.heap.size w1).alloc (Nat.le_refl _) (.cells #[.slice A1 16 c1] 42)
      have hacc2 := hacc1.below hA3
      have hbw2 := hbw1.trans (hA3.mono hbw1.size)
      have hrowB := hown1.row.below hA3
      have htyB : ∀ g, blockOf A1 = some g → Typed (w1.alloc (.cells #[.slice A1 16 c1] 42)) g 5 := fun g hg => (hown1.typed g hg).keep (hA3.block g (hown1.typed g hg).lt)
      have hrow2 : RowS encSl 1 (w1.alloc (.cells #[.slice A1 16 c1] 42)) (some ⟨w1.heap.size, 0, none⟩) 1 [(A1, 16, c1)] := rowS_vals encSl_len w1 42 [(A1, 16, c1)] _ rfl 1 rfl
      obtain ⟨S, hSo, hSi⟩ := hacc2
      have HSo := Lib.hid hSo
      have hwb : w.heap.size ≤ w1.heap.size + 1 := by have := hbw1.size; omega
      clear HB hacc hacc1 hown1 hb1 hA1 hA2 hb01 hbw1 hA3 hl1 hbel
      go_wp2_with (at_builtin; refine wpList_append_atS rfl (.tmp 34) (.tmp 40) _ rfl 42 encSl 1 encSl_len (by omega) encSl_one w.heap.size i0 _ 24 Try.underlying22 hi hz0 hz1 rfl hz2 DA j dc S rfl HSo.out (some ⟨w1.heap.size, 0, none⟩) 1 1 [(A1, 16, c1)] rfl hrow2 (by omega) (by omega) (by omega) (by simpa using hwb) ?_)
      intro D3 dc3 w2 hown2 hg2 _
      have hacc3 := AccB.push hSo hSi hown2 hg2 hrowB htyB (oB_bytes chO chO_ok.pr) (by omega) hcap1
      rw [← hCL] at hacc3
      have hbw3 := hbw2.grown hg2 hbw2.size (fun k e => (hSo.from_ k e).1)
      clear hSo hSi HSo hown2 hg2 hrowB htyB hrow2 hbw2 hCL
      go_wp2_with fail
      go_ret
      exact ⟨_, _, rfl, hacc3, hbw3⟩

end Go.Proofs.Ytdaeffnaoeblpaa

namespace Go.Proofs.Ytdaeffnaoeblpaa
open Go.RowKit
set_option linter.unusedVariables false
set_option linter.unusedSimpArgs false

theorem chL_len (n : Nat) (back : Int) : (chL n back).length = n + 1 := by simp [chL]
theorem chL_get (n : Nat) (back : Int) {i : Nat} (h : i < n) : (chL n back).getD i [] = cB (chG (toK n back i)) := by
  unfold chL
  rw [List.getD_eq_getElem?_getD, List.getElem?_append_left (by simp [h])]
  simp [h]
theorem chL_last (n : Nat) (back : Int) : (chL n back).getD n [] = oB chO := by
  unfold chL
  rw [List.getD_eq_getElem?_getD, List.getElem?_append_right (by simp)]
  simp
theorem chL_part (n : Nat) (back : Int) {i : Nat} (h : i < n) (h0 : 0 ≤ toK n back i) (h1 : toK n back i ≤ 65535) : shZ ((chL n back).getD i []) = some ([], [chP (toK n back i)]) := by
  rw [chL_get n back h, shZ_cB _ (chG_ok h0 h1) (chG_right _)]
  rfl
theorem chL_end (n : Nat) (back : Int) : shZ ((chL n back).getD n []) = some ([[(5, 0, false)]], []) := by
  rw [chL_last, shZ_oB _ chO_ok chO_right, chO_cts]

theorem visitZ_part {L : List (List Int)} {k : Nat} {way : List Int} {i : Nat} {m q : Nat} {p : Pt} (h0 : codeE L.length way (i : Int) m = 0) (hs : shZ (L.getD i []) = some ([], [p])) (hq : q ≤ 20000) :
    visitZ L (k + 1) way (i : Int) m q = if (visitZ L k (way ++ [(i : Int)]) p.i (m + 1) q).1 = 0 then (0, (visitZ L k (way ++ [(i : Int)]) p.i (m + 1) q).2.1.map (mvC p), (visitZ L k (way ++ [(i : Int)]) p.i (m + 1) q).2.2.1, (visitZ L k (way ++ [(i : Int)]) p.i (m + 1) q).2.2.2) else ((visitZ L k (way ++ [(i : Int)]) p.i (m + 1) q).1, [], (visitZ L k (way ++ [(i : Int)]) p.i (m + 1) q).2.2.1, (visitZ L k (way ++ [(i : Int)]) p.i (m + 1) q).2.2.2) := by
  rw [visitZ_code, if_pos h0, Int.toNat_natCast, hs]
  unfold stepZ
  simp only
  rw [if_neg (by rw [ptsN_nil]; omega)]
  simp only [ptsN_nil, Nat.add_zero]
  rw [show partsZ (visitZ L k (way ++ [(i : Int)])) [p] [] (m + 1) q = if (visitZ L k (way ++ [(i : Int)]) p.i (m + 1) q).1 = 0 then (0, [] ++ (visitZ L k (way ++ [(i : Int)]) p.i (m + 1) q).2.1.map (mvC p), (visitZ L k (way ++ [(i : Int)]) p.i (m + 1) q).2.2.1, (visitZ L k (way ++ [(i : Int)]) p.i (m + 1) q).2.2.2) else ((visitZ L k (way ++ [(i : Int)]) p.i (m + 1) q).1, [], (visitZ L k (way ++ [(i : Int)]) p.i (m + 1) q).2.2.1, (visitZ L k (way ++ [(i : Int)]) p.i (m + 1) q).2.2.2) from rfl, List.nil_append]
theorem visitZ_pts {L : List (List Int)} {k : Nat} {way : List Int} {i : Nat} {m q : Nat} {cs : List (List Sp)} (h0 : codeE L.length way (i : Int) m = 0) (hs : shZ (L.getD i []) = some (cs, [])) (hq : q + ptsN cs ≤ 20000) : visitZ L (k + 1) way (i : Int) m q = (0, cs, m + 1, q + ptsN cs) := by
  rw [visitZ_code, if_pos h0, Int.toNat_natCast, hs]
  unfold stepZ
  simp only
  rw [if_neg (by omega)]
  unfold partsZ
  rfl

def wayN (i : Nat) : List Int := (List.range i).map (fun (j : Nat) => (j : Int))
theorem wayN_succ (i : Nat) : wayN i ++ [(i : Int)] = wayN (i + 1) := by simp [wayN, List.range_succ]
theorem wayN_len (i : Nat) : (wayN i).length = i := by simp [wayN]
theorem wayN_not (i : Nat) : (wayN i).contains (i : Int) = false := by
  rw [Bool.eq_false_iff]
  intro h
  rw [List.contains_iff_mem] at h
  simp only [wayN, List.mem_map, List.mem_range] at h
  obtain ⟨j, hj, e⟩ := h
  omega
theorem codeE_way {gn i m : Nat} (h1 : i < gn) (h2 : i ≤ 16) (h3 : m ≠ 20000) : codeE gn (wayN i) (i : Int) m = 0 := by
  unfold codeE
  rw [if_neg (by omega), if_neg (by rw [wayN_not]; simp), if_neg (by rw [wayN_len]; omega), if_neg h3]
theorem mv_one (t d : Int) : mvC (chP t) [(5 + d, 0, false)] = [(5 + (d + 1), 0, false)] := by
  have h : mvC (chP t) [(5 + d, 0, false)] = [(rnd (16384 * (5 + d) + 0 * 0) + 1, rnd (0 * (5 + d) + 16384 * 0) + 0, false)] := rfl
  rw [h]
  unfold rnd
  congr 1
  apply Prod.ext
  · simp only; omega
  · apply Prod.ext
    · simp only; omega
    · rfl

theorem deepA {n : Nat} (hn : n ≤ 16) : ∀ (d i : Nat), i + d = n → visitZ (chL n (-1)) (18 - i) (wayN i) (i : Int) i 0 = (0, [[(5 + (d : Int), 0, false)]], n + 1, 1) := by
  intro d
  induction d with
  | zero =>
    intro i hi
    obtain rfl : i = n := by omega
    rw [show 18 - i = (17 - i) + 1 by omega, visitZ_pts (codeE_way (by rw [chL_len]; omega) hn (by omega)) (chL_end i (-1)) (by decide)]
    rfl
  | succ d ih =>
    intro i hi
    have hT : toK n (-1) i = ((i + 1 : Nat) : Int) := by unfold toK; rw [if_neg (by omega)]; omega
    rw [show 18 - i = (17 - i) + 1 by omega, visitZ_part (codeE_way (by rw [chL_len]; omega) (by omega) (by omega)) (chL_part n (-1) (by omega) (by omega) (by omega)) (by omega), wayN_succ]
    have h := ih (i + 1) (by omega)
    rw [show 18 - (i + 1) = 17 - i by omega] at h
    rw [show (chP (toK n (-1) i)).i = ((i + 1 : Nat) : Int) from hT, h]
    simp only [if_true, List.map_cons, List.map_nil, mv_one]
    rw [show ((d + 1 : Nat) : Int) = (d : Int) + 1 by omega]
theorem deepB {n : Nat} (hn : 17 ≤ n) (hn2 : n ≤ 1000) : ∀ (d i : Nat), i + d = 17 → visitZ (chL n (-1)) (18 - i) (wayN i) (i : Int) i 0 = (7, [], 17, 0) := by
  intro d
  induction d with
  | zero =>
    intro i hi
    obtain rfl : i = 17 := by omega
    have hc : codeE (chL n (-1)).length (wayN 17) ((17 : Nat) : Int) 17 = 7 := by
      unfold codeE
      rw [if_neg (by rw [chL_len]; omega), if_neg (by rw [wayN_not]; simp), if_pos (by rw [wayN_len]; omega)]
    rw [show 18 - 17 = 0 + 1 from rfl, visitZ_code, hc, if_neg (by decide)]
  | succ d ih =>
    intro i hi
    have hT : toK n (-1) i = ((i + 1 : Nat) : Int) := by unfold toK; rw [if_neg (by omega)]; omega
    rw [show 18 - i = (17 - i) + 1 by omega, visitZ_part (codeE_way (by rw [chL_len]; omega) (by omega) (by omega)) (chL_part n (-1) (by omega) (by omega) (by omega)) (by omega), wayN_succ]
    have h := ih (i + 1) (by omega)
    rw [show 18 - (i + 1) = 17 - i by omega] at h
    rw [show (chP (toK n (-1) i)).i = ((i + 1 : Nat) : Int) from hT, h]
    rfl
theorem flat_deep {n : Nat} (hn : n ≤ 1000) : flatZ (chL n (-1)) 0 = if 16 < n then (7, [], 17, 0) else (0, [[(5 + (n : Int), 0, false)]], n + 1, 1) := by
  unfold flatZ
  split
  · exact deepB (by omega) hn 17 0 rfl
  · exact deepA (by omega) n 0 (by omega)

def cntW (k : Nat) (way : List Int) : Nat := ((List.range k).filter (fun (j : Nat) => !way.contains (j : Int))).length
theorem filter_less {p p' : Nat → Bool} (i : Nat) (h1 : ∀ j, p' j = true → p j = true) (h2 : p' i = false) (h3 : p i = true) : ∀ l : List Nat, (l.filter p').length ≤ (l.filter p).length ∧ (i ∈ l → (l.filter p').length + 1 ≤ (l.filter p).length)
  | [] => ⟨Nat.le_refl _, fun h => by cases h⟩
  | x :: l => by
    obtain ⟨a, b⟩ := filter_less i h1 h2 h3 l
    rw [List.filter_cons, List.filter_cons]
    by_cases hx : p' x = true
    · rw [if_pos hx, if_pos (h1 x hx)]
      refine ⟨by simp; exact a, fun hi => ?_⟩
      rcases List.mem_cons.1 hi with rfl | hi
      · rw [h2] at hx; cases hx
      · have := b hi; simp; omega
    · rw [if_neg hx]
      by_cases hp : p x = true
      · rw [if_pos hp]
        refine ⟨by simp; omega, fun _ => by simp; omega⟩
      · rw [if_neg hp]
        refine ⟨a, fun hi => ?_⟩
        rcases List.mem_cons.1 hi with rfl | hi
        · exact absurd h3 hp
        · exact b hi
theorem cntW_step {k i : Nat} {way : List Int} (hi : i < k) (h : way.contains (i : Int) = false) : cntW k (way ++ [(i : Int)]) + 1 ≤ cntW k way := by
  unfold cntW
  refine (filter_less i (fun j hj => ?_) ?_ ?_ (List.range k)).2 (List.mem_range.2 hi)
  · simp at hj ⊢
    exact hj.1
  · simp
  · simp at h ⊢
    exact h

theorem cyc {k b : Nat} (hk : k ≤ 16) (hb : b < k) : ∀ (f : Nat) (way : List Int) (i : Nat), i < k → way.length + cntW k way ≤ k → f + way.length = 18 → (visitZ (chL k (b : Int)) f way (i : Int) way.length 0).1 = 8 := by
  intro f
  induction f with
  | zero => intro way i hi h1 h2; omega
  | succ f ih =>
    intro way i hi h1 h2
    cases hc : way.contains (i : Int) with
    | true =>
      have hcode : codeE (chL k (b : Int)).length way (i : Int) way.length = 8 := by
        unfold codeE
        rw [if_neg (by rw [chL_len]; omega), if_pos hc]
      rw [visitZ_code, hcode, if_neg (by decide)]
    | false =>
      have hst := cntW_step hi hc
      have hcode : codeE (chL k (b : Int)).length way (i : Int) way.length = 0 := by
        unfold codeE
        rw [if_neg (by rw [chL_len]; omega), if_neg (by rw [hc]; simp), if_neg (by omega), if_neg (by omega)]
      obtain ⟨t, ht, htk⟩ : ∃ t : Nat, toK k (b : Int) i = (t : Int) ∧ t < k := by
        unfold toK
        by_cases h : i + 1 = k
        · exact ⟨b, by rw [if_pos ⟨h, by omega⟩], hb⟩
        · exact ⟨i + 1, by rw [if_neg (by omega)]; omega, by omega⟩
      have h := ih (way ++ [(i : Int)]) t htk (by rw [List.length_append, List.length_singleton]; omega) (by rw [List.length_append, List.length_singleton]; omega)
      rw [List.length_append, List.length_singleton] at h
      rw [visitZ_part hcode (chL_part k _ hi (by omega) (by omega)) (by omega)]
      rw [show (chP (toK k (b : Int) i)).i = (t : Int) from ht]
      generalize visitZ (chL k (b : Int)) f (way ++ [(i : Int)]) (t : Int) (way.length + 1) 0 = r at *
      rw [if_neg (by omega)]
      exact h
theorem flat_cyc {k b i : Nat} (hk : k ≤ 16) (hb : b < k) (hi : i < k) : (flatZ (chL k (b : Int)) (i : Int)).1 = 8 ∧ (flatZ (chL k (b : Int)) (i : Int)).2.1 = [] := by
  have h : (flatZ (chL k (b : Int)) (i : Int)).1 = 8 := by
    unfold flatZ
    refine cyc hk hb 18 [] i hi ?_ rfl
    have : cntW k [] ≤ (List.range k).length := List.length_filter_le _ _
    simp at this ⊢
    exact this
  exact ⟨h, (visitZ_ok _ 18 [] (i : Int) 0 0).no (by show ¬ (flatZ (chL k (b : Int)) (i : Int)).1 = 0; omega)⟩
theorem flat_last {k : Nat} (back : Int) : flatZ (chL k back) (k : Int) = (0, [[(5, 0, false)]], 1, 1) := by
  have h : (chL k back)[k]? = some (oB chO) := by
    unfold chL
    rw [List.getElem?_append_right (by simp)]
    simp
  refine flatZ_leaf h ?_ (by decide)
  rw [shZ_oB _ chO_ok chO_right, chO_cts]

end Go.Proofs.Ytdaeffnaoeblpaa

namespace Go.Proofs.Ytdaeffnaoeblpaa
open Go.RowKit
set_option linter.unusedVariables false
set_option linter.unusedSimpArgs false

theorem Try.cpinfoO : (Try.prog.info? 46).map (fun i => (i.zero, i.size, i.bytes)) = some (some (.agg #[.int .u16 0, .int .u16 0, .int .i16 0, .int .i16 0, .int .i16 0, .int .i16 0, .int .i16 0, .int .i16 0]), 8, 16) := by kernel_rfl
def pM (tg : Int) : Pt := ⟨2, tg, 0, 0, 16384, 0, 0, 16384⟩
def mG (k : Nat) (tg : Int) : Cg := ⟨0, 0, 0, 0, List.replicate k (pM tg), []⟩
theorem pM_right (tg : Int) : ptRight (pM tg) = true := by kernel_rfl
theorem pM_ok {tg : Int} (h0 : 0 ≤ tg) (h1 : tg ≤ 65535) : (pM tg).ok := ⟨by simp [pM], ⟨h0, h1⟩, by simp [pM], by simp [pM], by simp [pM], by simp [pM], by simp [pM], by simp [pM]⟩
theorem mG_right {k : Nat} (tg : Int) (h1 : 1 ≤ k) (h2 : k ≤ 200) : cRight (mG k tg) = true := by
  have hp : partsOk (List.replicate k (pM tg)) k = true := by
    unfold partsOk
    rw [List.all_eq_true]
    intro i hi
    have hi2 := List.mem_range.1 hi
    rw [List.getElem?_replicate, if_pos hi2]
    simp only
    rw [pM_right, show fb (pM tg).f 256 = false from (by decide : fb 2 256 = false)]
    simp
  unfold cRight mG
  simp only [List.length_replicate, List.length_nil, hp]
  rw [decide_eq_true h1, decide_eq_true h2]
  simp
theorem mG_ok {k : Nat} {tg : Int} (h0 : 0 ≤ tg) (h1 : tg ≤ 65535) : (mG k tg).ok := by
  refine ⟨fun x hx => ?_, fun p hp => ?_, fun x hx => by cases hx⟩
  · simp [mG] at hx; omega
  · rw [(List.mem_replicate.1 hp).2]
    exact pM_ok h0 h1
theorem mG_len {k : Nat} (tg : Int) : (cB (mG k tg)).length ≤ 20 + 16 * k := by
  have h := ptsB_len (List.replicate k (pM tg)) k
  have hc : (if codeB (List.replicate k (pM tg)) then b2 (([] : List Int).length : Nat) ++ [] else []).length ≤ 10 := by
    split
    · exact (by decide : (b2 ((0 : Nat) : Int) ++ []).length ≤ 10)
    · exact Nat.zero_le _
  have hb : (b2 65535 ++ boxB [0, 0, 0, 0]).length = 10 := by decide
  unfold cB mG
  simp only [List.length_append, List.length_replicate] at *
  omega

/-- A glyph under way, with parts of its own. -/
structure CM (w wr : World) (bx : Nat) (QA : Option Addr) (q qc : Nat) (ps : List Pt) : Prop where
  box : wr.heap[bx]? = some (.cells #[.int .i16 0, .int .i16 0, .int .i16 0, .int .i16 0, .slice QA q qc, .slice none 0 0] 49 (0, 0))
  qa : OwnS 46 encPt 8 wr w.heap.size QA q qc ps
  bel : Below w.heap.size w wr
  lx : w.heap.size ≤ bx
section
variable {w wr w' : World} {bx q qc : Nat} {QA : Option Addr} {ps : List Pt}
theorem CM.below (h : CM w wr bx QA q qc ps) (hb : Below wr.heap.size wr w') : CM w w' bx QA q qc ps := ⟨kept_block h.box hb, h.qa.below hb, h.bel.trans (hb.mono h.bel.size), h.lx⟩
theorem CM.box2 (h : CM w wr bx QA q qc ps) (hg : wr.grownBy w' (blockOf QA)) : w'.heap[bx]? = some (.cells #[.int .i16 0, .int .i16 0, .int .i16 0, .int .i16 0, .slice QA q qc, .slice none 0 0] 49 (0, 0)) :=
  (hg.block bx (lt_of_block h.box) (fun e => ((h.qa.typed bx e.symm).ne ⟨_, h.box⟩ (by decide)) rfl)).trans h.box
theorem CM.app (h : CM w wr bx QA q qc ps) {A2 : Option Addr} {n2 c2 : Nat} {ps2 : List Pt} (ho : OwnS 46 encPt 8 w' w.heap.size A2 n2 c2 ps2) (hg : wr.grownBy w' (blockOf QA)) : CM w (w'.setCell ⟨bx, 4, none⟩ (.slice A2 n2 c2)) bx A2 n2 c2 ps2 := by
  have h2 := h.box2 hg
  exact ⟨by have := set_block h2 4 (.slice A2 n2 c2); simpa using this, ho.keep (fun g e => Below.heap_setCell _ _ _ _ ((ho.typed g e).ne ⟨_, h2⟩ (by decide))), (h.bel.grown hg h.bel.size (fun g e => (h.qa.from_ g e).1)).setCell (p := ⟨bx, 4, none⟩) h.lx _, h.lx⟩
theorem CM.rows (h : CM w wr bx QA q qc ps) : CgV.rows wr ⟨⟨0, 0, 0, 0, ps, []⟩, QA, q, qc, none, 0, 0⟩ := ⟨h.qa.row encPt_len, Row.empty _ _⟩
end

set_option maxRecDepth 1000000 in
set_option maxHeartbeats 4000000 in
theorem many_any (N : Nat) (tg : Int) (w : World) (hN : N ≤ 200) (hN1 : 1 ≤ N) (h0 : 0 ≤ tg) (h1 : tg ≤ 65535) : Calls Try.prog 31 #[.int .i64 N, .int .u16 tg] w (RetB w (cB (mG N tg))) := by
  obtain ⟨i1, hi1, hz01, hz11, hz21⟩ := info_parts Try.cpinfoO
  have hA := (Below.refl w.heap.size w).alloc (Nat.le_refl _) (.cells #[.int .i16 0, .int .i16 0, .int .i16 0, .int .i16 0, .slice none 0 0, .slice none 0 0] 49)
  have hk := heap_alloc_new w (.cells #[.int .i16 0, .int .i16 0, .int .i16 0, .int .i16 0, .slice none 0 0, .slice none 0 0] 49)
  have hs : CM w (w.alloc (.cells #[.int .i16 0, .int .i16 0, .int .i16 0, .int .i16 0, .slice none 0 0, .slice none 0 0] 49)) w.heap.size none 0 0 [] := ⟨hk, OwnS.nil _ _ _ _ _, hA, Nat.le_refl _⟩
  clear hA hk
  go_enter Try.func31, Try.ntmps31
  go_wp2_with fail
  generalize w.alloc _ = V0 at *
  generalize hbx : w.heap.size = bx at hs ⊢
  go_loopw [7] (fun i' wr => ∃ (k : Nat) (QA : Option Addr) (qc : Nat), k ≤ N ∧ i' = .int .i64 k ∧ CM w wr bx QA k qc (List.replicate k (pM tg))) (fun i' _ => N - (intOf i').toNat)
  case atStart => exact ⟨0, none, 0, Nat.zero_le _, rfl, hs⟩
  case round =>
    clear hs
    obtain ⟨k, QA, qc, hk, rfl, hs⟩ := hrel
    by_cases hlt : k < N
    · have HRe : Hid (List.replicate k (pM tg) ++ [pM tg] = List.replicate (k + 1) (pM tg)) := by show _ = _; rw [List.replicate_succ']
      go_upto_region 4 with fail
      replace hs := hs.below (Below.refl wr.heap.size wr).drew
      have hx0 : Ext wr.drew wr.drew := Ext.refl _
      obtain ⟨c0, c1, c2, c3, c4, c5⟩ := cells6 hs.box
      refine regT_start 6 (Ext wr.drew) (by kernel_rfl) ?_
      generalize wr.drew = V at *
      refine regT_take (i := 0) (d := some 9) (v := ?_) [1] hx0 rfl rfl (by kernel_rfl) (by kernel_rfl) (by kernel_rfl) (by kernel_rfl) (by kernel_rfl) (by decide) (fun _ _ _ h => h) (Or.inl ⟨by rfl, ?_⟩) ?_
      rotate_left
      · intro w' hx; (go_simp <;> with_reducible rfl)
      simp only [Act.put, List.setIfInBounds_toArray, List.set_cons_zero, List.set_cons_succ]
      refine regT_take (i := 1) (d := some 10) (v := ?_) [] hx0 rfl rfl (by kernel_rfl) (by kernel_rfl) (by kernel_rfl) (by kernel_rfl) (by kernel_rfl) (by decide) (fun _ _ _ h => h) (Or.inl ⟨by rfl, ?_⟩) ?_
      rotate_left
      · intro w' hx; obtain ⟨q0, q1, q2, q3, q4, q5⟩ := cells6 (kept_block hs.box hx); (go_simp <;> with_reducible rfl)
      simp only [Act.put, List.setIfInBounds_toArray, List.set_cons_zero, List.set_cons_succ]
      refine regT_take (i := 2) (d := some 11) (v := ?_) [5, 4] hx0 rfl rfl (by kernel_rfl) (by kernel_rfl) (by kernel_rfl) (by kernel_rfl) (by kernel_rfl) (by decide) (fun _ _ _ h => h) (Or.inl ⟨by rfl, ?_⟩) ?_
      rotate_left
      · intro w' hx; (go_simp <;> with_reducible rfl)
      simp only [Act.put, List.setIfInBounds_toArray, List.set_cons_zero, List.set_cons_succ]
      refine regT_one 3 _ (by kernel_rfl) rfl ?_
      intro K hK
      go_simp
      refine (unit_any _).mono ?_
      rintro e W1 ⟨rfl, hb1⟩
      have hX1 := hx0.call hb1
      have hs1 := hs.below hb1
      refine hK.out _ _ (fun _ => hX1) ?_
      clear hK K
      refine regT_one 4 _ (by kernel_rfl) rfl ?_
      intro K hK
      go_simp
      refine hK.out _ _ (fun _ => hX1) ?_
      clear hK K
      refine regT_one 5 _ (by kernel_rfl) rfl ?_
      intro K hK
      go_simp
      have hA := (Below.refl W1.heap.size W1).alloc (Nat.le_refl _) (.cells #[.int .u16 2, .int .u16 tg, .int .i16 0, .int .i16 0, .int .i16 16384, .int .i16 0, .int .i16 0, .int .i16 16384] 46)
      have hX2 := hX1.new (.cells #[.int .u16 2, .int .u16 tg, .int .i16 0, .int .i16 0, .int .i16 16384, .int .i16 0, .int .i16 0, .int .i16 16384] 46)
      have hs2 := hs1.below hA
      have hrow := rowS_vals encPt_len W1 46 [pM tg] #[.int .u16 2, .int .u16 tg, .int .i16 0, .int .i16 0, .int .i16 16384, .int .i16 0, .int .i16 0, .int .i16 16384] rfl 1 rfl
      refine hK.out _ _ (fun _ => hX2) ?_
      clear hK K
      clear hs hs1 hb1 hA hX1 hx0 c0 c1 c2 c3 c4 c5
      have hsz := hs2.bel.size
      refine regT_one 6 _ (by kernel_rfl) rfl ?_
      intro K hK
      refine step_append_rowS rfl (.tmp 10) (.tmp 14) _ rfl 46 encPt 8 encPt_len (by omega) encPt_one w.heap.size i1 _ 16 Try.underlying47 hi1 hz01 hz11 rfl hz21 QA k qc (List.replicate k (pM tg)) rfl hs2.qa (some ⟨W1.heap.size, 0, none⟩) 1 1 [pM tg] rfl hrow (by omega) (by omega) hsz ?_
      intro A3 c3 W3 ho3 hg3
      have hb3 := hs2.box2 hg3
      have hs3 := hs2.app ho3 hg3
      rw [HRe.out] at hs3
      refine hK.out _ _ (fun h => absurd h (by decide)) ?_
      clear hK K ho3 hg3 hrow hs2
      simp only [Act.put, List.setIfInBounds_toArray, List.set_cons_zero, List.set_cons_succ]
      refine regT_one 7 _ (by kernel_rfl) rfl ?_
      intro K hK
      go_simp
      refine hK.out _ _ (fun h => absurd h (by decide)) ?_
      clear hK K
      refine regT_one 8 _ (by kernel_rfl) rfl ?_
      intro K hK
      obtain ⟨z0, z1, z2, z3, z4, z5⟩ := cells6 hb3
      have zf := thawed hb3
      go_simp
      refine hK.out _ _ (fun h => absurd h (by decide)) ?_
      clear hK K
      clear hb3
      refine regT_done (by kernel_rfl) ?_ _
      go_wp2
      go_roundw
      case rel => exact ⟨k + 1, A3, c3, by omega, by go_num, hs3⟩
      case measure => simp [intOf]; omega
    · obtain rfl : k = N := by omega
      obtain ⟨c0, c1, c2, c3, c4, c5⟩ := cells6 hs.box
      have hB : Hid (Calls Try.prog 20 #[.agg #[.int .i16 0, .int .i16 0, .int .i16 0, .int .i16 0, .slice QA k qc, .slice none 0 0]] wr (RetB wr (cB (mG k tg)))) := by
        have h := cbytes_any ⟨mG k tg, QA, k, qc, none, 0, 0⟩ wr hs.rows (by show k ≤ 1000000; omega) (by show 0 ≤ 1000000; omega) (mG_ok h0 h1)
        unfold cBytes at h
        rw [if_pos (mG_right tg hN1 hN)] at h
        exact h
      have hbel := hs.bel
      go_wp2_with fail
      with_reducible refine hB.out.mono ?_
      rintro e w2 ⟨A2, n2, c2', rfl, ho2, hb2⟩
      have ho3 := ho2.mono hbel.size
      have hbf := hbel.trans (hb2.mono hbel.size)
      go_wp2_with fail
      go_ret
      exact ⟨_, _, _, rfl, ho3, hbf⟩

end Go.Proofs.Ytdaeffnaoeblpaa

namespace Go.Proofs.Ytdaeffnaoeblpaa
open Go.RowKit
set_option linter.unusedVariables false
set_option linter.unusedSimpArgs false

theorem partsZ_rep {f : Int → Nat → Nat → VR} {p : Pt} {c : Nat} (hf : ∀ m, m ≤ 20000 → f p.i m 0 = if m + c ≤ 20000 then (0, [], m + c, 0) else (9, [], 20000, 0)) : ∀ (n m : Nat), m ≤ 20000 → partsZ f (List.replicate n p) [] m 0 = if m + n * c ≤ 20000 then (0, [], m + n * c, 0) else (9, [], 20000, 0)
  | 0, m, hm => by
    rw [Nat.zero_mul, Nat.add_zero, if_pos hm]
    rfl
  | n + 1, m, hm => by
    have h1 := hf m hm
    rw [List.replicate_succ]
    unfold partsZ
    rw [h1]
    by_cases hc : m + c ≤ 20000
    · rw [if_pos hc]
      simp only [if_true, List.map_nil, List.append_nil]
      rw [partsZ_rep hf n (m + c) hc, show m + c + n * c = m + (n + 1) * c by rw [Nat.succ_mul]; omega]
    · rw [if_neg hc]
      have h2 : ¬ m + (n + 1) * c ≤ 20000 := by rw [Nat.succ_mul]; omega
      rw [if_neg h2]
      rfl
def metL (a b : Nat) : List (List Int) := [cB (mG a 1), cB (mG b 2), []]
theorem shZ_mG {k : Nat} {tg : Int} (h1 : 1 ≤ k) (h2 : k ≤ 200) (h3 : 0 ≤ tg) (h4 : tg ≤ 65535) : shZ (cB (mG k tg)) = some ([], List.replicate k (pM tg)) := by
  rw [shZ_cB _ (mG_ok h3 h4) (mG_right tg h1 h2)]
  rfl
theorem met2 (a b m : Nat) (hm : m ≤ 20000) : visitZ (metL a b) 16 [0, 1] 2 m 0 = if m + 1 ≤ 20000 then (0, [], m + 1, 0) else (9, [], 20000, 0) := by
  have hl : (metL a b).length = 3 := rfl
  rw [visitZ_code, hl]
  by_cases h : m = 20000
  · subst h
    rfl
  · have hc : codeE 3 [0, 1] 2 m = 0 := by
      unfold codeE
      rw [if_neg (by omega), if_neg (by decide), if_neg (by decide), if_neg h]
    rw [if_pos hc, if_pos (by omega)]
    rfl
theorem met1 (a b m : Nat) (hm : m ≤ 20000) (hb1 : 1 ≤ b) (hb2 : b ≤ 200) : visitZ (metL a b) 17 [0] 1 m 0 = if m + (1 + b) ≤ 20000 then (0, [], m + (1 + b), 0) else (9, [], 20000, 0) := by
  have hl : (metL a b).length = 3 := rfl
  rw [visitZ_code, hl]
  by_cases h : m = 20000
  · subst h
    rw [if_neg (show ¬ 20000 + (1 + b) ≤ 20000 by omega)]
    rfl
  · have hc : codeE 3 [0] 1 m = 0 := by
      unfold codeE
      rw [if_neg (by omega), if_neg (by decide), if_neg (by decide), if_neg h]
    rw [if_pos hc, show (metL a b).getD ((1 : Int).toNat) [] = cB (mG b 2) from rfl, shZ_mG hb1 hb2 (by decide) (by decide)]
    unfold stepZ
    simp only
    rw [if_neg (by decide), show 0 + ptsN [] = 0 from rfl]
    have h2 := partsZ_rep (f := visitZ (metL a b) 16 ([0] ++ [1])) (p := pM 2) (c := 1) (fun m hm => met2 a b m hm) b (m + 1) (by omega)
    rw [h2, Nat.mul_one, show m + 1 + b = m + (1 + b) by omega]
theorem flat_met {a b : Nat} (ha1 : 1 ≤ a) (ha2 : a ≤ 200) (hb1 : 1 ≤ b) (hb2 : b ≤ 200) : flatZ (metL a b) 0 = if 1 + a * (1 + b) ≤ 20000 then (0, [], 1 + a * (1 + b), 0) else (9, [], 20000, 0) := by
  have hl : (metL a b).length = 3 := rfl
  unfold flatZ
  rw [visitZ_code, hl, if_pos (by decide), show (metL a b).getD ((0 : Int).toNat) [] = cB (mG a 1) from rfl, shZ_mG ha1 ha2 (by decide) (by decide)]
  unfold stepZ
  simp only
  rw [if_neg (by decide), show 0 + ptsN [] = 0 from rfl]
  exact partsZ_rep (f := visitZ (metL a b) 17 ([] ++ [0])) (p := pM 1) (c := 1 + b) (fun m hm => met1 a b m hm hb1 hb2) a 1 (by omega)

set_option maxRecDepth 100000 in
set_option maxHeartbeats 2000000 in
theorem law_FlatMet (x y : Int) (w : World) (h0 : 0 ≤ x) (h1 : x ≤ 255) (h2 : 0 ≤ y) (h3 : y ≤ 255) : Calls Try.prog 9 #[.int .u8 x, .int .u8 y] w (True_ w) := by
  have HAw := Lib.hid (awake14_any w)
  obtain ⟨n, hn⟩ : ∃ n : Nat, x % 200 = (n : Int) := ⟨(x % 200).toNat, by omega⟩
  obtain ⟨m, hm⟩ : ∃ m : Nat, y % 200 = (m : Int) := ⟨(y % 200).toNat, by omega⟩
  have htn : Int.tmod x 200 = (n : Int) := by rw [Int.tmod_eq_emod_of_nonneg h0]; exact hn
  have htm : Int.tmod y 200 = (m : Int) := by rw [Int.tmod_eq_emod_of_nonneg h2]; exact hm
  have hn2 : n < 200 := by omega
  have hm2 : m < 200 := by omega
  obtain ⟨a, ha⟩ : ∃ a : Nat, 1 + (n : Int) = (a : Int) := ⟨n + 1, by omega⟩
  obtain ⟨b, hb⟩ : ∃ b : Nat, 1 + (m : Int) = (b : Int) := ⟨m + 1, by omega⟩
  have ha1 : 1 ≤ a ∧ a ≤ 200 := by omega
  have hb1 : 1 ≤ b ∧ b ≤ 200 := by omega
  have HMa : Hid (∀ W, Calls Try.prog 31 #[.int .i64 (a : Int), .int .u16 1] W (RetB W (cB (mG a 1)))) := Lib.hid fun W => many_any a 1 W ha1.2 ha1.1 (by omega) (by omega)
  have HMb : Hid (∀ W, Calls Try.prog 31 #[.int .i64 (b : Int), .int .u16 2] W (RetB W (cB (mG b 2)))) := Lib.hid fun W => many_any b 2 W hb1.2 hb1.1 (by omega) (by omega)
  have hF := flat_met ha1.1 ha1.2 hb1.1 hb1.2
  have hla := mG_len (k := a) 1
  have hlb := mG_len (k := b) 2
  have hBa := cB_bytes (mG a 1) (mG_ok (by decide) (by decide)) (mG_right 1 ha1.1 ha1.2)
  have hBb := cB_bytes (mG b 2) (mG_ok (by decide) (by decide)) (mG_right 2 hb1.1 hb1.2)
  unfold metL at hF
  obtain ⟨P, hP⟩ : ∃ P : Nat, P = a * b := ⟨_, rfl⟩
  have hPi : (a : Int) * (b : Int) = (P : Int) := by rw [hP]; exact (Int.natCast_mul a b).symm
  have hPb : P ≤ 40000 := by rw [hP]; exact Nat.mul_le_mul ha1.2 hb1.2
  rw [show 1 + a * (1 + b) = 1 + a + P by rw [hP, Nat.mul_add]; omega] at hF
  generalize cB (mG a 1) = za at *
  generalize cB (mG b 2) = zb at *
  clear hn hm hP
  go_enter Try.func9, Try.ntmps9
  go_wp2_with fail
  with_reducible refine HAw.out.mono ?_
  rintro e w0 ⟨rfl, hb0⟩
  have HC := Lib.hid (HMa.out w0)
  clear HAw HMa
  go_wp2_with fail
  with_reducible refine HC.out.mono ?_
  rintro e w1 ⟨A1, n1, c1, rfl, ho1, hb1'⟩
  have hbw1 := hb0.trans (hb1'.mono hb0.size)
  have HD := Lib.hid (HMb.out w1)
  have hl1 := ho1.len
  have hr1 := ho1.row
  have hc1 := ho1.cap
  clear HC hb0 hb1' ho1 HMb
  go_wp2_with fail
  with_reducible refine HD.out.mono ?_
  rintro e w2 ⟨A2, n2, c2, rfl, ho2, hb2'⟩
  have hbw2 := hbw1.trans (hb2'.mono hbw1.size)
  have hl2 := ho2.len
  have hr2 := ho2.row
  have hc2 := ho2.cap
  have hr1' := hr1.below hb2'
  have hgl : GlsIn (w2.alloc (.cells #[.slice A1 n1 c1, .slice A2 n2 c2, .slice none 0 0] 42)) (some ⟨w2.heap.size, 0, none⟩) 3 [za, zb, []] := by
    refine glsIn_lit w2 42 [(A1, n1, c1), (A2, n2, c2), (none, 0, 0)] [za, zb, []] _ rfl 3 rfl rfl fun i s z u v => ?_
    match i, u, v with
    | 0, u, v => simp at u v; subst u v; exact ⟨hr1', hBa, by show n1 ≤ _; omega, hc1⟩
    | 1, u, v => simp at u v; subst u v; exact ⟨hr2, hBb, by show n2 ≤ _; omega, hc2⟩
    | 2, u, v => simp at u v; subst u v; exact ⟨Row.empty _ _, bytes_nil, by decide, by decide⟩
    | i + 3, u, _ => simp at u
  have hA := (Below.refl w2.heap.size w2).alloc (Nat.le_refl _) (.cells #[.slice A1 n1 c1, .slice A2 n2 c2, .slice none 0 0] 42)
  have hbw3 := hbw2.trans (hA.mono hbw2.size)
  have hLo : ptsOk [za, zb, []] := by
    intro z hz
    simp only [List.mem_cons, List.not_mem_nil, or_false] at hz
    rcases hz with rfl | rfl | rfl
    · exact hBa
    · exact hBb
    · exact bytes_nil
  have HF := Lib.hid (flat_any _ hLo _ _ 3 3 0 hgl (by omega) (by omega) (by omega))
  unfold RetFlat at HF
  rw [hF] at HF
  clear HD hr1 hr2 hr1' ho2 hb2' hgl hA hLo hF hbw1 hbw2 hBa hBb
  by_cases ho : 1 + a + P ≤ 20000
  · have hov : ¬ 20000 < 1 + (a : Int) + (P : Int) := by omega
    rw [if_pos ho] at HF
    go_wp2_with fail
    with_reducible refine HF.out.mono ?_
    rintro e w3 ⟨hb3, CA, cn, cc, rfl, hacc⟩
    have hcn := hacc.len
    obtain rfl : cn = 0 := by simpa using hcn.symm
    have hbw4 := hbw3.trans (hb3.mono hbw3.size)
    clear HF hacc hb3 hcn
    go_wp2_with fail
    go_ret
    exact ⟨rfl, hbw4⟩
  · have hov : 20000 < 1 + (a : Int) + (P : Int) := by omega
    rw [if_neg ho] at HF
    go_wp2_with fail
    with_reducible refine HF.out.mono ?_
    rintro e w3 ⟨hb3, CA, cn, cc, rfl, hacc⟩
    have hcn := hacc.len
    obtain rfl : cn = 0 := by simpa using hcn.symm
    have hbw4 := hbw3.trans (hb3.mono hbw3.size)
    clear HF hacc hb3 hcn
    go_wp2_with fail
    go_ret
    exact ⟨rfl, hbw4⟩

end Go.Proofs.Ytdaeffnaoeblpaa

namespace Go.Proofs.Ytdaeffnaoeblpaa.flatMet
open Go.ChangeShapes Go.WideShapes Go.ChangeAt Go.RowKit
open Go.ChangeMaps (open_string shut_string)
set_option linter.unusedVariables false

theorem own : ownKnob Try.prog.godebug = none := by kernel_rfl
theorem laidOut : laidOutB Try.prog = true := by kernel_rfl

set_option maxRecDepth 100000 in
theorem lifted (os : Os) (started : os.Started) (H : Type) (enc : TypeId × Value → H) :
    ReturnsInHanded {} Try.checked os 9 .any (Rows.flatMetSpec.pre6 enc Try.prog Try.f9 Rows.flatMetRow.domain false) (Rows.flatMetSpec.post enc Try.prog Try.f9 false true false false) := by
  refine returnsInHanded_of_change (C := Try.checked) own started (by kernel_rfl) Try.func9
    (ChangeSpec.witness6 (enc := enc) (C := Try.checked) false ⟨#[], #[.int .u8 0, .int .u8 0], []⟩ 8 (by kernel_rfl) (by kernel_rfl) (by kernel_rfl) (by kernel_rfl)) ?_
  intro W base args ds gs before hval0 hW hcnd _
  have hval : ∀ (j : Nat) t v, Try.f9.params[j]? = some t → args[j]? = some v → Value.okWide Try.prog W .any base t v := hval0
  have hW' := hW
  obtain ⟨p, q, hA0, hV, rfl, hfz, hnd⟩ := hW
  have hA : DataW.TrodAll enc Try.prog W 0 (fun _ => true) true Try.f9.params.toList args.toList ds p := hA0
  rw [Try.params9] at hA hval
  obtain ⟨v0, vs0, d0, ds0, p0, q0, hargs, rfl, rfl, h0, r0⟩ := trodAll_cons hA
  obtain ⟨v1, vs1, d1, ds1, p1, q1, rfl, rfl, rfl, h1, r1⟩ := trodAll_cons r0
  obtain ⟨rfl, rfl, rfl⟩ := trodAll_nil r1
  obtain rfl : args = #[v0, v1] := by cases args; simp_all
  obtain ⟨rfl, rfl⟩ := trodVars_none hV
  have k0 := h0
  have lt0 : ∀ x ∈ p0, x.block < W.heap.size := by obtain ⟨m, hm⟩ := k0; exact DataW.trod_lt m _ _ _ hm
  have k1 := h1
  have lt1 : ∀ x ∈ p1, x.block < W.heap.size := by obtain ⟨m, hm⟩ := k1; exact DataW.trod_lt m _ _ _ hm
  obtain ⟨a0, rfl, rfl, rfl, u0⟩ := open_int Try.underlying5 (hval 0 5 v0 rfl rfl) h0
  have w0 := bounds_u8 u0
  obtain ⟨a1, rfl, rfl, rfl, u1⟩ := open_int Try.underlying5 (hval 1 5 v1 rfl rfl) h1
  have w1 := bounds_u8 u1
  clear hA0 hval0
  refine (law_FlatMet a0 a1 W w0.1 w0.2 w1.1 w1.2).mono fun e W' ⟨he, bel⟩ => ?_
  subst he
  exact ⟨_, rfl, _, _, _, [], _, [], hW', trodAll_mk1 (shut_bool Try.underlying4 _), (trodAll_cons_mk (Below.trod laidOut (by kernel_rfl) (of_decide_eq_true (by kernel_rfl)) k0 bel lt0) (trodAll_cons_mk (Below.trod laidOut (by kernel_rfl) (of_decide_eq_true (by kernel_rfl)) k1 bel lt1) trodAll_mk0)), rfl, bel.frame _, fun h => by cases h⟩

theorem over : Rows.flatMetRow.holds Try.pinned (OpenSpec.ofChange Rows.flatMetSpec) :=
  OpenClaim.holds_of_wide 9 Try.f9 rfl rfl rfl rfl rfl rfl rfl ⟨rfl, rfl, rfl, rfl, rfl⟩ rfl rfl rfl rfl rfl (by kernel_rfl) Try.func9 (by kernel_rfl)
    (of_decide_eq_true (by kernel_rfl)) (by unfold Func.isWrapper; first | (rw [if_pos (by decide +kernel)]; kernel_rfl) | (rw [if_neg (by decide +kernel)]; exact ⟨rfl, rfl⟩))
    (fun os started H enc _ => lifted os started H enc)

theorem proved : Rows.FlatMetSaid := over
#print axioms proved
end Go.Proofs.Ytdaeffnaoeblpaa.flatMet
