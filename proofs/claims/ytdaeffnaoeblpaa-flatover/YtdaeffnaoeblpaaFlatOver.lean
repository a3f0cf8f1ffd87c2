/- More points than there may be are refused, as soon as there are too many; as many as there may be aren't. -/
import Derived.StillTailTactics
import Derived.Test.YtdaeffnaoeblpaaRows
import Derived.WalkKit
import Derived.ProofKit
import Derived.OpenShut
import Derived.ShutString
import Derived.ChangeOld
import Derived.Below
import Derived.Lib.SmallJoins
import Derived.Test.YtdaeffnaoeblpaaBase2
import Derived.Test.YtdaeffnaoeblpaaBase3
import Derived.Test.YtdaeffnaoeblpaaBase8
import Derived.Test.YtdaeffnaoeblpaaBase9
import Derived.Test.YtdaeffnaoeblpaaBase15

namespace Go.Proofs.Ytdaeffnaoeblpaa
open Go.RowKit
set_option linter.unusedVariables false
set_option linter.unusedSimpArgs false

theorem Try.bsinfoM : (Try.prog.info? 42).map (fun i => (i.zero, i.size, i.bytes)) = some (some (.slice none 0 0), 1, 24) := by kernel_rfl
/-- Bytes in rows of their own, gathered in a row. -/
def InB (w : World) (S : List Sl) (L : List (List Int)) : Prop := S.length = L.length ∧ ∀ (i : Nat) (s : Sl) (z : List Int), S[i]? = some s → L[i]? = some z → (Row w s.1 s.2.1 (cellsOf .u8 z) ∧ ∀ g, blockOf s.1 = some g → Typed w g 5) ∧ Bytes z ∧ s.2.1 ≤ 68747 ∧ s.2.1 ≤ s.2.2
theorem InB.keep {w w' : World} {S : List Sl} {L : List (List Int)} (h : InB w S L) (hs : w.heap.size ≤ w'.heap.size) (hk : ∀ g, Typed w g 5 → w'.heap[g]? = w.heap[g]?) : InB w' S L :=
  ⟨h.1, fun i s z a b => by
    obtain ⟨⟨h1, h2⟩, h3⟩ := h.2 i s z a b
    exact ⟨⟨h1.keep hs (fun g hg _ => hk g (h2 g hg)), fun g hg => (h2 g hg).keep (hk g (h2 g hg))⟩, h3⟩⟩
theorem InB.below {w w' : World} {S : List Sl} {L : List (List Int)} (h : InB w S L) (hb : Below w.heap.size w w') : InB w' S L := h.keep hb.size fun g hg => hb.block g hg.lt
theorem InB.nil (w : World) : InB w [] [] := ⟨rfl, fun i s c h => by simp at h⟩
theorem InB.push {w : World} {S : List Sl} {L : List (List Int)} (h : InB w S L) {A : Option Addr} {n k : Nat} {z : List Int} (hr : Row w A n (cellsOf .u8 z)) (ht : ∀ g, blockOf A = some g → Typed w g 5) (hB : Bytes z) (hn : n ≤ 68747) (hk : n ≤ k) : InB w (S ++ [(A, n, k)]) (L ++ [z]) := by
  refine ⟨by simp [h.1], fun i s d a b => ?_⟩
  by_cases hi : i < S.length
  · rw [List.getElem?_append_left hi] at a
    rw [List.getElem?_append_left (by rw [← h.1]; exact hi)] at b
    exact h.2 i s d a b
  · have hi2 : i = S.length := by
      have := (List.getElem?_eq_some_iff.1 a).1
      simp at this
      omega
    subst hi2
    rw [List.getElem?_append_right (Nat.le_refl _), Nat.sub_self] at a
    rw [h.1, List.getElem?_append_right (Nat.le_refl _), Nat.sub_self] at b
    simp at a b
    subst a b
    exact ⟨⟨hr, ht⟩, hB, hn, hk⟩
def AccB (w : World) (B : Nat) (A : Option Addr) (n c : Nat) (L : List (List Int)) : Prop := ∃ S : List Sl, OwnS 42 encSl 1 w B A n c S ∧ InB w S L
theorem AccB.len {w : World} {B : Nat} {A : Option Addr} {n c : Nat} {L : List (List Int)} (h : AccB w B A n c L) : L.length = n := by obtain ⟨S, h1, h2⟩ := h; rw [← h2.1]; exact h1.len
theorem AccB.nil (w : World) (B : Nat) : AccB w B none 0 0 [] := ⟨[], OwnS.nil _ _ _ _ _, InB.nil _⟩
theorem AccB.below {w w' : World} {B : Nat} {A : Option Addr} {n c : Nat} {L : List (List Int)} (h : AccB w B A n c L) (hb : Below w.heap.size w w') : AccB w' B A n c L := by
  obtain ⟨S, h1, h2⟩ := h
  exact ⟨S, h1.below hb, h2.below hb⟩
theorem AccB.gls {w : World} {B : Nat} {A : Option Addr} {n c : Nat} {L : List (List Int)} (h : AccB w B A n c L) : GlsIn w A n L := by
  obtain ⟨S, h1, h2⟩ := h
  exact ⟨S, h1.row encSl_len, h2.1, fun i s z a b => by
    obtain ⟨⟨r, _⟩, x⟩ := h2.2 i s z a b
    exact ⟨r, x⟩⟩
theorem AccB.bytes {w : World} {B : Nat} {A : Option Addr} {n c : Nat} {L : List (List Int)} (h : AccB w B A n c L) : ptsOk L := by
  obtain ⟨S, h1, h2⟩ := h
  intro z hz
  obtain ⟨i, hi⟩ := List.getElem?_of_mem hz
  have hl := (List.getElem?_eq_some_iff.1 hi).1
  obtain ⟨s, hs⟩ : ∃ s, S[i]? = some s := ⟨_, List.getElem?_eq_getElem (by rw [h2.1]; exact hl)⟩
  exact (h2.2 i s z hs hi).2.1
/-- Behind an append. -/
theorem AccB.push {w w' : World} {B : Nat} {A A2 : Option Addr} {n c c2 : Nat} {L : List (List Int)} {S : List Sl} {M : Option Addr} {m k : Nat} {z : List Int} (hd : OwnS 42 encSl 1 w B A n c S) (hi : InB w S L) (ho : OwnS 42 encSl 1 w' B A2 (n + 1) c2 (S ++ [(M, m, k)])) (hg : w.grownBy w' (blockOf A)) (hr : Row w M m (cellsOf .u8 z)) (ht : ∀ g, blockOf M = some g → Typed w g 5) (hB : Bytes z) (hm : m ≤ 68747) (hk : m ≤ k) : AccB w' B A2 (n + 1) c2 (L ++ [z]) := by
  have hsame : ∀ g, Typed w g 5 → w'.heap[g]? = w.heap[g]? := fun g a => hg.block g a.lt fun e => (a.ne (hd.typed g e.symm) (by decide)) rfl
  exact ⟨_, ho, (hi.keep hg.size hsame).push (hr.keep hg.size fun g hq _ => hsame g (ht g hq)) (fun g hq => (ht g hq).keep (hsame g (ht g hq))) hB hm hk⟩

/-- A glyph of parts is one. -/
theorem shZ_cB (g : Cg) (ho : g.ok) (hr : cRight g = true) : shZ (cB g) = some ([], g.ps) := by
  obtain ⟨h1, h2, h3⟩ := cB_dec g ho hr []
  have h4 := cOk_cB g ho hr []
  rw [List.append_nil] at h1 h2 h3 h4
  have hB := cB_bytes g ho hr
  have hc : cIs (cB g) = true := by
    rw [cIs_n2v hB]
    refine decide_eq_true ?_
    generalize cB g = zs at *
    match zs, h1 with
    | [], h1 => exact absurd (show be [] = 65535 from h1) (by decide)
    | [x], h1 => exact absurd (show be [] = 65535 from h1) (by decide)
    | x :: y :: r, h1 =>
      have e : n2at (x :: y :: r) 0 = 256 * x + y := by
        show be [x, y] = _
        simp [be]
        omega
      show 32767 < 256 * x + y
      omega
  have hl : (cB g).length ≠ 0 := by
    intro e
    rw [List.eq_nil_of_length_eq_zero e] at h1
    exact absurd (show be [] = 65535 from h1) (by decide)
  unfold shZ
  rw [if_neg hl, hc, h4, h3, h2, List.drop_length]
  rfl

def chP (tg : Int) : Pt := ⟨3, tg, 1, 0, 16384, 0, 0, 16384⟩
def chG (tg : Int) : Cg := ⟨0, 0, 0, 0, [chP tg], []⟩
theorem chG_right (tg : Int) : cRight (chG tg) = true := by kernel_rfl
theorem chG_ok {tg : Int} (h0 : 0 ≤ tg) (h1 : tg ≤ 65535) : (chG tg).ok := by
  refine ⟨fun x hx => ?_, fun p hp => ?_, fun x hx => by cases hx⟩
  · simp [chG] at hx; omega
  · simp [chG] at hp
    subst hp
    exact ⟨by simp [chP], ⟨h0, h1⟩, by simp [chP], by simp [chP], by simp [chP], by simp [chP], by simp [chP], by simp [chP]⟩
theorem chG_len (tg : Int) : (cB (chG tg)).length = 18 := by rfl
def chO : Gl := ⟨0, 0, 0, 0, [0], [], [(5, 0, false)]⟩
theorem chO_ok : chO.ok := ⟨by decide, by decide, (fun x hx => by cases hx), by decide⟩
theorem chO_right : oRight chO = true := by decide
theorem chO_cts : ctsG chO = [[(5, 0, false)]] := by decide
theorem chO_len : (oB chO).length = 16 := by decide
/-- To which glyph the one leads. -/
def toK (n : Nat) (back : Int) (i : Nat) : Int := if i + 1 = n ∧ 0 ≤ back then back else i + 1
def chL (n : Nat) (back : Int) : List (List Int) := (List.range n).map (fun i => cB (chG (toK n back i))) ++ [oB chO]

/-- The bytes of one part, as a law of the chain writes them. -/
theorem chG_bytes (tg : Int) (h0 : 0 ≤ tg) (h1 : tg ≤ 65535) (W : World) : Calls Try.prog 20 #[.agg #[.int .i16 0, .int .i16 0, .int .i16 0, .int .i16 0, .slice (some ⟨W.heap.size, 0, none⟩) 1 1, .slice none 0 0]] (W.alloc (.cells #[.int .u16 3, .int .u16 tg, .int .i16 1, .int .i16 0, .int .i16 16384, .int .i16 0, .int .i16 0, .int .i16 16384] 46)) (RetB (W.alloc (.cells #[.int .u16 3, .int .u16 tg, .int .i16 1, .int .i16 0, .int .i16 16384, .int .i16 0, .int .i16 0, .int .i16 16384] 46)) (cB (chG tg))) := by
  have h := cbytes_any ⟨chG tg, some ⟨W.heap.size, 0, none⟩, 1, 1, none, 0, 0⟩ (W.alloc (.cells #[.int .u16 3, .int .u16 tg, .int .i16 1, .int .i16 0, .int .i16 16384, .int .i16 0, .int .i16 0, .int .i16 16384] 46)) ⟨rowS_vals encPt_len W 46 [chP tg] _ rfl 1 rfl, Row.empty _ _⟩ (by show 1 ≤ 1000000; omega) (by show 0 ≤ 1000000; omega) (chG_ok h0 h1)
  unfold cBytes at h
  rw [if_pos (chG_right tg)] at h
  exact h
/-- The bytes of the chain's last one. -/
theorem chO_bytes (W : World) : Calls Try.prog 21 #[.agg #[.int .i16 0, .int .i16 0, .int .i16 0, .int .i16 0, .slice (some ⟨W.heap.size, 0, none⟩) 1 1, .slice none 0 0, .slice (some ⟨W.heap.size + 1, 0, none⟩) 1 1]] ((W.alloc (.cells #[.int .u16 0] 39)).alloc (.cells #[.int .i16 5, .int .i16 0, .bool false] 54)) (RetB ((W.alloc (.cells #[.int .u16 0] 39)).alloc (.cells #[.int .i16 5, .int .i16 0, .bool false] 54)) (oB chO)) := by
  have hr : GlV.rows ((W.alloc (.cells #[.int .u16 0] 39)).alloc (.cells #[.int .i16 5, .int .i16 0, .bool false] 54)) ⟨chO, some ⟨W.heap.size, 0, none⟩, 1, 1, none, 0, 0, some ⟨W.heap.size + 1, 0, none⟩, 1, 1⟩ := by
    refine ⟨(row_one W .u16 0 39).below ((Below.refl _ _).alloc (Nat.le_refl _) _), Row.empty _ _, ?_⟩
    have := rowS_vals encSp_len (W.alloc (.cells #[.int .u16 0] 39)) 54 [(5, 0, false)] #[.int .i16 5, .int .i16 0, .bool false] rfl 1 rfl
    rwa [show (W.alloc (.cells #[.int .u16 0] 39)).heap.size = W.heap.size + 1 by simp] at this
  have h := obytes_any _ _ hr ⟨by show (1 : Nat) ≤ 10000; omega, by show (0 : Nat) ≤ 10000; omega, by show (1 : Nat) ≤ 10000; omega⟩ chO_ok
  unfold oBytes at h
  rw [if_pos chO_right] at h
  exact h

def chnK (n : Nat) (back : Int) (k : Nat) : List (List Int) := (List.range k).map (fun i => cB (chG (toK n back i)))
theorem chnK_succ (n : Nat) (back : Int) (k : Nat) : chnK n back (k + 1) = chnK n back k ++ [cB (chG (toK n back k))] := by simp [chnK, List.range_succ]

set_option maxRecDepth 100000 in
set_option maxHeartbeats 2000000 in
theorem chain_any (n : Nat) (back : Int) (w : World) (hn : n ≤ 1000) (hb0 : -1 ≤ back) (hb1 : back ≤ 65535) : Calls Try.prog 25 #[.int .i64 n, .int .i64 back] w fun e w' => ∃ A c, e = .returned (.slice A (n + 1) c) ∧ AccB w' w.heap.size A (n + 1) c (chL n back) ∧ Below w.heap.size w w' := by
  obtain ⟨i0, hi, hz0, hz1, hz2⟩ := info_parts Try.bsinfoM
  go_enter Try.func25, Try.ntmps25
  go_wp2
  go_loopw [5, 9] (fun a i' wr => ∃ (j : Nat) (DA : Option Addr) (dc : Nat), j ≤ n ∧ i' = .int .i64 j ∧ a = .slice DA j dc ∧ AccB wr w.heap.size DA j dc (chnK n back j) ∧ Below w.heap.size w wr) (fun _ i' _ => n - (intOf i').toNat)
  case atStart => exact ⟨0, none, 0, Nat.zero_le _, rfl, rfl, AccB.nil _ _, Below.refl _ _⟩
  case round =>
    obtain ⟨j, DA, dc, hj, rfl, rfl, hacc, hbel⟩ := hrel
    by_cases hlt : j < n
    · by_cases hjn : j + 1 = n
      · have hjb : ((j : Int) == (n : Int) - 1) = true := by simp; omega
        by_cases hbk : 0 ≤ back
        · have hT0 : 0 ≤ back := by omega
          have hT1 : back ≤ 65535 := by omega
          have hCs := chnK_succ n back j
          rw [show toK n back j = back by unfold toK; first | rw [if_pos (by omega)] | rw [if_neg (by omega)]] at hCs
          have HBc := Lib.hid (fun W => chG_bytes (back) hT0 hT1 W)
          clear hjn
          go_wp2_with fail
          refine (unit_any _).mono ?_
          rintro e w0 ⟨rfl, hb0⟩
          have HB := Lib.hid (HBc.out w0)
          have hacc0 := hacc.below hb0
          have hA1 := (Below.refl w0.heap.size w0).alloc (Nat.le_refl _) (.cells #[.int .u16 3, .int .u16 (back), .int .i16 1, .int .i16 0, .int .i16 16384, .int .i16 0, .int .i16 0, .int .i16 16384] 46)
          have hbw0 := hbel.trans (hb0.mono hbel.size)
          clear hacc hbel hb0 HBc
          go_wp2_with fail
          with_reducible refine HB.out.mono ?_
          rintro e w1 ⟨A1, n1, c1, rfl, hown1, hb1⟩
          have hl1 := hown1.len
          rw [chG_len] at hl1
          obtain rfl : n1 = 18 := by omega
          have hcap1 := hown1.cap
          have hb01 := hA1.trans (hb1.mono hA1.size)
          have hacc1 := hacc0.below hb01
          have hbw1 := hbw0.trans (hb01.mono hbw0.size)
          have hA2 := (Below.refl w1.heap.size w1).alloc (Nat.le_refl _) (.cells #[.slice A1 18 c1] 42)
          have hacc2 := hacc1.below hA2
          have hbw2 := hbw1.trans (hA2.mono hbw1.size)
          have hrowB := hown1.row.below hA2
          have htyB : ∀ g, blockOf A1 = some g → Typed (w1.alloc (.cells #[.slice A1 18 c1] 42)) g 5 := fun g hg => (hown1.typed g hg).keep (hA2.block g (hown1.typed g hg).lt)
          have hrow2 : RowS encSl 1 (w1.alloc (.cells #[.slice A1 18 c1] 42)) (some ⟨w1.heap.size, 0, none⟩) 1 [(A1, 18, c1)] := rowS_vals encSl_len w1 42 [(A1, 18, c1)] _ rfl 1 rfl
          obtain ⟨S, hSo, hSi⟩ := hacc2
          have HSo := Lib.hid hSo
          have hwb : w.heap.size ≤ w1.heap.size + 1 := by have := hbw1.size; omega
          clear HB hacc0 hacc1 hown1 hb1 hA1 hb01 hbw0 hbw1 hA2 hl1
          go_wp2_with (at_builtin; refine wpList_append_atS rfl (.tmp 23) (.tmp 31) _ rfl 42 encSl 1 encSl_len (by omega) encSl_one w.heap.size i0 _ 24 Try.underlying22 hi hz0 hz1 rfl hz2 DA j dc S rfl HSo.out (some ⟨w1.heap.size, 0, none⟩) 1 1 [(A1, 18, c1)] rfl hrow2 (by omega) (by omega) (by omega) (by simpa using hwb) ?_)
          intro D3 dc3 w2 hown2 hg2 _
          have hacc3 := AccB.push hSo hSi hown2 hg2 hrowB htyB (cB_bytes _ (chG_ok hT0 hT1) (chG_right _)) (by omega) hcap1
          rw [← hCs] at hacc3
          have hbw3 := hbw2.grown hg2 hbw2.size (fun k e => (hSo.from_ k e).1)
          have HA3 := Lib.hid hacc3
          have HB3 := Lib.hid hbw3
          clear hSo hSi HSo hown2 hg2 hrowB htyB hrow2 hacc3 hbw2 hbw3 hCs
          go_wp2_with fail
          go_roundw
          case rel => exact ⟨j + 1, D3, dc3, by omega, by go_num, rfl, HA3.out, HB3.out⟩
          case measure => simp [intOf]; omega
        · have hT0 : 0 ≤ (j : Int) + 1 := by omega
          have hT1 : (j : Int) + 1 ≤ 65535 := by omega
          have hCs := chnK_succ n back j
          rw [show toK n back j = (j : Int) + 1 by unfold toK; first | rw [if_pos (by omega)] | rw [if_neg (by omega)]] at hCs
          have HBc := Lib.hid (fun W => chG_bytes ((j : Int) + 1) hT0 hT1 W)
          clear hjn
          go_wp2_with fail
          refine (unit_any _).mono ?_
          rintro e w0 ⟨rfl, hb0⟩
          have HB := Lib.hid (HBc.out w0)
          have hacc0 := hacc.below hb0
          have hA1 := (Below.refl w0.heap.size w0).alloc (Nat.le_refl _) (.cells #[.int .u16 3, .int .u16 ((j : Int) + 1), .int .i16 1, .int .i16 0, .int .i16 16384, .int .i16 0, .int .i16 0, .int .i16 16384] 46)
          have hbw0 := hbel.trans (hb0.mono hbel.size)
          clear hacc hbel hb0 HBc
          go_wp2_with fail
          with_reducible refine HB.out.mono ?_
          rintro e w1 ⟨A1, n1, c1, rfl, hown1, hb1⟩
          have hl1 := hown1.len
          rw [chG_len] at hl1
          obtain rfl : n1 = 18 := by omega
          have hcap1 := hown1.cap
          have hb01 := hA1.trans (hb1.mono hA1.size)
          have hacc1 := hacc0.below hb01
          have hbw1 := hbw0.trans (hb01.mono hbw0.size)
          have hA2 := (Below.refl w1.heap.size w1).alloc (Nat.le_refl _) (.cells #[.slice A1 18 c1] 42)
          have hacc2 := hacc1.below hA2
          have hbw2 := hbw1.trans (hA2.mono hbw1.size)
          have hrowB := hown1.row.below hA2
          have htyB : ∀ g, blockOf A1 = some g → Typed (w1.alloc (.cells #[.slice A1 18 c1] 42)) g 5 := fun g hg => (hown1.typed g hg).keep (hA2.block g (hown1.typed g hg).lt)
          have hrow2 : RowS encSl 1 (w1.alloc (.cells #[.slice A1 18 c1] 42)) (some ⟨w1.heap.size, 0, none⟩) 1 [(A1, 18, c1)] := rowS_vals encSl_len w1 42 [(A1, 18, c1)] _ rfl 1 rfl
          obtain ⟨S, hSo, hSi⟩ := hacc2
          have HSo := Lib.hid hSo
          have hwb : w.heap.size ≤ w1.heap.size + 1 := by have := hbw1.size; omega
          clear HB hacc0 hacc1 hown1 hb1 hA1 hb01 hbw0 hbw1 hA2 hl1
          go_wp2_with (at_builtin; refine wpList_append_atS rfl (.tmp 23) (.tmp 31) _ rfl 42 encSl 1 encSl_len (by omega) encSl_one w.heap.size i0 _ 24 Try.underlying22 hi hz0 hz1 rfl hz2 DA j dc S rfl HSo.out (some ⟨w1.heap.size, 0, none⟩) 1 1 [(A1, 18, c1)] rfl hrow2 (by omega) (by omega) (by omega) (by simpa using hwb) ?_)
          intro D3 dc3 w2 hown2 hg2 _
          have hacc3 := AccB.push hSo hSi hown2 hg2 hrowB htyB (cB_bytes _ (chG_ok hT0 hT1) (chG_right _)) (by omega) hcap1
          rw [← hCs] at hacc3
          have hbw3 := hbw2.grown hg2 hbw2.size (fun k e => (hSo.from_ k e).1)
          have HA3 := Lib.hid hacc3
          have HB3 := Lib.hid hbw3
          clear hSo hSi HSo hown2 hg2 hrowB htyB hrow2 hacc3 hbw2 hbw3 hCs
          go_wp2_with fail
          go_roundw
          case rel => exact ⟨j + 1, D3, dc3, by omega, by go_num, rfl, HA3.out, HB3.out⟩
          case measure => simp [intOf]; omega
      · have hjb : ((j : Int) == (n : Int) - 1) = false := by simp; omega
        have hT0 : 0 ≤ (j : Int) + 1 := by omega
        have hT1 : (j : Int) + 1 ≤ 65535 := by omega
        have hCs := chnK_succ n back j
        rw [show toK n back j = (j : Int) + 1 by unfold toK; first | rw [if_pos (by omega)] | rw [if_neg (by omega)]] at hCs
        have HBc := Lib.hid (fun W => chG_bytes ((j : Int) + 1) hT0 hT1 W)
        clear hjn
        go_wp2_with fail
        refine (unit_any _).mono ?_
        rintro e w0 ⟨rfl, hb0⟩
        have HB := Lib.hid (HBc.out w0)
        have hacc0 := hacc.below hb0
        have hA1 := (Below.refl w0.heap.size w0).alloc (Nat.le_refl _) (.cells #[.int .u16 3, .int .u16 ((j : Int) + 1), .int .i16 1, .int .i16 0, .int .i16 16384, .int .i16 0, .int .i16 0, .int .i16 16384] 46)
        have hbw0 := hbel.trans (hb0.mono hbel.size)
        clear hacc hbel hb0 HBc
        go_wp2_with fail
        with_reducible refine HB.out.mono ?_
        rintro e w1 ⟨A1, n1, c1, rfl, hown1, hb1⟩
        have hl1 := hown1.len
        rw [chG_len] at hl1
        obtain rfl : n1 = 18 := by omega
        have hcap1 := hown1.cap
        have hb01 := hA1.trans (hb1.mono hA1.size)
        have hacc1 := hacc0.below hb01
        have hbw1 := hbw0.trans (hb01.mono hbw0.size)
        have hA2 := (Below.refl w1.heap.size w1).alloc (Nat.le_refl _) (.cells #[.slice A1 18 c1] 42)
        have hacc2 := hacc1.below hA2
        have hbw2 := hbw1.trans (hA2.mono hbw1.size)
        have hrowB := hown1.row.below hA2
        have htyB : ∀ g, blockOf A1 = some g → Typed (w1.alloc (.cells #[.slice A1 18 c1] 42)) g 5 := fun g hg => (hown1.typed g hg).keep (hA2.block g (hown1.typed g hg).lt)
        have hrow2 : RowS encSl 1 (w1.alloc (.cells #[.slice A1 18 c1] 42)) (some ⟨w1.heap.size, 0, none⟩) 1 [(A1, 18, c1)] := rowS_vals encSl_len w1 42 [(A1, 18, c1)] _ rfl 1 rfl
        obtain ⟨S, hSo, hSi⟩ := hacc2
        have HSo := Lib.hid hSo
        have hwb : w.heap.size ≤ w1.heap.size + 1 := by have := hbw1.size; omega
        clear HB hacc0 hacc1 hown1 hb1 hA1 hb01 hbw0 hbw1 hA2 hl1
        go_wp2_with (at_builtin; refine wpList_append_atS rfl (.tmp 23) (.tmp 31) _ rfl 42 encSl 1 encSl_len (by omega) encSl_one w.heap.size i0 _ 24 Try.underlying22 hi hz0 hz1 rfl hz2 DA j dc S rfl HSo.out (some ⟨w1.heap.size, 0, none⟩) 1 1 [(A1, 18, c1)] rfl hrow2 (by omega) (by omega) (by omega) (by simpa using hwb) ?_)
        intro D3 dc3 w2 hown2 hg2 _
        have hacc3 := AccB.push hSo hSi hown2 hg2 hrowB htyB (cB_bytes _ (chG_ok hT0 hT1) (chG_right _)) (by omega) hcap1
        rw [← hCs] at hacc3
        have hbw3 := hbw2.grown hg2 hbw2.size (fun k e => (hSo.from_ k e).1)
        have HA3 := Lib.hid hacc3
        have HB3 := Lib.hid hbw3
        clear hSo hSi HSo hown2 hg2 hrowB htyB hrow2 hacc3 hbw2 hbw3 hCs
        go_wp2_with fail
        go_roundw
        case rel => exact ⟨j + 1, D3, dc3, by omega, by go_num, rfl, HA3.out, HB3.out⟩
        case measure => simp [intOf]; omega
    · obtain rfl : j = n := by omega
      have hCL : chL j back = chnK j back j ++ [oB chO] := rfl
      have HB := Lib.hid (chO_bytes wr)
      have hA1 := (Below.refl wr.heap.size wr).alloc (Nat.le_refl _) (.cells #[.int .u16 0] 39)
      have hA2 := hA1.alloc hA1.size (.cells #[.int .i16 5, .int .i16 0, .bool false] 54)
      go_wp2_with fail
      with_reducible refine HB.out.mono ?_
      rintro e w1 ⟨A1, n1, c1, rfl, hown1, hb1⟩
      have hl1 := hown1.len
      rw [chO_len] at hl1
      obtain rfl : n1 = 16 := by omega
      have hcap1 := hown1.cap
      have hb01 := hA2.trans (hb1.mono hA2.size)
      have hacc1 := hacc.below hb01
      have hbw1 := hbel.trans (hb01.mono hbel.size)
      have hA3 := (Below.refl w1.heap.size w1).alloc (Nat.le_refl _) (.cells #[.slice A1 16 c1] 42)
      have hacc2 := hacc1.below hA3
      have hbw2 := hbw1.trans (hA3.mono hbw1.size)
      have hrowB := hown1.row.below hA3
      have htyB : ∀ g, blockOf A1 = some g → Typed (w1.alloc (.cells #[.slice A1 16 c1] 42)) g 5 := fun g hg => (hown1.typed g hg).keep (hA3.block g (hown1.typed g hg).lt)
      have hrow2 : RowS encSl 1 (w1.alloc (.cells #[.slice A1 16 c1] 42)) (some ⟨w1.heap.size, 0, none⟩) 1 [(A1, 16, c1)] := rowS_vals encSl_len w1 42 [(A1, 16, c1)] _ rfl 1 rfl
      obtain ⟨S, hSo, hSi⟩ := hacc2
      have HSo := Lib.hid hSo
      have hwb : w.heap.size ≤ w1.heap.size + 1 := by have := hbw1.size; omega
      clear HB hacc hacc1 hown1 hb1 hA1 hA2 hb01 hbw1 hA3 hl1 hbel
      go_wp2_with (at_builtin; refine wpList_append_atS rfl (.tmp 34) (.tmp 40) _ rfl 42 encSl 1 encSl_len (by omega) encSl_one w.heap.size i0 _ 24 Try.underlying22 hi hz0 hz1 rfl hz2 DA j dc S rfl HSo.out (some ⟨w1.heap.size, 0, none⟩) 1 1 [(A1, 16, c1)] rfl hrow2 (by omega) (by omega) (by omega) (by simpa using hwb) ?_)
      intro D3 dc3 w2 hown2 hg2 _
      have hacc3 := AccB.push hSo hSi hown2 hg2 hrowB htyB (oB_bytes chO chO_ok.pr) (by omega) hcap1
      rw [← hCL] at hacc3
      have hbw3 := hbw2.grown hg2 hbw2.size (fun k e => (hSo.from_ k e).1)
      clear hSo hSi HSo hown2 hg2 hrowB htyB hrow2 hbw2 hCL
      go_wp2_with fail
      go_ret
      exact ⟨_, _, rfl, hacc3, hbw3⟩

end Go.Proofs.Ytdaeffnaoeblpaa

namespace Go.Proofs.Ytdaeffnaoeblpaa
open Go.RowKit
set_option linter.unusedVariables false
set_option linter.unusedSimpArgs false

theorem chL_len (n : Nat) (back : Int) : (chL n back).length = n + 1 := by simp [chL]
theorem chL_get (n : Nat) (back : Int) {i : Nat} (h : i < n) : (chL n back).getD i [] = cB (chG (toK n back i)) := by
  unfold chL
  rw [List.getD_eq_getElem?_getD, List.getElem?_append_left (by simp [h])]
  simp [h]
theorem chL_last (n : Nat) (back : Int) : (chL n back).getD n [] = oB chO := by
  unfold chL
  rw [List.getD_eq_getElem?_getD, List.getElem?_append_right (by simp)]
  simp
theorem chL_part (n : Nat) (back : Int) {i : Nat} (h : i < n) (h0 : 0 ≤ toK n back i) (h1 : toK n back i ≤ 65535) : shZ ((chL n back).getD i []) = some ([], [chP (toK n back i)]) := by
  rw [chL_get n back h, shZ_cB _ (chG_ok h0 h1) (chG_right _)]
  rfl
theorem chL_end (n : Nat) (back : Int) : shZ ((chL n back).getD n []) = some ([[(5, 0, false)]], []) := by
  rw [chL_last, shZ_oB _ chO_ok chO_right, chO_cts]

theorem visitZ_part {L : List (List Int)} {k : Nat} {way : List Int} {i : Nat} {m q : Nat} {p : Pt} (h0 : codeE L.length way (i : Int) m = 0) (hs : shZ (L.getD i []) = some ([], [p])) (hq : q ≤ 20000) :
    visitZ L (k + 1) way (i : Int) m q = if (visitZ L k (way ++ [(i : Int)]) p.i (m + 1) q).1 = 0 then (0, (visitZ L k (way ++ [(i : Int)]) p.i (m + 1) q).2.1.map (mvC p), (visitZ L k (way ++ [(i : Int)]) p.i (m + 1) q).2.2.1, (visitZ L k (way ++ [(i : Int)]) p.i (m + 1) q).2.2.2) else ((visitZ L k (way ++ [(i : Int)]) p.i (m + 1) q).1, [], (visitZ L k (way ++ [(i : Int)]) p.i (m + 1) q).2.2.1, (visitZ L k (way ++ [(i : Int)]) p.i (m + 1) q).2.2.2) := by
  rw [visitZ_code, if_pos h0, Int.toNat_natCast, hs]
  unfold stepZ
  simp only
  rw [if_neg (by rw [ptsN_nil]; omega)]
  simp only [ptsN_nil, Nat.add_zero]
  rw [show partsZ (visitZ L k (way ++ [(i : Int)])) [p] [] (m + 1) q = if (visitZ L k (way ++ [(i : Int)]) p.i (m + 1) q).1 = 0 then (0, [] ++ (visitZ L k (way ++ [(i : Int)]) p.i (m + 1) q).2.1.map (mvC p), (visitZ L k (way ++ [(i : Int)]) p.i (m + 1) q).2.2.1, (visitZ L k (way ++ [(i : Int)]) p.i (m + 1) q).2.2.2) else ((visitZ L k (way ++ [(i : Int)]) p.i (m + 1) q).1, [], (visitZ L k (way ++ [(i : Int)]) p.i (m + 1) q).2.2.1, (visitZ L k (way ++ [(i : Int)]) p.i (m + 1) q).2.2.2) from rfl, List.nil_append]
theorem visitZ_pts {L : List (List Int)} {k : Nat} {way : List Int} {i : Nat} {m q : Nat} {cs : List (List Sp)} (h0 : codeE L.length way (i : Int) m = 0) (hs : shZ (L.getD i []) = some (cs, [])) (hq : q + ptsN cs ≤ 20000) : visitZ L (k + 1) way (i : Int) m q = (0, cs, m + 1, q + ptsN cs) := by
  rw [visitZ_code, if_pos h0, Int.toNat_natCast, hs]
  unfold stepZ
  simp only
  rw [if_neg (by omega)]
  unfold partsZ
  rfl

def wayN (i : Nat) : List Int := (List.range i).map (fun (j : Nat) => (j : Int))
theorem wayN_succ (i : Nat) : wayN i ++ [(i : Int)] = wayN (i + 1) := by simp [wayN, List.range_succ]
theorem wayN_len (i : Nat) : (wayN i).length = i := by simp [wayN]
theorem wayN_not (i : Nat) : (wayN i).contains (i : Int) = false := by
  rw [Bool.eq_false_iff]
  intro h
  rw [List.contains_iff_mem] at h
  simp only [wayN, List.mem_map, List.mem_range] at h
  obtain ⟨j, hj, e⟩ := h
  omega
theorem codeE_way {gn i m : Nat} (h1 : i < gn) (h2 : i ≤ 16) (h3 : m ≠ 20000) : codeE gn (wayN i) (i : Int) m = 0 := by
  unfold codeE
  rw [if_neg (by omega), if_neg (by rw [wayN_not]; simp), if_neg (by rw [wayN_len]; omega), if_neg h3]
theorem mv_one (t d : Int) : mvC (chP t) [(5 + d, 0, false)] = [(5 + (d + 1), 0, false)] := by
  have h : mvC (chP t) [(5 + d, 0, false)] = [(rnd (16384 * (5 + d) + 0 * 0) + 1, rnd (0 * (5 + d) + 16384 * 0) + 0, false)] := rfl
  rw [h]
  unfold rnd
  congr 1
  apply Prod.ext
  · simp only; omega
  · apply Prod.ext
    · simp only; omega
    · rfl

theorem deepA {n : Nat} (hn : n ≤ 16) : ∀ (d i : Nat), i + d = n → visitZ (chL n (-1)) (18 - i) (wayN i) (i : Int) i 0 = (0, [[(5 + (d : Int), 0, false)]], n + 1, 1) := by
  intro d
  induction d with
  | zero =>
    intro i hi
    obtain rfl : i = n := by omega
    rw [show 18 - i = (17 - i) + 1 by omega, visitZ_pts (codeE_way (by rw [chL_len]; omega) hn (by omega)) (chL_end i (-1)) (by decide)]
    rfl
  | succ d ih =>
    intro i hi
    have hT : toK n (-1) i = ((i + 1 : Nat) : Int) := by unfold toK; rw [if_neg (by omega)]; omega
    rw [show 18 - i = (17 - i) + 1 by omega, visitZ_part (codeE_way (by rw [chL_len]; omega) (by omega) (by omega)) (chL_part n (-1) (by omega) (by omega) (by omega)) (by omega), wayN_succ]
    have h := ih (i + 1) (by omega)
    rw [show 18 - (i + 1) = 17 - i by omega] at h
    rw [show (chP (toK n (-1) i)).i = ((i + 1 : Nat) : Int) from hT, h]
    simp only [if_true, List.map_cons, List.map_nil, mv_one]
    rw [show ((d + 1 : Nat) : Int) = (d : Int) + 1 by omega]
theorem deepB {n : Nat} (hn : 17 ≤ n) (hn2 : n ≤ 1000) : ∀ (d i : Nat), i + d = 17 → visitZ (chL n (-1)) (18 - i) (wayN i) (i : Int) i 0 = (7, [], 17, 0) := by
  intro d
  induction d with
  | zero =>
    intro i hi
    obtain rfl : i = 17 := by omega
    have hc : codeE (chL n (-1)).length (wayN 17) ((17 : Nat) : Int) 17 = 7 := by
      unfold codeE
      rw [if_neg (by rw [chL_len]; omega), if_neg (by rw [wayN_not]; simp), if_pos (by rw [wayN_len]; omega)]
    rw [show 18 - 17 = 0 + 1 from rfl, visitZ_code, hc, if_neg (by decide)]
  | succ d ih =>
    intro i hi
    have hT : toK n (-1) i = ((i + 1 : Nat) : Int) := by unfold toK; rw [if_neg (by omega)]; omega
    rw [show 18 - i = (17 - i) + 1 by omega, visitZ_part (codeE_way (by rw [chL_len]; omega) (by omega) (by omega)) (chL_part n (-1) (by omega) (by omega) (by omega)) (by omega), wayN_succ]
    have h := ih (i + 1) (by omega)
    rw [show 18 - (i + 1) = 17 - i by omega] at h
    rw [show (chP (toK n (-1) i)).i = ((i + 1 : Nat) : Int) from hT, h]
    rfl
theorem flat_deep {n : Nat} (hn : n ≤ 1000) : flatZ (chL n (-1)) 0 = if 16 < n then (7, [], 17, 0) else (0, [[(5 + (n : Int), 0, false)]], n + 1, 1) := by
  unfold flatZ
  split
  · exact deepB (by omega) hn 17 0 rfl
  · exact deepA (by omega) n 0 (by omega)

def cntW (k : Nat) (way : List Int) : Nat := ((List.range k).filter (fun (j : Nat) => !way.contains (j : Int))).length
theorem filter_less {p p' : Nat → Bool} (i : Nat) (h1 : ∀ j, p' j = true → p j = true) (h2 : p' i = false) (h3 : p i = true) : ∀ l : List Nat, (l.filter p').length ≤ (l.filter p).length ∧ (i ∈ l → (l.filter p').length + 1 ≤ (l.filter p).length)
  | [] => ⟨Nat.le_refl _, fun h => by cases h⟩
  | x :: l => by
    obtain ⟨a, b⟩ := filter_less i h1 h2 h3 l
    rw [List.filter_cons, List.filter_cons]
    by_cases hx : p' x = true
    · rw [if_pos hx, if_pos (h1 x hx)]
      refine ⟨by simp; exact a, fun hi => ?_⟩
      rcases List.mem_cons.1 hi with rfl | hi
      · rw [h2] at hx; cases hx
      · have := b hi; simp; omega
    · rw [if_neg hx]
      by_cases hp : p x = true
      · rw [if_pos hp]
        refine ⟨by simp; omega, fun _ => by simp; omega⟩
      · rw [if_neg hp]
        refine ⟨a, fun hi => ?_⟩
        rcases List.mem_cons.1 hi with rfl | hi
        · exact absurd h3 hp
        · exact b hi
theorem cntW_step {k i : Nat} {way : List Int} (hi : i < k) (h : way.contains (i : Int) = false) : cntW k (way ++ [(i : Int)]) + 1 ≤ cntW k way := by
  unfold cntW
  refine (filter_less i (fun j hj => ?_) ?_ ?_ (List.range k)).2 (List.mem_range.2 hi)
  · simp at hj ⊢
    exact hj.1
  · simp
  · simp at h ⊢
    exact h

theorem cyc {k b : Nat} (hk : k ≤ 16) (hb : b < k) : ∀ (f : Nat) (way : List Int) (i : Nat), i < k → way.length + cntW k way ≤ k → f + way.length = 18 → (visitZ (chL k (b : Int)) f way (i : Int) way.length 0).1 = 8 := by
  intro f
  induction f with
  | zero => intro way i hi h1 h2; omega
  | succ f ih =>
    intro way i hi h1 h2
    cases hc : way.contains (i : Int) with
    | true =>
      have hcode : codeE (chL k (b : Int)).length way (i : Int) way.length = 8 := by
        unfold codeE
        rw [if_neg (by rw [chL_len]; omega), if_pos hc]
      rw [visitZ_code, hcode, if_neg (by decide)]
    | false =>
      have hst := cntW_step hi hc
      have hcode : codeE (chL k (b : Int)).length way (i : Int) way.length = 0 := by
        unfold codeE
        rw [if_neg (by rw [chL_len]; omega), if_neg (by rw [hc]; simp), if_neg (by omega), if_neg (by omega)]
      obtain ⟨t, ht, htk⟩ : ∃ t : Nat, toK k (b : Int) i = (t : Int) ∧ t < k := by
        unfold toK
        by_cases h : i + 1 = k
        · exact ⟨b, by rw [if_pos ⟨h, by omega⟩], hb⟩
        · exact ⟨i + 1, by rw [if_neg (by omega)]; omega, by omega⟩
      have h := ih (way ++ [(i : Int)]) t htk (by rw [List.length_append, List.length_singleton]; omega) (by rw [List.length_append, List.length_singleton]; omega)
      rw [List.length_append, List.length_singleton] at h
      rw [visitZ_part hcode (chL_part k _ hi (by omega) (by omega)) (by omega)]
      rw [show (chP (toK k (b : Int) i)).i = (t : Int) from ht]
      generalize visitZ (chL k (b : Int)) f (way ++ [(i : Int)]) (t : Int) (way.length + 1) 0 = r at *
      rw [if_neg (by omega)]
      exact h
theorem flat_cyc {k b i : Nat} (hk : k ≤ 16) (hb : b < k) (hi : i < k) : (flatZ (chL k (b : Int)) (i : Int)).1 = 8 ∧ (flatZ (chL k (b : Int)) (i : Int)).2.1 = [] := by
  have h : (flatZ (chL k (b : Int)) (i : Int)).1 = 8 := by
    unfold flatZ
    refine cyc hk hb 18 [] i hi ?_ rfl
    have : cntW k [] ≤ (List.range k).length := List.length_filter_le _ _
    simp at this ⊢
    exact this
  exact ⟨h, (visitZ_ok _ 18 [] (i : Int) 0 0).no (by show ¬ (flatZ (chL k (b : Int)) (i : Int)).1 = 0; omega)⟩
theorem flat_last {k : Nat} (back : Int) : flatZ (chL k back) (k : Int) = (0, [[(5, 0, false)]], 1, 1) := by
  have h : (chL k back)[k]? = some (oB chO) := by
    unfold chL
    rw [List.getElem?_append_right (by simp)]
    simp
  refine flatZ_leaf h ?_ (by decide)
  rw [shZ_oB _ chO_ok chO_right, chO_cts]

end Go.Proofs.Ytdaeffnaoeblpaa

namespace Go.Proofs.Ytdaeffnaoeblpaa
open Go.RowKit
set_option linter.unusedVariables false
set_option linter.unusedSimpArgs false

theorem Try.cpinfoO : (Try.prog.info? 46).map (fun i => (i.zero, i.size, i.bytes)) = some (some (.agg #[.int .u16 0, .int .u16 0, .int .i16 0, .int .i16 0, .int .i16 0, .int .i16 0, .int .i16 0, .int .i16 0]), 8, 16) := by kernel_rfl
def pM (tg : Int) : Pt := ⟨2, tg, 0, 0, 16384, 0, 0, 16384⟩
def mG (k : Nat) (tg : Int) : Cg := ⟨0, 0, 0, 0, List.replicate k (pM tg), []⟩
theorem pM_right (tg : Int) : ptRight (pM tg) = true := by kernel_rfl
theorem pM_ok {tg : Int} (h0 : 0 ≤ tg) (h1 : tg ≤ 65535) : (pM tg).ok := ⟨by simp [pM], ⟨h0, h1⟩, by simp [pM], by simp [pM], by simp [pM], by simp [pM], by simp [pM], by simp [pM]⟩
theorem mG_right {k : Nat} (tg : Int) (h1 : 1 ≤ k) (h2 : k ≤ 200) : cRight (mG k tg) = true := by
  have hp : partsOk (List.replicate k (pM tg)) k = true := by
    unfold partsOk
    rw [List.all_eq_true]
    intro i hi
    have hi2 := List.mem_range.1 hi
    rw [List.getElem?_replicate, if_pos hi2]
    simp only
    rw [pM_right, show fb (pM tg).f 256 = false from (by decide : fb 2 256 = false)]
    simp
  unfold cRight mG
  simp only [List.length_replicate, List.length_nil, hp]
  rw [decide_eq_true h1, decide_eq_true h2]
  simp
theorem mG_ok {k : Nat} {tg : Int} (h0 : 0 ≤ tg) (h1 : tg ≤ 65535) : (mG k tg).ok := by
  refine ⟨fun x hx => ?_, fun p hp => ?_, fun x hx => by cases hx⟩
  · simp [mG] at hx; omega
  · rw [(List.mem_replicate.1 hp).2]
    exact pM_ok h0 h1
theorem mG_len {k : Nat} (tg : Int) : (cB (mG k tg)).length ≤ 20 + 16 * k := by
  have h := ptsB_len (List.replicate k (pM tg)) k
  have hc : (if codeB (List.replicate k (pM tg)) then b2 (([] : List Int).length : Nat) ++ [] else []).length ≤ 10 := by
    split
    · exact (by decide : (b2 ((0 : Nat) : Int) ++ []).length ≤ 10)
    · exact Nat.zero_le _
  have hb : (b2 65535 ++ boxB [0, 0, 0, 0]).length = 10 := by decide
  unfold cB mG
  simp only [List.length_append, List.length_replicate] at *
  omega

/-- A glyph under way, with parts of its own. -/
structure CM (w wr : World) (bx : Nat) (QA : Option Addr) (q qc : Nat) (ps : List Pt) : Prop where
  box : wr.heap[bx]? = some (.cells #[.int .i16 0, .int .i16 0, .int .i16 0, .int .i16 0, .slice QA q qc, .slice none 0 0] 49 (0, 0))
  qa : OwnS 46 encPt 8 wr w.heap.size QA q qc ps
  bel : Below w.heap.size w wr
  lx : w.heap.size ≤ bx
section
variable {w wr w' : World} {bx q qc : Nat} {QA : Option Addr} {ps : List Pt}
theorem CM.below (h : CM w wr bx QA q qc ps) (hb : Below wr.heap.size wr w') : CM w w' bx QA q qc ps := ⟨kept_block h.box hb, h.qa.below hb, h.bel.trans (hb.mono h.bel.size), h.lx⟩
theorem CM.box2 (h : CM w wr bx QA q qc ps) (hg : wr.grownBy w' (blockOf QA)) : w'.heap[bx]? = some (.cells #[.int .i16 0, .int .i16 0, .int .i16 0, .int .i16 0, .slice QA q qc, .slice none 0 0] 49 (0, 0)) :=
  (hg.block bx (lt_of_block h.box) (fun e => ((h.qa.typed bx e.symm).ne ⟨_, h.box⟩ (by decide)) rfl)).trans h.box
theorem CM.app (h : CM w wr bx QA q qc ps) {A2 : Option Addr} {n2 c2 : Nat} {ps2 : List Pt} (ho : OwnS 46 encPt 8 w' w.heap.size A2 n2 c2 ps2) (hg : wr.grownBy w' (blockOf QA)) : CM w (w'.setCell ⟨bx, 4, none⟩ (.slice A2 n2 c2)) bx A2 n2 c2 ps2 := by
  have h2 := h.box2 hg
  exact ⟨by have := set_block h2 4 (.slice A2 n2 c2); simpa using this, ho.keep (fun g e => Below.heap_setCell _ _ _ _ ((ho.typed g e).ne ⟨_, h2⟩ (by decide))), (h.bel.grown hg h.bel.size (fun g e => (h.qa.from_ g e).1)).setCell (p := ⟨bx, 4, none⟩) h.lx _, h.lx⟩
theorem CM.rows (h : CM w wr bx QA q qc ps) : CgV.rows wr ⟨⟨0, 0, 0, 0, ps, []⟩, QA, q, qc, none, 0, 0⟩ := ⟨h.qa.row encPt_len, Row.empty _ _⟩
end

set_option maxRecDepth 1000000 in
set_option maxHeartbeats 4000000 in
theorem many_any (N : Nat) (tg : Int) (w : World) (hN : N ≤ 200) (hN1 : 1 ≤ N) (h0 : 0 ≤ tg) (h1 : tg ≤ 65535) : Calls Try.prog 31 #[.int .i64 N, .int .u16 tg] w (RetB w (cB (mG N tg))) := by
  obtain ⟨i1, hi1, hz01, hz11, hz21⟩ := info_parts Try.cpinfoO
  have hA := (Below.refl w.heap.size w).alloc (Nat.le_refl _) (.cells #[.int .i16 0, .int .i16 0, .int .i16 0, .int .i16 0, .slice none 0 0, .slice none 0 0] 49)
  have hk := heap_alloc_new w (.cells #[.int .i16 0, .int .i16 0, .int .i16 0, .int .i16 0, .slice none 0 0, .slice none 0 0] 49)
  have hs : CM w (w.alloc (.cells #[.int .i16 0, .int .i16 0, .int .i16 0, .int .i16 0, .slice none 0 0, .slice none 0 0] 49)) w.heap.size none 0 0 [] := ⟨hk, OwnS.nil _ _ _ _ _, hA, Nat.le_refl _⟩
  clear hA hk
  go_enter Try.func31, Try.ntmps31
  go_wp2_with fail
  generalize w.alloc _ = V0 at *
  generalize hbx : w.heap.size = bx at hs ⊢
  go_loopw [7] (fun i' wr => ∃ (k : Nat) (QA : Option Addr) (qc : Nat), k ≤ N ∧ i' = .int .i64 k ∧ CM w wr bx QA k qc (List.replicate k (pM tg))) (fun i' _ => N - (intOf i').toNat)
  case atStart => exact ⟨0, none, 0, Nat.zero_le _, rfl, hs⟩
  case round =>
    clear hs
    obtain ⟨k, QA, qc, hk, rfl, hs⟩ := hrel
    by_cases hlt : k < N
    · have HRe : Hid (List.replicate k (pM tg) ++ [pM tg] = List.replicate (k + 1) (pM tg)) := by show _ = _; rw [List.replicate_succ']
      go_upto_region 4 with fail
      replace hs := hs.below (Below.refl wr.heap.size wr).drew
      have hx0 : Ext wr.drew wr.drew := Ext.refl _
      obtain ⟨c0, c1, c2, c3, c4, c5⟩ := cells6 hs.box
      refine regT_start 6 (Ext wr.drew) (by kernel_rfl) ?_
      generalize wr.drew = V at *
      refine regT_take (i := 0) (d := some 9) (v := ?_) [1] hx0 rfl rfl (by kernel_rfl) (by kernel_rfl) (by kernel_rfl) (by kernel_rfl) (by kernel_rfl) (by decide) (fun _ _ _ h => h) (Or.inl ⟨by rfl, ?_⟩) ?_
      rotate_left
      · intro w' hx; (go_simp <;> with_reducible rfl)
      simp only [Act.put, List.setIfInBounds_toArray, List.set_cons_zero, List.set_cons_succ]
      refine regT_take (i := 1) (d := some 10) (v := ?_) [] hx0 rfl rfl (by kernel_rfl) (by kernel_rfl) (by kernel_rfl) (by kernel_rfl) (by kernel_rfl) (by decide) (fun _ _ _ h => h) (Or.inl ⟨by rfl, ?_⟩) ?_
      rotate_left
      · intro w' hx; obtain ⟨q0, q1, q2, q3, q4, q5⟩ := cells6 (kept_block hs.box hx); (go_simp <;> with_reducible rfl)
      simp only [Act.put, List.setIfInBounds_toArray, List.set_cons_zero, List.set_cons_succ]
      refine regT_take (i := 2) (d := some 11) (v := ?_) [5, 4] hx0 rfl rfl (by kernel_rfl) (by kernel_rfl) (by kernel_rfl) (by kernel_rfl) (by kernel_rfl) (by decide) (fun _ _ _ h => h) (Or.inl ⟨by rfl, ?_⟩) ?_
      rotate_left
      · intro w' hx; (go_simp <;> with_reducible rfl)
      simp only [Act.put, List.setIfInBounds_toArray, List.set_cons_zero, List.set_cons_succ]
      refine regT_one 3 _ (by kernel_rfl) rfl ?_
      intro K hK
      go_simp
      refine (unit_any _).mono ?_
      rintro e W1 ⟨rfl, hb1⟩
      have hX1 := hx0.call hb1
      have hs1 := hs.below hb1
      refine hK.out _ _ (fun _ => hX1) ?_
      clear hK K
      refine regT_one 4 _ (by kernel_rfl) rfl ?_
      intro K hK
      go_simp
      refine hK.out _ _ (fun _ => hX1) ?_
      clear hK K
      refine regT_one 5 _ (by kernel_rfl) rfl ?_
      intro K hK
      go_simp
      have hA := (Below.refl W1.heap.size W1).alloc (Nat.le_refl _) (.cells #[.int .u16 2, .int .u16 tg, .int .i16 0, .int .i16 0, .int .i16 16384, .int .i16 0, .int .i16 0, .int .i16 16384] 46)
      have hX2 := hX1.new (.cells #[.int .u16 2, .int .u16 tg, .int .i16 0, .int .i16 0, .int .i16 16384, .int .i16 0, .int .i16 0, .int .i16 16384] 46)
      have hs2 := hs1.below hA
      have hrow := rowS_vals encPt_len W1 46 [pM tg] #[.int .u16 2, .int .u16 tg, .int .i16 0, .int .i16 0, .int .i16 16384, .int .i16 0, .int .i16 0, .int .i16 16384] rfl 1 rfl
      refine hK.out _ _ (fun _ => hX2) ?_
      clear hK K
      clear hs hs1 hb1 hA hX1 hx0 c0 c1 c2 c3 c4 c5
      have hsz := hs2.bel.size
      refine regT_one 6 _ (by kernel_rfl) rfl ?_
      intro K hK
      refine step_append_rowS rfl (.tmp 10) (.tmp 14) _ rfl 46 encPt 8 encPt_len (by omega) encPt_one w.heap.size i1 _ 16 Try.underlying47 hi1 hz01 hz11 rfl hz21 QA k qc (List.replicate k (pM tg)) rfl hs2.qa (some ⟨W1.heap.size, 0, none⟩) 1 1 [pM tg] rfl hrow (by omega) (by omega) hsz ?_
      intro A3 c3 W3 ho3 hg3
      have hb3 := hs2.box2 hg3
      have hs3 := hs2.app ho3 hg3
      rw [HRe.out] at hs3
      refine hK.out _ _ (fun h => absurd h (by decide)) ?_
      clear hK K ho3 hg3 hrow hs2
      simp only [Act.put, List.setIfInBounds_toArray, List.set_cons_zero, List.set_cons_succ]
      refine regT_one 7 _ (by kernel_rfl) rfl ?_
      intro K hK
      go_simp
      refine hK.out _ _ (fun h => absurd h (by decide)) ?_
      clear hK K
      refine regT_one 8 _ (by kernel_rfl) rfl ?_
      intro K hK
      obtain ⟨z0, z1, z2, z3, z4, z5⟩ := cells6 hb3
      have zf := thawed hb3
      go_simp
      refine hK.out _ _ (fun h => absurd h (by decide)) ?_
      clear hK K
      clear hb3
      refine regT_done (by kernel_rfl) ?_ _
      go_wp2
      go_roundw
      case rel => exact ⟨k + 1, A3, c3, by omega, by go_num, hs3⟩
      case measure => simp [intOf]; omega
    · obtain rfl : k = N := by omega
      obtain ⟨c0, c1, c2, c3, c4, c5⟩ := cells6 hs.box
      have hB : Hid (Calls Try.prog 20 #[.agg #[.int .i16 0, .int .i16 0, .int .i16 0, .int .i16 0, .slice QA k qc, .slice none 0 0]] wr (RetB wr (cB (mG k tg)))) := by
        have h := cbytes_any ⟨mG k tg, QA, k, qc, none, 0, 0⟩ wr hs.rows (by show k ≤ 1000000; omega) (by show 0 ≤ 1000000; omega) (mG_ok h0 h1)
        unfold cBytes at h
        rw [if_pos (mG_right tg hN1 hN)] at h
        exact h
      have hbel := hs.bel
      go_wp2_with fail
      with_reducible refine hB.out.mono ?_
      rintro e w2 ⟨A2, n2, c2', rfl, ho2, hb2⟩
      have ho3 := ho2.mono hbel.size
      have hbf := hbel.trans (hb2.mono hbel.size)
      go_wp2_with fail
      go_ret
      exact ⟨_, _, _, rfl, ho3, hbf⟩

end Go.Proofs.Ytdaeffnaoeblpaa

namespace Go.Proofs.Ytdaeffnaoeblpaa
open Go.RowKit
set_option linter.unusedVariables false
set_option linter.unusedSimpArgs false

def zG (k : Nat) : Gl := ⟨0, 0, 0, 0, [(k : Int) - 1], [], List.replicate k (0, 0, false)⟩
def zC (k : Nat) : List Sp := List.replicate k (0, 0, false)
theorem Try.spinfoW : (Try.prog.info? 54).map (fun i => (i.zero, i.size, i.bytes)) = some (some (.agg #[.int .i16 0, .int .i16 0, .bool false]), 3, 6) := by kernel_rfl
theorem oB_lenW {g : Gl} (h1 : g.es.length ≤ 100) (h2 : g.pr.length ≤ 100) (h3 : g.ps.length ≤ 1000) : (oB g).length ≤ 7000 := by
  have a1 := rle_len (fls g.ps)
  have a2 := cbs_len (chs (xsOf g.ps))
  have a3 := cbs_len (chs (ysOf g.ps))
  unfold fls at a1
  rw [flK_len] at a1
  rw [chs_len, xsOf_len] at a2
  rw [chs_len, ysOf_len] at a3
  unfold oB
  simp only [List.length_append, oFront_len]
  unfold fls
  omega
theorem zG_ok {k : Nat} (h1 : 1 ≤ k) (h2 : k ≤ 1000) : (zG k).ok := by
  refine ⟨fun x hx => ?_, fun x hx => ?_, fun x hx => ?_, fun p hp => ?_⟩
  · simp [zG, Gl.box] at hx; omega
  · simp [zG] at hx; omega
  · cases hx
  · rw [(List.mem_replicate.1 hp).2]; exact ⟨⟨by decide, by decide⟩, by decide, by decide⟩
theorem fit_zero (l : List Int) (h : ∀ x ∈ l, x = 0) : fitL (chs l) = true := by
  unfold fitL
  rw [List.all_eq_true]
  intro d hd
  unfold chs chK at hd
  simp only [List.mem_map, List.mem_range] at hd
  obtain ⟨i, hi, rfl⟩ := hd
  have hz : ∀ j, l.getD j 0 = 0 := fun j => by
    rw [List.getD_eq_getElem?_getD]
    cases hj : l[j]? with
    | none => rfl
    | some x => exact h x (List.mem_of_getElem? hj)
  unfold chA
  rw [hz, hz]
  split <;> decide
theorem zG_right {k : Nat} (h1 : 1 ≤ k) (h2 : k ≤ 1000) : oRight (zG k) = true := by
  have hx := fit_zero (xsOf (zG k).ps) (fun x hx => by
    simp only [zG, xsOf, List.map_replicate] at hx
    exact (List.mem_replicate.1 hx).2)
  have hy := fit_zero (ysOf (zG k).ps) (fun x hx => by
    simp only [zG, ysOf, List.map_replicate] at hx
    exact (List.mem_replicate.1 hx).2)
  have hc : (zG k).ps.length = cntE (zG k).es := by
    simp [zG, cntE]
    omega
  have hr : riseN (zG k).es (zG k).es.length = true := by
    simp [zG, riseN, riseA, List.range_succ]
  unfold oRight
  rw [hr, hx, hy, decide_eq_true hc]
  simp [zG]
theorem zG_cts {k : Nat} (h1 : 1 ≤ k) (h2 : k ≤ 1000) : ctsG (zG k) = [zC k] := by
  unfold ctsG
  rw [if_pos (zG_right h1 h2)]
  have h : seg (zG k).ps (zG k).es 0 = zC k := by
    unfold seg segF segT
    simp [zG, zC]
    omega
  show (List.range 1).map _ = _
  simp [List.range_succ, h]
theorem zC_mv (k : Nat) (t : Int) : mvC (pM t) (zC k) = zC k := by
  unfold mvC zC
  rw [List.map_replicate]
  rfl
theorem zC_pts (k n : Nat) : ptsN (List.replicate n (zC k)) = n * k := by
  unfold ptsN zC
  simp
def overL (k n : Nat) : List (List Int) := [cB (mG n 1), oB (zG k)]
theorem over1 {k n m q : Nat} (hk1 : 1 ≤ k) (hk2 : k ≤ 1000) (hm : m < 20000) : visitZ (overL k n) 17 [0] 1 m q = if 20000 < q + k then (9, [], m + 1, q + k) else (0, [zC k], m + 1, q + k) := by
  have hl : (overL k n).length = 2 := rfl
  have hc : codeE 2 [0] 1 m = 0 := by
    unfold codeE
    rw [if_neg (by omega), if_neg (by decide), if_neg (by decide), if_neg (by omega)]
  rw [visitZ_code, hl, if_pos hc, show (overL k n).getD ((1 : Int).toNat) [] = oB (zG k) from rfl, shZ_oB _ (zG_ok hk1 hk2) (zG_right hk1 hk2), zG_cts hk1 hk2]
  have hp : ptsN [zC k] = k := by
    have h := zC_pts k 1
    rw [Nat.one_mul] at h
    exact h
  unfold stepZ
  simp only [hp]
  split
  · rfl
  · rfl
theorem overN {k N : Nat} (hk1 : 1 ≤ k) (hk2 : k ≤ 1000) : ∀ (n j m q : Nat), m + n ≤ 1000 → q ≤ 20000 →
    (q + n * k ≤ 20000 → partsZ (visitZ (overL k N) 17 [0]) (List.replicate n (pM 1)) (List.replicate j (zC k)) m q = (0, List.replicate (j + n) (zC k), m + n, q + n * k)) ∧
    (20000 < q + n * k → (partsZ (visitZ (overL k N) 17 [0]) (List.replicate n (pM 1)) (List.replicate j (zC k)) m q).1 = 9 ∧ (partsZ (visitZ (overL k N) 17 [0]) (List.replicate n (pM 1)) (List.replicate j (zC k)) m q).2.1 = [])
  | 0, j, m, q, _, hq => by
    rw [Nat.zero_mul]
    exact ⟨fun _ => rfl, fun h => by omega⟩
  | n + 1, j, m, q, hm, hq => by
    have h1 := over1 (k := k) (n := N) (m := m) (q := q) hk1 hk2 (by omega)
    have hmul : (n + 1) * k = n * k + k := by rw [Nat.succ_mul]
    have hstep : partsZ (visitZ (overL k N) 17 [0]) (List.replicate (n + 1) (pM 1)) (List.replicate j (zC k)) m q = if (visitZ (overL k N) 17 [0] 1 m q).1 = 0 then partsZ (visitZ (overL k N) 17 [0]) (List.replicate n (pM 1)) (List.replicate j (zC k) ++ (visitZ (overL k N) 17 [0] 1 m q).2.1.map (mvC (pM 1))) (visitZ (overL k N) 17 [0] 1 m q).2.2.1 (visitZ (overL k N) 17 [0] 1 m q).2.2.2 else ((visitZ (overL k N) 17 [0] 1 m q).1, [], (visitZ (overL k N) 17 [0] 1 m q).2.2.1, (visitZ (overL k N) 17 [0] 1 m q).2.2.2) := by
      rw [List.replicate_succ]
      rfl
    rw [hstep, h1]
    by_cases ho : 20000 < q + k
    · rw [if_pos ho]
      exact ⟨fun h => by omega, fun _ => ⟨rfl, rfl⟩⟩
    · rw [if_neg ho]
      simp only [if_true, List.map_cons, List.map_nil, zC_mv]
      have hrep : List.replicate j (zC k) ++ [zC k] = List.replicate (j + 1) (zC k) := by rw [List.replicate_succ']
      rw [hrep]
      obtain ⟨a, b⟩ := overN (N := N) hk1 hk2 n (j + 1) (m + 1) (q + k) (by omega) (by omega)
      refine ⟨fun h => ?_, fun h => ?_⟩
      · rw [a (by omega), show j + 1 + n = j + (n + 1) by omega, show m + 1 + n = m + (n + 1) by omega, show q + k + n * k = q + (n + 1) * k by omega]
      · exact b (by omega)
theorem flat_over {k n : Nat} (hk1 : 1 ≤ k) (hk2 : k ≤ 1000) (hn1 : 1 ≤ n) (hn2 : n ≤ 200) :
    (n * k ≤ 20000 → flatZ (overL k n) 0 = (0, List.replicate n (zC k), 1 + n, n * k)) ∧ (20000 < n * k → (flatZ (overL k n) 0).1 = 9 ∧ (flatZ (overL k n) 0).2.1 = []) := by
  have hl : (overL k n).length = 2 := rfl
  have hs : shZ (cB (mG n 1)) = some ([], List.replicate n (pM 1)) := by
    rw [shZ_cB _ (mG_ok (by decide) (by decide)) (mG_right 1 hn1 hn2)]
    rfl
  have e : flatZ (overL k n) 0 = partsZ (visitZ (overL k n) 17 [0]) (List.replicate n (pM 1)) [] 1 0 := by
    unfold flatZ
    rw [visitZ_code, hl, if_pos (by decide), show (overL k n).getD ((0 : Int).toNat) [] = cB (mG n 1) from rfl, hs]
    unfold stepZ
    simp only
    rw [if_neg (by decide)]
    rfl
  obtain ⟨a, b⟩ := overN (N := n) hk1 hk2 n 0 1 0 (by omega) (by omega)
  rw [Nat.zero_add, Nat.zero_add] at a
  rw [Nat.zero_add] at b
  rw [e]
  exact ⟨a, b⟩

set_option maxRecDepth 1000000 in
set_option maxHeartbeats 8000000 in
theorem law_FlatOver (x y : Int) (w : World) (h0 : 0 ≤ x) (h1 : x ≤ 255) (h2 : 0 ≤ y) (h3 : y ≤ 255) : Calls Try.prog 7 #[.int .u8 x, .int .u8 y] w (True_ w) := by
  obtain ⟨i1, hi1, hz01, hz11, hz21⟩ := info_parts Try.cpinfoO
  obtain ⟨i0, hi, hz0, hz1, hz2⟩ := info_parts Try.spinfoW
  have HAw := Lib.hid (awake14_any w)
  obtain ⟨m, hm⟩ : ∃ m : Nat, y % 200 = (m : Int) := ⟨(y % 200).toNat, by omega⟩
  have htm : Int.tmod y 200 = (m : Int) := by rw [Int.tmod_eq_emod_of_nonneg h2]; exact hm
  have hm2 : m < 200 := by omega
  obtain ⟨k, hk⟩ : ∃ k : Nat, 100 + x = (k : Int) := ⟨(100 + x).toNat, by omega⟩
  obtain ⟨n, hn⟩ : ∃ n : Nat, 1 + (m : Int) = (n : Int) := ⟨m + 1, by omega⟩
  have hk1 : 100 ≤ k ∧ k ≤ 355 := by omega
  have hn1 : 1 ≤ n ∧ n ≤ 200 := by omega
  obtain ⟨hF1, hF2⟩ := flat_over (k := k) (n := n) (by omega) (by omega) hn1.1 hn1.2
  obtain ⟨P, hP⟩ : ∃ P : Nat, P = n * k := ⟨_, rfl⟩
  have hPi : (k : Int) * (n : Int) = (P : Int) := by rw [hP, Int.mul_comm]; exact (Int.natCast_mul n k).symm
  have hPb : P ≤ 71000 := by rw [hP]; exact Nat.mul_le_mul hn1.2 hk1.2
  rw [← hP] at hF1 hF2
  have hpts : ptsN (List.replicate n (zC k)) = P := by rw [zC_pts, hP]
  have hBa := cB_bytes (mG n 1) (mG_ok (by decide) (by decide)) (mG_right 1 hn1.1 hn1.2)
  have hla := mG_len (k := n) 1
  have hBb := oB_bytes (zG k) (zG_ok (by omega) (by omega)).pr
  have hlb := oB_lenW (g := zG k) (by show 1 ≤ 100; omega) (by show 0 ≤ 100; omega) (by show (List.replicate k _).length ≤ 1000; rw [List.length_replicate]; omega)
  clear hm hP
  go_enter Try.func7, Try.ntmps7
  go_wp2_with fail
  with_reducible refine HAw.out.mono ?_
  rintro e w0 ⟨rfl, hb0⟩
  clear HAw
  go_wp2_with (at_make; refine wpList_make_S rfl (.tmp 21) (.tmp 21) _ rfl 54 encSp 3 encSp_len (by omega) w.heap.size i0 _ (0, 0, false) 6 Try.underlying35 hi hz0 hz1 rfl hz2 _ _ k rfl rfl rfl rfl (by omega) (by omega) hb0.size ?_; intro w1 hown1 hg1)
  have hb1 := below_of_grown hg1 (Nat.le_refl _) (fun k e => by cases e)
  have hbw1 := hb0.trans (hb1.mono hb0.size)
  have hp1 := hown1.row encSp_len
  have hA2 := (Below.refl w1.heap.size w1).alloc (Nat.le_refl _) (.cells #[.int .u16 ((k : Int) - 1)] 39)
  have hA3 := hA2.alloc hA2.size (.cells #[.int .i16 0, .int .i16 0, .int .i16 0, .int .i16 0, .slice (some ⟨w1.heap.size, 0, none⟩) 1 1, .slice none 0 0, .slice (some ⟨w0.heap.size, 0, none⟩) k k] 44)
  have hk3 : ((w1.alloc (.cells #[.int .u16 ((k : Int) - 1)] 39)).alloc (.cells #[.int .i16 0, .int .i16 0, .int .i16 0, .int .i16 0, .slice (some ⟨w1.heap.size, 0, none⟩) 1 1, .slice none 0 0, .slice (some ⟨w0.heap.size, 0, none⟩) k k] 44)).heap[w1.heap.size + 1]? = some (.cells #[.int .i16 0, .int .i16 0, .int .i16 0, .int .i16 0, .slice (some ⟨w1.heap.size, 0, none⟩) 1 1, .slice none 0 0, .slice (some ⟨w0.heap.size, 0, none⟩) k k] 44 (0, 0)) := by
    have h := heap_alloc_new (w1.alloc (.cells #[.int .u16 ((k : Int) - 1)] 39)) (.cells #[.int .i16 0, .int .i16 0, .int .i16 0, .int .i16 0, .slice (some ⟨w1.heap.size, 0, none⟩) 1 1, .slice none 0 0, .slice (some ⟨w0.heap.size, 0, none⟩) k k] 44)
    rwa [show (w1.alloc (.cells #[.int .u16 ((k : Int) - 1)] 39)).heap.size = w1.heap.size + 1 by simp] at h
  have hes3 : Row ((w1.alloc (.cells #[.int .u16 ((k : Int) - 1)] 39)).alloc (.cells #[.int .i16 0, .int .i16 0, .int .i16 0, .int .i16 0, .slice (some ⟨w1.heap.size, 0, none⟩) 1 1, .slice none 0 0, .slice (some ⟨w0.heap.size, 0, none⟩) k k] 44)) (some ⟨w1.heap.size, 0, none⟩) 1 (cellsOf .u16 [(k : Int) - 1]) := (row_one w1 .u16 ((k : Int) - 1) 39).below ((Below.refl _ _).alloc (Nat.le_refl _) _)
  have hp3 := hp1.below hA3
  have hbw3 := hbw1.trans (hA3.mono hbw1.size)
  clear hown1 hg1 hb1 hp1 hA2 hA3
  go_upto_region 6 with fail
  generalize hWb : (w1.alloc (.cells #[.int .u16 ((k : Int) - 1)] 39)).alloc (.cells #[.int .i16 0, .int .i16 0, .int .i16 0, .int .i16 0, .slice (some ⟨w1.heap.size, 0, none⟩) 1 1, .slice none 0 0, .slice (some ⟨w0.heap.size, 0, none⟩) k k] 44) = Wb at *
  have hA4 := (Below.refl Wb.heap.size Wb).alloc (Nat.le_refl _) (.cells #[.int .i16 0, .int .i16 0, .int .i16 0, .int .i16 0, .slice none 0 0, .slice none 0 0] 49)
  have hk4 := heap_alloc_new Wb (.cells #[.int .i16 0, .int .i16 0, .int .i16 0, .int .i16 0, .slice none 0 0, .slice none 0 0] 49)
  have hs : CM Wb (Wb.alloc (.cells #[.int .i16 0, .int .i16 0, .int .i16 0, .int .i16 0, .slice none 0 0, .slice none 0 0] 49)) Wb.heap.size none 0 0 [] := ⟨hk4, OwnS.nil _ _ _ _ _, hA4, Nat.le_refl _⟩
  have hWs : w1.heap.size + 1 + 1 = Wb.heap.size := by rw [← hWb]; simp
  clear hA4 hk4 hWb hi hz0 hz1 hz2
  rw [hWs]
  generalize Wb.alloc _ = V0 at *
  generalize hbx : Wb.heap.size = bx at hs ⊢
  go_loopw [30] (fun i' wr => ∃ (k' : Nat) (QA : Option Addr) (qc : Nat), k' ≤ n ∧ i' = .int .i64 k' ∧ CM Wb wr bx QA k' qc (List.replicate k' (pM 1))) (fun i' _ => n - (intOf i').toNat)
  case atStart => exact ⟨0, none, 0, Nat.zero_le _, rfl, hs⟩
  case round =>
    clear hs
    obtain ⟨k', QA, qc, hkk, rfl, hs⟩ := hrel
    by_cases hlt : k' < n
    · have HRe : Hid (List.replicate k' (pM 1) ++ [pM 1] = List.replicate (k' + 1) (pM 1)) := by show _ = _; rw [List.replicate_succ']
      go_upto_region 9 with fail
      replace hs := hs.below (Below.refl wr.heap.size wr).drew
      have hx0 : Ext wr.drew wr.drew := Ext.refl _
      obtain ⟨c0, c1, c2, c3, c4, c5⟩ := cells6 hs.box
      refine regT_start 5 (Ext wr.drew) (by kernel_rfl) ?_
      generalize wr.drew = V at *
      refine regT_take (i := 0) (d := some 32) (v := ?_) [1] hx0 rfl rfl (by kernel_rfl) (by kernel_rfl) (by kernel_rfl) (by kernel_rfl) (by kernel_rfl) (by decide) (fun _ _ _ h => h) (Or.inl ⟨by rfl, ?_⟩) ?_
      rotate_left
      · intro w' hx; (go_simp <;> with_reducible rfl)
      simp only [Act.put, List.setIfInBounds_toArray, List.set_cons_zero, List.set_cons_succ]
      refine regT_take (i := 1) (d := some 33) (v := ?_) [] hx0 rfl rfl (by kernel_rfl) (by kernel_rfl) (by kernel_rfl) (by kernel_rfl) (by kernel_rfl) (by decide) (fun _ _ _ h => h) (Or.inl ⟨by rfl, ?_⟩) ?_
      rotate_left
      · intro w' hx; obtain ⟨q0, q1, q2, q3, q4, q5⟩ := cells6 (kept_block hs.box hx); (go_simp <;> with_reducible rfl)
      simp only [Act.put, List.setIfInBounds_toArray, List.set_cons_zero, List.set_cons_succ]
      refine regT_one 2 _ (by kernel_rfl) rfl ?_
      intro K hK
      go_simp
      refine (unit_any _).mono ?_
      rintro e W1 ⟨rfl, hb1⟩
      have hX1 := hx0.call hb1
      have hs1 := hs.below hb1
      refine hK.out _ _ (fun _ => hX1) ?_
      clear hK K
      refine regT_one 3 _ (by kernel_rfl) rfl ?_
      intro K hK
      go_simp
      refine hK.out _ _ (fun _ => hX1) ?_
      clear hK K
      refine regT_one 4 _ (by kernel_rfl) rfl ?_
      intro K hK
      go_simp
      have hA := (Below.refl W1.heap.size W1).alloc (Nat.le_refl _) (.cells #[.int .u16 2, .int .u16 1, .int .i16 0, .int .i16 0, .int .i16 16384, .int .i16 0, .int .i16 0, .int .i16 16384] 46)
      have hX2 := hX1.new (.cells #[.int .u16 2, .int .u16 1, .int .i16 0, .int .i16 0, .int .i16 16384, .int .i16 0, .int .i16 0, .int .i16 16384] 46)
      have hs2 := hs1.below hA
      have hrow := rowS_vals encPt_len W1 46 [pM 1] #[.int .u16 2, .int .u16 1, .int .i16 0, .int .i16 0, .int .i16 16384, .int .i16 0, .int .i16 0, .int .i16 16384] rfl 1 rfl
      refine hK.out _ _ (fun _ => hX2) ?_
      clear hK K
      clear hs hs1 hb1 hA hX1 hx0 c0 c1 c2 c3 c4 c5
      have hsz := hs2.bel.size
      refine regT_one 5 _ (by kernel_rfl) rfl ?_
      intro K hK
      refine step_append_rowS rfl (.tmp 33) (.tmp 36) _ rfl 46 encPt 8 encPt_len (by omega) encPt_one Wb.heap.size i1 _ 16 Try.underlying47 hi1 hz01 hz11 rfl hz21 QA k' qc (List.replicate k' (pM 1)) rfl hs2.qa (some ⟨W1.heap.size, 0, none⟩) 1 1 [pM 1] rfl hrow (by omega) (by omega) hsz ?_
      intro A3 c3 W3 ho3 hg3
      have hb3 := hs2.box2 hg3
      have hs3 := hs2.app ho3 hg3
      rw [HRe.out] at hs3
      refine hK.out _ _ (fun h => absurd h (by decide)) ?_
      clear hK K ho3 hg3 hrow hs2
      simp only [Act.put, List.setIfInBounds_toArray, List.set_cons_zero, List.set_cons_succ]
      refine regT_one 6 _ (by kernel_rfl) rfl ?_
      intro K hK
      go_simp
      refine hK.out _ _ (fun h => absurd h (by decide)) ?_
      clear hK K
      refine regT_one 7 _ (by kernel_rfl) rfl ?_
      intro K hK
      obtain ⟨z0, z1, z2, z3, z4, z5⟩ := cells6 hb3
      have zf := thawed hb3
      go_simp
      refine hK.out _ _ (fun h => absurd h (by decide)) ?_
      clear hK K
      clear hb3
      refine regT_done (by kernel_rfl) ?_ _
      go_wp2
      go_roundw
      case rel => exact ⟨k' + 1, A3, c3, by omega, by go_num, hs3⟩
      case measure => simp [intOf]; omega
    · obtain rfl : k' = n := by omega
      have hrc := hs.rows
      have hbc := hs.bel
      have hgl3 := (kept_block hk3 hbc)
      have hesR := hes3.below hbc
      have hpR := hp3.below hbc
      go_upto_region 11 with fail
      replace hs := hs.below (Below.refl wr.heap.size wr).drew
      have hgl4 : wr.drew.heap[w1.heap.size + 1]? = some (.cells #[.int .i16 0, .int .i16 0, .int .i16 0, .int .i16 0, .slice (some ⟨w1.heap.size, 0, none⟩) 1 1, .slice none 0 0, .slice (some ⟨w0.heap.size, 0, none⟩) k k] 44 (0, 0)) := hgl3
      have hbd := (Below.refl wr.heap.size wr).drew
      have hes4 := hesR.below hbd
      have hp4 := hpR.below hbd
      have hbw4 := (hbw3.trans (hbc.mono hbw3.size)).drew
      clear hgl3 hesR hpR hbc hrc hbd
      have hx0 : Ext wr.drew wr.drew := Ext.refl _
      refine regT_start 10 (Ext wr.drew) (by kernel_rfl) ?_
      generalize wr.drew = V at *
      refine regT_take (i := 0) (d := some 41) (v := ?_) [] hx0 rfl rfl (by kernel_rfl) (by kernel_rfl) (by kernel_rfl) (by kernel_rfl) (by kernel_rfl) (by decide) (fun _ _ _ h => h) (Or.inl ⟨by rfl, ?_⟩) ?_
      rotate_left
      · intro w' hx; obtain ⟨q0, q1, q2, q3, q4, q5⟩ := cells6 (kept_block hs.box hx); (go_simp <;> with_reducible rfl)
      simp only [Act.put, List.setIfInBounds_toArray, List.set_cons_zero, List.set_cons_succ]
      refine regT_take (i := 2) (d := some 43) (v := ?_) [] hx0 rfl rfl (by kernel_rfl) (by kernel_rfl) (by kernel_rfl) (by kernel_rfl) (by kernel_rfl) (by decide) (fun _ _ _ h => h) (Or.inl ⟨by rfl, ?_⟩) ?_
      rotate_left
      · intro w' hx; obtain ⟨q0, q1, q2, q3, q4, q5, q6⟩ := cells7 (kept_block hgl4 hx); (go_simp <;> with_reducible rfl)
      simp only [Act.put, List.setIfInBounds_toArray, List.set_cons_zero, List.set_cons_succ]
      clear hx0
      have HCB : Hid (Calls Try.prog 20 #[.agg #[.int .i16 0, .int .i16 0, .int .i16 0, .int .i16 0, .slice QA k' qc, .slice none 0 0]] V (RetB V (cB (mG k' 1)))) := by
        have h := cbytes_any ⟨mG k' 1, QA, k', qc, none, 0, 0⟩ V hs.rows (by show k' ≤ 1000000; omega) (by show 0 ≤ 1000000; omega) (mG_ok (by decide) (by decide))
        unfold cBytes at h
        rw [if_pos (mG_right 1 hn1.1 hn1.2)] at h
        exact h
      have HOB : Hid (∀ W, Ext V W → Calls Try.prog 21 #[.agg #[.int .i16 0, .int .i16 0, .int .i16 0, .int .i16 0, .slice (some ⟨w1.heap.size, 0, none⟩) 1 1, .slice none 0 0, .slice (some ⟨w0.heap.size, 0, none⟩) k k]] W (RetB W (oB (zG k)))) := Lib.hid fun W hW => by
        have h := obytes_any ⟨zG k, some ⟨w1.heap.size, 0, none⟩, 1, 1, none, 0, 0, some ⟨w0.heap.size, 0, none⟩, k, k⟩ W ⟨hes4.below hW, Row.empty _ _, hp4.below hW⟩ ⟨by show 1 ≤ 10000; omega, by show 0 ≤ 10000; omega, by show k ≤ 10000; omega⟩ (zG_ok (by omega) (by omega))
        unfold oBytes at h
        rw [if_pos (zG_right (by omega) (by omega))] at h
        exact h
      have hLo : ptsOk (overL k k') := by
        intro z hz
        unfold overL at hz
        simp only [List.mem_cons, List.not_mem_nil, or_false] at hz
        rcases hz with rfl | rfl
        · exact hBa
        · exact hBb
      have hgm : ∀ W A1 n1 c1 A2 n2 c2, Row W A1 n1 (cellsOf .u8 (cB (mG k' 1))) → n1 ≤ c1 → Row W A2 n2 (cellsOf .u8 (oB (zG k))) → n2 ≤ c2 → GlsIn (W.alloc (.cells #[.slice A1 n1 c1, .slice A2 n2 c2] 42)) (some ⟨W.heap.size, 0, none⟩) 2 (overL k k') := fun W A1 n1 c1 A2 n2 c2 a b c d => glsIn_two W 42 a hBa (by have := a.len; omega) b c hBb (by have := c.len; omega) d
      have HGm := Lib.hid hgm
      generalize overL k k' = OL at *
      generalize cB (mG k' 1) = za at *
      generalize oB (zG k) = zb at *
      clear hBa hBb hla hlb hgm hes4 hp4 hgl4
      refine regT_one 1 _ (by kernel_rfl) rfl ?_
      intro K hK
      go_simp
      with_reducible refine HCB.out.mono ?_
      rintro e W1 ⟨A1, m1, d1, rfl, ho1, hb1⟩
      have hx1 : Ext V W1 := hb1
      have hr1 := ho1.row
      have hc1 := ho1.cap
      refine hK.out _ _ (fun _ => hx1) ?_
      clear hK K HCB ho1
      refine regT_one 3 _ (by kernel_rfl) rfl ?_
      intro K hK
      go_simp
      have HO1 := Lib.hid (HOB.out W1 hx1)
      clear HOB
      with_reducible refine HO1.out.mono ?_
      rintro e W2 ⟨A2, m2, d2, rfl, ho2, hb2⟩
      have hx2 : Ext V W2 := hx1.call hb2
      have hr2 := ho2.row
      have hc2 := ho2.cap
      have hr1' := hr1.below hb2
      refine hK.out _ _ (fun _ => hx2) ?_
      clear hK K HO1 ho2 hr1 hb2
      refine regT_one 4 _ (by kernel_rfl) rfl ?_
      intro K hK
      go_simp
      have hx3 := hx2.new (.cells #[.slice A1 m1 d1, .slice A2 m2 d2] 42)
      have hG := HGm.out W2 A1 m1 d1 A2 m2 d2 hr1' hc1 hr2 hc2
      refine hK.out _ _ (fun _ => hx3) ?_
      clear hK K
      have HFl := Lib.hid (flat_any _ hLo _ _ 2 2 0 hG (by omega) (by omega) (by omega))
      unfold RetFlat at HFl
      clear hG hr1' hr2 HGm hLo
      refine regT_one 5 _ (by kernel_rfl) rfl ?_
      intro K hK
      go_simp
      with_reducible refine HFl.out.mono ?_
      rintro e W4 ⟨hb4, CA, cn, cc, rfl, hacc⟩
      have hx4 : Ext V W4 := hx3.call hb4
      refine hK.out _ _ (fun _ => hx4) ?_
      clear hK K HFl hb4
      refine regT_take (i := 6) (d := some 40) (v := ?_) [] hx4 rfl rfl (by kernel_rfl) (by kernel_rfl) (by kernel_rfl) (by kernel_rfl) (by kernel_rfl) (by decide) (fun _ _ _ h => h) (Or.inl ⟨by rfl, ?_⟩) ?_
      rotate_left
      · intro w' hx; (go_simp <;> with_reducible rfl)
      simp only [Act.put, List.setIfInBounds_toArray, List.set_cons_zero, List.set_cons_succ]
      refine regT_take (i := 7) (d := some 47) (v := ?_) [] hx4 rfl rfl (by kernel_rfl) (by kernel_rfl) (by kernel_rfl) (by kernel_rfl) (by kernel_rfl) (by decide) (fun _ _ _ h => h) (Or.inl ⟨by rfl, ?_⟩) ?_
      rotate_left
      · intro w' hx; (go_simp <;> with_reducible rfl)
      simp only [Act.put, List.setIfInBounds_toArray, List.set_cons_zero, List.set_cons_succ]
      refine regT_take (i := 8) (d := some 48) (v := ?_) [] hx4 rfl rfl (by kernel_rfl) (by kernel_rfl) (by kernel_rfl) (by kernel_rfl) (by kernel_rfl) (by decide) (fun _ _ _ h => h) (Or.inl ⟨by rfl, ?_⟩) ?_
      rotate_left
      · intro w' hx; (go_simp <;> with_reducible rfl)
      simp only [Act.put, List.setIfInBounds_toArray, List.set_cons_zero, List.set_cons_succ]
      refine regT_take (i := 9) (d := some 10) (v := ?_) [] hx4 rfl rfl (by kernel_rfl) (by kernel_rfl) (by kernel_rfl) (by kernel_rfl) (by kernel_rfl) (by decide) (fun _ _ _ h => h) (Or.inl ⟨by rfl, ?_⟩) ?_
      rotate_left
      · intro w' hx; (go_simp <;> with_reducible rfl)
      simp only [Act.put, List.setIfInBounds_toArray, List.set_cons_zero, List.set_cons_succ]
      refine regT_one 10 _ (by kernel_rfl) rfl ?_
      intro K hK
      go_simp
      refine hK.out _ _ (fun h => absurd h (by decide)) ?_
      clear hK K
      refine regT_done (by kernel_rfl) ?_ _
      have hbwF := hbw4.trans (Below.mono hx4 hbw4.size)
      have hcn := hacc.len
      generalize hfz : flatZ OL 0 = fz at *
      clear hs hx1 hx2 hx3 hx4 hbw4 hk3 hes3 hp3 hbw3
      by_cases ho : P ≤ 20000
      · have hE := hF1 ho
        subst hE
        have hov : ¬ 20000 < (P : Int) := by omega
        simp only at hacc hcn ⊢
        rw [List.length_replicate] at hcn
        obtain rfl : cn = k' := hcn.symm
        obtain ⟨S, hSo, hSi⟩ := hacc
        have HPt := Lib.hid (fpoints_any CA cn cc S _ W4 (hSo.row encSl_len) hSi (by omega) (by omega))
        rw [hpts] at HPt
        clear hF1 hF2 hSo hSi
        go_wp2_with fail
        with_reducible refine HPt.out.mono ?_
        rintro e W5 ⟨rfl, rfl⟩
        go_wp2_with fail
        go_ret
        exact ⟨rfl, hbwF⟩
      · obtain ⟨hE1, hE2⟩ := hF2 (by omega)
        have hov : 20000 < (P : Int) := by omega
        obtain ⟨f1, f2, f3, f4⟩ := fz
        simp only at hE1 hE2 hacc hcn ⊢
        subst hE1 hE2
        obtain rfl : cn = 0 := by simpa using hcn.symm
        clear hF1 hF2 hacc
        go_wp2_with fail
        go_ret
        exact ⟨rfl, hbwF⟩

end Go.Proofs.Ytdaeffnaoeblpaa

namespace Go.Proofs.Ytdaeffnaoeblpaa.flatOver
open Go.ChangeShapes Go.WideShapes Go.ChangeAt Go.RowKit
open Go.ChangeMaps (open_string shut_string)
set_option linter.unusedVariables false

theorem own : ownKnob Try.prog.godebug = none := by kernel_rfl
theorem laidOut : laidOutB Try.prog = true := by kernel_rfl

set_option maxRecDepth 100000 in
theorem lifted (os : Os) (started : os.Started) (H : Type) (enc : TypeId × Value → H) :
    ReturnsInHanded {} Try.checked os 7 .any (Rows.flatOverSpec.pre6 enc Try.prog Try.f7 Rows.flatOverRow.domain false) (Rows.flatOverSpec.post enc Try.prog Try.f7 false true false false) := by
  refine returnsInHanded_of_change (C := Try.checked) own started (by kernel_rfl) Try.func7
    (ChangeSpec.witness6 (enc := enc) (C := Try.checked) false ⟨#[], #[.int .u8 0, .int .u8 0], []⟩ 8 (by kernel_rfl) (by kernel_rfl) (by kernel_rfl) (by kernel_rfl)) ?_
  intro W base args ds gs before hval0 hW hcnd _
  have hval : ∀ (j : Nat) t v, Try.f7.params[j]? = some t → args[j]? = some v → Value.okWide Try.prog W .any base t v := hval0
  have hW' := hW
  obtain ⟨p, q, hA0, hV, rfl, hfz, hnd⟩ := hW
  have hA : DataW.TrodAll enc Try.prog W 0 (fun _ => true) true Try.f7.params.toList args.toList ds p := hA0
  rw [Try.params7] at hA hval
  obtain ⟨v0, vs0, d0, ds0, p0, q0, hargs, rfl, rfl, h0, r0⟩ := trodAll_cons hA
  obtain ⟨v1, vs1, d1, ds1, p1, q1, rfl, rfl, rfl, h1, r1⟩ := trodAll_cons r0
  obtain ⟨rfl, rfl, rfl⟩ := trodAll_nil r1
  obtain rfl : args = #[v0, v1] := by cases args; simp_all
  obtain ⟨rfl, rfl⟩ := trodVars_none hV
  have k0 := h0
  have lt0 : ∀ x ∈ p0, x.block < W.heap.size := by obtain ⟨m, hm⟩ := k0; exact DataW.trod_lt m _ _ _ hm
  have k1 := h1
  have lt1 : ∀ x ∈ p1, x.block < W.heap.size := by obtain ⟨m, hm⟩ := k1; exact DataW.trod_lt m _ _ _ hm
  obtain ⟨a0, rfl, rfl, rfl, u0⟩ := open_int Try.underlying5 (hval 0 5 v0 rfl rfl) h0
  have w0 := bounds_u8 u0
  obtain ⟨a1, rfl, rfl, rfl, u1⟩ := open_int Try.underlying5 (hval 1 5 v1 rfl rfl) h1
  have w1 := bounds_u8 u1
  clear hA0 hval0
  refine (law_FlatOver a0 a1 W w0.1 w0.2 w1.1 w1.2).mono fun e W' ⟨he, bel⟩ => ?_
  subst he
  exact ⟨_, rfl, _, _, _, [], _, [], hW', trodAll_mk1 (shut_bool Try.underlying4 _), (trodAll_cons_mk (Below.trod laidOut (by kernel_rfl) (of_decide_eq_true (by kernel_rfl)) k0 bel lt0) (trodAll_cons_mk (Below.trod laidOut (by kernel_rfl) (of_decide_eq_true (by kernel_rfl)) k1 bel lt1) trodAll_mk0)), rfl, bel.frame _, fun h => by cases h⟩

theorem over : Rows.flatOverRow.holds Try.pinned (OpenSpec.ofChange Rows.flatOverSpec) :=
  OpenClaim.holds_of_wide 7 Try.f7 rfl rfl rfl rfl rfl rfl rfl ⟨rfl, rfl, rfl, rfl, rfl⟩ rfl rfl rfl rfl rfl (by kernel_rfl) Try.func7 (by kernel_rfl)
    (of_decide_eq_true (by kernel_rfl)) (by unfold Func.isWrapper; first | (rw [if_pos (by decide +kernel)]; kernel_rfl) | (rw [if_neg (by decide +kernel)]; exact ⟨rfl, rfl⟩))
    (fun os started H enc _ => lifted os started H enc)

theorem proved : Rows.FlatOverSaid := over
#print axioms proved
end Go.Proofs.Ytdaeffnaoeblpaa.flatOver
