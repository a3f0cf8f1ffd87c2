/- What head.Parse answers, and the document's Right, as contracts over this seat's translation. -/
import Derived.Test.YtmpicokeenodbaaHeadMath
import Derived.Test.YtmpicokeenodbaaHeadB
import Derived.Test.YtmpicokeenodbaaEqual
import Derived.Test.YtmpicokeenodbaaCells
import Derived.Test.YtmpicokeenodbaaMaxpParse
namespace Go.Proofs.Ytmpicokeenodbaa
open Go.RowKit
set_option linter.unusedVariables false

def hd0 : Hd := ⟨0, 0, 0, 0, 0, 0, 0, 0, 0, 0, 0, 0, 0, false⟩

/-- A pair that is told. -/
abbrev hdR (h : Hd) (e : Int) : Value := .tuple #[hdV h, .int .i64 e]

/-- What Parse tells. -/
def hdTold (zs : List Int) : Value := if hrt zs = true then hdR (hdOf zs) 0 else hdR hd0 2
theorem hdTold_yes {zs : List Int} (h : hrt zs = true) : hdTold zs = hdR (hdOf zs) 0 := if_pos h
theorem hdTold_no {zs : List Int} (h : hrt zs = false) : hdTold zs = hdR hd0 2 := if_neg (by rw [h]; decide)
theorem hrt_len {zs : List Int} (h : zs.length ≠ 54) : hrt zs = false := by unfold hrt; simp [h]

theorem hparse_len (A : Option Addr) (n c : Nat) (w : World) (h : n ≠ 54) : Calls Try.prog 15 #[.slice A n c] w (Ret w (hdR hd0 2)) := by
  have hne : ((n : Int) != 54) = true := by simp; omega
  clear h
  go_enter Try.func15, Try.ntmps15
  go_wp2
  exact bodyPost_ret (v := hdR hd0 2) (by simp [results, Try.results15, go_sem, hd0]) rfl ⟨rfl, (Below.refl _ _).alloc (Nat.le_refl _) _⟩

set_option maxRecDepth 100000 in
set_option maxHeartbeats 4000000 in
theorem hparse_54 (A : Option Addr) (n c : Nat) (zs : List Int) (w : World) (hr : Row w A n (cellsOf .u8 zs)) (hB : Bytes zs) (h54 : n = 54) :
    Calls Try.prog 15 #[.slice A n c] w (Ret w (hdTold zs)) := by
  have hl := hr.len
  subst h54
  have hok := hdOf_ok hB
  have hsame := hrt_same hB hl
  have hA0 : Below w.heap.size w (w.alloc (.cells hdZ 28)) := (Below.refl _ _).alloc (Nat.le_refl _) _
  have hr0 := hr.below hA0
  have HB := Lib.hid hB
  have HL := Lib.hid hl
  have Hok := Lib.hid hok
  have Hsm := Lib.hid hsame
  clear hr hB hl hok hsame
  simp only [hdZ] at hA0 hr0
  go_enter Try.func15, Try.ntmps15
  go_wp2_with fail
  refine (new_any _ _ _ zs _ hr0 (by omega)).mono ?_
  rintro e w1 ⟨b, rfl, hrd, hb1⟩
  have hr1 := hr0.below hb1
  have hne := hr0.ne hrd.from_
  clear hr0
  go_wp2_with fail
  refine (hread_any _ b zs w1 hrd HB.out HL.out).mono ?_
  rintro e w2 ⟨rfl, hg2⟩
  have hfr := hrd.from_
  have hb2 := hb1.grown hg2 hb1.size (fun k e => by cases e; exact hfr)
  have hr2 := hr1.ask hg2 hne
  obtain ⟨k2, hb, hlt⟩ := first_box hb2
  clear hrd hb1 hg2 hb2 hr1 hA0 hfr hne
  generalize hm : hdOf zs = m at *
  have hA2 : Below w2.heap.size w2 (w2.alloc (.cells (hdC m) 28)) := (Below.refl _ _).alloc (Nat.le_refl _) _
  have hr3 := hr2.below hA2
  have k3 := kept_block k2 hA2
  have j3 := heap_alloc_new w2 (.cells (hdC m) 28)
  have hb3 := hb.trans (hA2.mono hb.size)
  have Hm := Lib.hid hm
  clear hA2 hr2 k2 hb hm hlt
  have hby : ∀ W : World, Calls Try.prog 13 #[hdV m] W (RetB W (if hdRight m = true then hdL m else [])) := fun W => by
    by_cases h0 : hdRight m = true
    · rw [if_pos h0]; exact hbytes_any m W Hok.out h0
    · rw [if_neg h0]; exact hbytes_none m W (by simpa using h0)
  have Hby := Lib.hid hby
  have hbt : Bytes (if hdRight m = true then hdL m else []) := by
    split
    · exact hdL_bytes m
    · intro x hx; cases hx
  have Hbt := Lib.hid hbt
  clear hby hbt
  generalize (if hdRight m = true then hdL m else []) = ys at Hby Hbt Hsm
  obtain ⟨rv, ad, fl, un, cr, mo, x0, x1, x2, x3, st, lo, hi, lg⟩ := m
  simp only [hdC] at k3 j3 hb3 hr3
  go_wp2_with fail
  generalize w2.alloc _ = w3 at *
  refine (Hby.out w3).mono ?_
  rintro e w4 ⟨A4, n4, c4, rfl, hown4, hb4⟩
  have hr4 := hr3.below hb4
  have k4 := kept_block k3 hb4
  have j4 := kept_block j3 hb4
  have hB4 := hb3.trans (hb4.mono hb3.size)
  have hrow4 := hown4.row
  obtain ⟨d0, d1, d2, d3, d4, d5, d6, d7, d8, d9, d10, d11, d12, d13⟩ := cells14 k4
  obtain ⟨e0, e1, e2, e3, e4, e5, e6, e7, e8, e9, e10, e11, e12, e13⟩ := cells14 j4
  have f4 := thawed k4
  clear hb4 hown4 hr3 k3 j3 hb3 k4 j4
  have heq := equal_any A4 A n4 c4 54 c ys zs w4 hrow4 hr4 Hbt.out HB.out
  rw [Hsm.out] at heq
  have Heq := Lib.hid heq
  clear heq hrow4 hr4
  cases hR : hrt zs with
  | true =>
    rw [hR] at Heq
    have HT := Lib.hid (hdTold_yes hR)
    clear hR
    go_wp2_with fail
    refine Heq.out.mono ?_
    rintro e w' ⟨rfl, rfl⟩
    go_wp2
    refine bodyPost_ret (v := hdR ⟨rv, ad, fl, un, cr, mo, x0, x1, x2, x3, st, lo, hi, lg⟩ 0) (by simp [results, Try.results15, go_sem, d0, d1, d2, d3, d4, d5, d6, d7, d8, d9, d10, d11, d12, d13]) rfl ⟨by rw [HT.out, Hm.out], ?_⟩
    iterate 14 refine below_set (Nat.le_refl _) _ _ ?_
    exact hB4
  | false =>
    rw [hR] at Heq
    have HT := Lib.hid (hdTold_no hR)
    clear hR
    go_wp2_with fail
    refine Heq.out.mono ?_
    rintro e w' ⟨rfl, rfl⟩
    go_wp2
    refine bodyPost_ret (v := hdR hd0 2) (by simp [results, Try.results15, go_sem, hd0, d0, d1, d2, d3, d4, d5, d6, d7, d8, d9, d10, d11, d12, d13]) rfl ⟨by rw [HT.out], ?_⟩
    iterate 14 refine below_set (Nat.le_refl _) _ _ ?_
    exact hB4

theorem hparse_any (A : Option Addr) (n c : Nat) (zs : List Int) (w : World) (hr : Row w A n (cellsOf .u8 zs)) (hB : Bytes zs) :
    Calls Try.prog 15 #[.slice A n c] w (Ret w (hdTold zs)) := by
  by_cases h : n = 54
  · exact hparse_54 A n c zs w hr hB h
  · rw [hdTold_no (hrt_len (by rw [hr.len]; exact h))]
    exact hparse_len A n c w h

end Go.Proofs.Ytmpicokeenodbaa
