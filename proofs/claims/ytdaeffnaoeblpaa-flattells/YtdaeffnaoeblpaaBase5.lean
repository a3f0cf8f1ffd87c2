/- What the laws of this seat lean on: ComW RdQ Two. -/
import Derived.Test.YtdaeffnaoeblpaaBase2
import Derived.Test.YtdaeffnaoeblpaaBase3
import Derived.Test.YtdaeffnaoeblpaaBase4

/- compo: what a part writes, as a contract over this seat's translation. -/
namespace Go.Proofs.Ytdaeffnaoeblpaa
open Go.RowKit
set_option linter.unusedVariables false
set_option linter.unusedSimpArgs false

/-- A part's bytes. -/
def matL (k : Int) (p : Pt) : List Int := if k = 8 then [p.xx] else if k = 64 then [p.xx, p.yy] else if k = 128 then [p.xx, p.xy, p.yx, p.yy] else []
def ptB (p : Pt) (go : Bool) : List Int := b2 (if go then p.f + 32 else p.f) ++ b2 p.i ++ (if fb p.f 1 then b2 (p.x % 65536) ++ b2 (p.y % 65536) else [p.x % 256, p.y % 256]) ++ (matL (knd p.f) p).flatMap fun v => b2 (v % 65536)
theorem knd_of {p : Pt} (h : twoK p.f = false) : knd p.f = 0 ∨ knd p.f = 8 ∨ knd p.f = 64 ∨ knd p.f = 128 := by
  unfold twoK at h
  unfold knd
  revert h
  cases fb p.f 8 <;> cases fb p.f 64 <;> cases fb p.f 128 <;> decide
theorem wr_box {w w' : World} {B b d : Nat} {zs : List Int} {cs : Array Value} (h : Wr w B b zs) (hk : w.heap[d]? = some (.cells cs 46 (0, 0))) (ht : TurnedN w w' b) : w'.heap[d]? = some (.cells cs 46 (0, 0)) :=
  (ht.t.block d (lt_of_block hk) (h.apart hk (by decide) (by decide))).trans hk

set_option maxRecDepth 100000 in
set_option maxHeartbeats 16000000 in
theorem cwrite_any (B b : Nat) (zs : List Int) (p : Pt) (go : Bool) (w : World) (h : Wr w B b zs) (hp : p.ok) (h32 : fb p.f 32 = false) (hf : p.f < 8192) (h2 : twoK p.f = false) (hz : zs.length ≤ 1000000) :
    Calls Try.prog 57 #[p.val, .pointer (some ⟨b, 0, none⟩), .bool go] w (RetW0 w B b (zs ++ ptB p go)) := by
  have hA := (Below.refl w.heap.size w).alloc (Nat.le_refl _) (.cells p.cells 46)
  have hk := heap_alloc_new w (.cells p.cells 46)
  have hW := h.below hA
  have hT := TurnedN.of_below hA h.from_.2
  have hK := w_and200 hp.f.1 hp.f.2
  have hOr := w_or32 hp.f.1 hp.f.2 h32
  have H1 := Lib.hid (fun W => chas_any p 1 _ W (w_and1 hp.f.1 hp.f.2))
  have hkn := knd_of h2
  obtain ⟨f0, f1⟩ := hp.f
  obtain ⟨i0, i1⟩ := hp.i
  unfold ptB
  generalize knd p.f = k at *
  generalize fb p.f 1 = wd at *
  clear hA hp h2 h32
  unfold matL
  unfold Pt.val Pt.cells at *
  obtain ⟨f, i, x, y, xx, xy, yx, yy⟩ := p
  simp only at *
  have hd0 : w.heap.size < (w.alloc (.cells #[.int .u16 f, .int .u16 i, .int .i16 x, .int .i16 y, .int .i16 xx, .int .i16 xy, .int .i16 yx, .int .i16 yy] 46)).heap.size := by simp
  cases go
  · go_enter Try.func57, Try.ntmps57
    obtain ⟨q0, q1, q2, q3, q4, q5, q6, q7⟩ := cells8 hk
    go_upto_region 4 with fail
    generalize w.alloc _ = V at *
    clear q0 q1 q2 q3 q4 q5 q6 q7 hOr
    have hdr : TurnedN V V.drew b := .of_below (Below.refl _ _).drew hW.from_.2
    have hT' := hT.trans hdr
    have hk' := wr_box hW hk hdr
    have hW' := hW.below (Below.refl _ _).drew
    clear hT hk hW hdr
    have hT := hT'
    have hk := hk'
    have hW := hW'
    clear hT' hk' hW'
    refine regT_start 6 (fun W' => W'.heap[w.heap.size]? = some (.cells #[.int .u16 f, .int .u16 i, .int .i16 x, .int .i16 y, .int .i16 xx, .int .i16 xy, .int .i16 yx, .int .i16 yy] 46 (0, 0))) (by kernel_rfl) ?_
    generalize V.drew = U2 at *
    refine regT_take (i := 0) (d := some 12) (v := ?_) [] hk rfl rfl (by kernel_rfl) (by kernel_rfl) (by kernel_rfl) (by kernel_rfl) (by kernel_rfl) (by decide) (fun _ _ _ h => h) (Or.inl ⟨by rfl, ?_⟩) ?_
    rotate_left
    · intro w' hx; (go_simp <;> with_reducible rfl)
    simp only [Act.put, List.setIfInBounds_toArray, List.set_cons_zero, List.set_cons_succ]
    refine regT_take (i := 1) (d := some 13) (v := ?_) [] hk rfl rfl (by kernel_rfl) (by kernel_rfl) (by kernel_rfl) (by kernel_rfl) (by kernel_rfl) (by decide) (fun _ _ _ h => h) (Or.inl ⟨by rfl, ?_⟩) ?_
    rotate_left
    · intro w' hx; (go_simp <;> with_reducible rfl)
    simp only [Act.put, List.setIfInBounds_toArray, List.set_cons_zero, List.set_cons_succ]
    refine regT_take (i := 3) (d := some 15) (v := ?_) [] hk rfl rfl (by kernel_rfl) (by kernel_rfl) (by kernel_rfl) (by kernel_rfl) (by kernel_rfl) (by decide) (fun _ _ _ h => h) (Or.inl ⟨by rfl, ?_⟩) ?_
    rotate_left
    · intro w' hx; (go_simp <;> with_reducible rfl)
    simp only [Act.put, List.setIfInBounds_toArray, List.set_cons_zero, List.set_cons_succ]
    refine regT_take (i := 4) (d := some 16) (v := ?_) [] hk rfl rfl (by kernel_rfl) (by kernel_rfl) (by kernel_rfl) (by kernel_rfl) (by kernel_rfl) (by decide) (fun _ _ _ h => h) (Or.inl ⟨by rfl, ?_⟩) ?_
    rotate_left
    · intro w' hx; obtain ⟨q0, q1, q2, q3, q4, q5, q6, q7⟩ := cells8 hx; (go_simp <;> with_reducible rfl)
    simp only [Act.put, List.setIfInBounds_toArray, List.set_cons_zero, List.set_cons_succ]
    refine regT_one 2 _ (by kernel_rfl) rfl ?_
    intro K hK
    go_simp
    refine (wu16N_any B b _ f U2 hW (by first | omega | (simp only [List.length_append, List.length_cons, List.length_nil, b2]; omega)) (by omega) (by omega)).mono ?_
    rintro e U3 ⟨rfl, hW1, hT1⟩
    have hk' := wr_box hW hk hT1
    have hT' := hT.trans hT1
    refine hK.out _ _ (fun _ => hk') ?_
    clear hK K hT hk hW hT1
    have hT := hT'
    have hk := hk'
    have hW := hW1
    clear hT' hk' hW1
    refine regT_one 5 _ (by kernel_rfl) rfl ?_
    intro K hK
    go_simp
    refine (wu16N_any B b _ i U3 hW (by first | omega | (simp only [List.length_append, List.length_cons, List.length_nil, b2]; omega)) (by omega) (by omega)).mono ?_
    rintro e U4 ⟨rfl, hW1, hT1⟩
    have hk' := wr_box hW hk hT1
    have hT' := hT.trans hT1
    refine hK.out _ _ (fun _ => hk') ?_
    clear hK K hT hk hW hT1
    have hT := hT'
    have hk := hk'
    have hW := hW1
    clear hT' hk' hW1
    refine regT_done (by kernel_rfl) ?_ _
    obtain ⟨q0, q1, q2, q3, q4, q5, q6, q7⟩ := cells8 hk
    go_wp2_with fail
    clear q0 q1 q2 q3 q4 q5 q6 q7
    refine (H1.out _).mono ?_
    rintro e U5 ⟨rfl, hb⟩
    have hT' := hT.trans (.of_below hb hW.from_.2)
    have hk' := kept_block hk hb
    have hW' := hW.below hb
    clear hT hk hW hb
    have hT := hT'
    have hk := hk'
    have hW := hW'
    clear hT' hk' hW'
    cases wd
    · skip
      go_upto_region 7 with fail
      have hdr : TurnedN U5 U5.drew b := .of_below (Below.refl _ _).drew hW.from_.2
      have hT' := hT.trans hdr
      have hk' := wr_box hW hk hdr
      have hW' := hW.below (Below.refl _ _).drew
      clear hT hk hW hdr
      have hT := hT'
      have hk := hk'
      have hW := hW'
      clear hT' hk' hW'
      refine regT_start 9 (fun W' => W'.heap[w.heap.size]? = some (.cells #[.int .u16 f, .int .u16 i, .int .i16 x, .int .i16 y, .int .i16 xx, .int .i16 xy, .int .i16 yx, .int .i16 yy] 46 (0, 0))) (by kernel_rfl) ?_
      generalize U5.drew = U6 at *
      refine regT_take (i := 0) (d := some 27) (v := ?_) [] hk rfl rfl (by kernel_rfl) (by kernel_rfl) (by kernel_rfl) (by kernel_rfl) (by kernel_rfl) (by decide) (fun _ _ _ h => h) (Or.inl ⟨by rfl, ?_⟩) ?_
      rotate_left
      · intro w' hx; (go_simp <;> with_reducible rfl)
      simp only [Act.put, List.setIfInBounds_toArray, List.set_cons_zero, List.set_cons_succ]
      refine regT_take (i := 1) (d := some 28) (v := ?_) [] hk rfl rfl (by kernel_rfl) (by kernel_rfl) (by kernel_rfl) (by kernel_rfl) (by kernel_rfl) (by decide) (fun _ _ _ h => h) (Or.inl ⟨by rfl, ?_⟩) ?_
      rotate_left
      · intro w' hx; (go_simp <;> with_reducible rfl)
      simp only [Act.put, List.setIfInBounds_toArray, List.set_cons_zero, List.set_cons_succ]
      refine regT_take (i := 2) (d := some 29) (v := ?_) [] hk rfl rfl (by kernel_rfl) (by kernel_rfl) (by kernel_rfl) (by kernel_rfl) (by kernel_rfl) (by decide) (fun _ _ _ h => h) (Or.inl ⟨by rfl, ?_⟩) ?_
      rotate_left
      · intro w' hx; obtain ⟨q0, q1, q2, q3, q4, q5, q6, q7⟩ := cells8 hx; (go_simp <;> with_reducible rfl)
      simp only [Act.put, List.setIfInBounds_toArray, List.set_cons_zero, List.set_cons_succ]
      refine regT_take (i := 3) (d := some 30) (v := ?_) [] hk rfl rfl (by kernel_rfl) (by kernel_rfl) (by kernel_rfl) (by kernel_rfl) (by kernel_rfl) (by decide) (fun _ _ _ h => h) (Or.inl ⟨by rfl, ?_⟩) ?_
      rotate_left
      · intro w' hx; (go_simp <;> with_reducible rfl)
      simp only [Act.put, List.setIfInBounds_toArray, List.set_cons_zero, List.set_cons_succ]
      refine regT_take (i := 5) (d := some 32) (v := ?_) [] hk rfl rfl (by kernel_rfl) (by kernel_rfl) (by kernel_rfl) (by kernel_rfl) (by kernel_rfl) (by decide) (fun _ _ _ h => h) (Or.inl ⟨by rfl, ?_⟩) ?_
      rotate_left
      · intro w' hx; (go_simp <;> with_reducible rfl)
      simp only [Act.put, List.setIfInBounds_toArray, List.set_cons_zero, List.set_cons_succ]
      refine regT_take (i := 6) (d := some 33) (v := ?_) [] hk rfl rfl (by kernel_rfl) (by kernel_rfl) (by kernel_rfl) (by kernel_rfl) (by kernel_rfl) (by decide) (fun _ _ _ h => h) (Or.inl ⟨by rfl, ?_⟩) ?_
      rotate_left
      · intro w' hx; obtain ⟨q0, q1, q2, q3, q4, q5, q6, q7⟩ := cells8 hx; (go_simp <;> with_reducible rfl)
      simp only [Act.put, List.setIfInBounds_toArray, List.set_cons_zero, List.set_cons_succ]
      refine regT_take (i := 7) (d := some 34) (v := ?_) [] hk rfl rfl (by kernel_rfl) (by kernel_rfl) (by kernel_rfl) (by kernel_rfl) (by kernel_rfl) (by decide) (fun _ _ _ h => h) (Or.inl ⟨by rfl, ?_⟩) ?_
      rotate_left
      · intro w' hx; (go_simp <;> with_reducible rfl)
      simp only [Act.put, List.setIfInBounds_toArray, List.set_cons_zero, List.set_cons_succ]
      refine regT_one 4 _ (by kernel_rfl) rfl ?_
      intro K hK
      go_simp
      refine (wu8N_any B b _ (x % 256) U6 hW (by first | omega | (simp only [List.length_append, List.length_cons, List.length_nil, b2]; omega))).mono ?_
      rintro e U7 ⟨rfl, hW1, hT1⟩
      have hk' := wr_box hW hk hT1
      have hT' := hT.trans hT1
      refine hK.out _ _ (fun _ => hk') ?_
      clear hK K hT hk hW hT1
      have hT := hT'
      have hk := hk'
      have hW := hW1
      clear hT' hk' hW1
      refine regT_one 8 _ (by kernel_rfl) rfl ?_
      intro K hK
      go_simp
      refine (wu8N_any B b _ (y % 256) U7 hW (by first | omega | (simp only [List.length_append, List.length_cons, List.length_nil, b2]; omega))).mono ?_
      rintro e U8 ⟨rfl, hW1, hT1⟩
      have hk' := wr_box hW hk hT1
      have hT' := hT.trans hT1
      refine hK.out _ _ (fun _ => hk') ?_
      clear hK K hT hk hW hT1
      have hT := hT'
      have hk := hk'
      have hW := hW1
      clear hT' hk' hW1
      refine regT_done (by kernel_rfl) ?_ _
      obtain ⟨q0, q1, q2, q3, q4, q5, q6, q7⟩ := cells8 hk
      rcases hkn with rfl | rfl | rfl | rfl
      · skip
        go_wp2
        go_end0
        exact ⟨rfl, by simpa [List.append_assoc] using hW, hT⟩
      · go_wp2_with fail
        refine (wi16N_any B b _ xx U8 hW (by first | omega | (simp only [List.length_append, List.length_cons, List.length_nil, b2]; omega))).mono ?_
        rintro e U9 ⟨rfl, hW1, hT1⟩
        have hT' := hT.trans hT1
        clear hT hW hT1 q0 q1 q2 q3 q4 q5 q6 q7 hk
        have hT := hT'
        have hW := hW1
        go_wp2
        go_end0
        exact ⟨rfl, by simpa [List.append_assoc] using hW, hT⟩
      · skip
        go_upto_region 12 with fail
        clear q0 q1 q2 q3 q4 q5 q6 q7
        have hdr : TurnedN U8 U8.drew b := .of_below (Below.refl _ _).drew hW.from_.2
        have hT' := hT.trans hdr
        have hk' := wr_box hW hk hdr
        have hW' := hW.below (Below.refl _ _).drew
        clear hT hk hW hdr
        have hT := hT'
        have hk := hk'
        have hW := hW'
        clear hT' hk' hW'
        refine regT_start 9 (fun W' => W'.heap[w.heap.size]? = some (.cells #[.int .u16 f, .int .u16 i, .int .i16 x, .int .i16 y, .int .i16 xx, .int .i16 xy, .int .i16 yx, .int .i16 yy] 46 (0, 0))) (by kernel_rfl) ?_
        generalize U8.drew = U10 at *
        refine regT_take (i := 0) (d := some 48) (v := ?_) [] hk rfl rfl (by kernel_rfl) (by kernel_rfl) (by kernel_rfl) (by kernel_rfl) (by kernel_rfl) (by decide) (fun _ _ _ h => h) (Or.inl ⟨by rfl, ?_⟩) ?_
        rotate_left
        · intro w' hx; (go_simp <;> with_reducible rfl)
        simp only [Act.put, List.setIfInBounds_toArray, List.set_cons_zero, List.set_cons_succ]
        refine regT_take (i := 1) (d := some 49) (v := ?_) [] hk rfl rfl (by kernel_rfl) (by kernel_rfl) (by kernel_rfl) (by kernel_rfl) (by kernel_rfl) (by decide) (fun _ _ _ h => h) (Or.inl ⟨by rfl, ?_⟩) ?_
        rotate_left
        · intro w' hx; (go_simp <;> with_reducible rfl)
        simp only [Act.put, List.setIfInBounds_toArray, List.set_cons_zero, List.set_cons_succ]
        refine regT_take (i := 2) (d := some 50) (v := ?_) [] hk rfl rfl (by kernel_rfl) (by kernel_rfl) (by kernel_rfl) (by kernel_rfl) (by kernel_rfl) (by decide) (fun _ _ _ h => h) (Or.inl ⟨by rfl, ?_⟩) ?_
        rotate_left
        · intro w' hx; (go_simp <;> with_reducible rfl)
        simp only [Act.put, List.setIfInBounds_toArray, List.set_cons_zero, List.set_cons_succ]
        refine regT_take (i := 3) (d := some 51) (v := ?_) [] hk rfl rfl (by kernel_rfl) (by kernel_rfl) (by kernel_rfl) (by kernel_rfl) (by kernel_rfl) (by decide) (fun _ _ _ h => h) (Or.inl ⟨by rfl, ?_⟩) ?_
        rotate_left
        · intro w' hx; obtain ⟨q0, q1, q2, q3, q4, q5, q6, q7⟩ := cells8 hx; (go_simp <;> with_reducible rfl)
        simp only [Act.put, List.setIfInBounds_toArray, List.set_cons_zero, List.set_cons_succ]
        refine regT_take (i := 5) (d := some 53) (v := ?_) [] hk rfl rfl (by kernel_rfl) (by kernel_rfl) (by kernel_rfl) (by kernel_rfl) (by kernel_rfl) (by decide) (fun _ _ _ h => h) (Or.inl ⟨by rfl, ?_⟩) ?_
        rotate_left
        · intro w' hx; (go_simp <;> with_reducible rfl)
        simp only [Act.put, List.setIfInBounds_toArray, List.set_cons_zero, List.set_cons_succ]
        refine regT_take (i := 6) (d := some 54) (v := ?_) [] hk rfl rfl (by kernel_rfl) (by kernel_rfl) (by kernel_rfl) (by kernel_rfl) (by kernel_rfl) (by decide) (fun _ _ _ h => h) (Or.inl ⟨by rfl, ?_⟩) ?_
        rotate_left
        · intro w' hx; (go_simp <;> with_reducible rfl)
        simp only [Act.put, List.setIfInBounds_toArray, List.set_cons_zero, List.set_cons_succ]
        refine regT_take (i := 7) (d := some 55) (v := ?_) [] hk rfl rfl (by kernel_rfl) (by kernel_rfl) (by kernel_rfl) (by kernel_rfl) (by kernel_rfl) (by decide) (fun _ _ _ h => h) (Or.inl ⟨by rfl, ?_⟩) ?_
        rotate_left
        · intro w' hx; obtain ⟨q0, q1, q2, q3, q4, q5, q6, q7⟩ := cells8 hx; (go_simp <;> with_reducible rfl)
        simp only [Act.put, List.setIfInBounds_toArray, List.set_cons_zero, List.set_cons_succ]
        refine regT_one 4 _ (by kernel_rfl) rfl ?_
        intro K hK
        go_simp
        refine (wi16N_any B b _ xx U10 hW (by first | omega | (simp only [List.length_append, List.length_cons, List.length_nil, b2]; omega))).mono ?_
        rintro e U11 ⟨rfl, hW1, hT1⟩
        have hk' := wr_box hW hk hT1
        have hT' := hT.trans hT1
        refine hK.out _ _ (fun _ => hk') ?_
        clear hK K hT hk hW hT1
        have hT := hT'
        have hk := hk'
        have hW := hW1
        clear hT' hk' hW1
        refine regT_one 8 _ (by kernel_rfl) rfl ?_
        intro K hK
        go_simp
        refine (wi16N_any B b _ yy U11 hW (by first | omega | (simp only [List.length_append, List.length_cons, List.length_nil, b2]; omega))).mono ?_
        rintro e U12 ⟨rfl, hW1, hT1⟩
        have hk' := wr_box hW hk hT1
        have hT' := hT.trans hT1
        refine hK.out _ _ (fun _ => hk') ?_
        clear hK K hT hk hW hT1
        have hT := hT'
        have hk := hk'
        have hW := hW1
        clear hT' hk' hW1
        refine regT_done (by kernel_rfl) ?_ _
        go_wp2
        go_end0
        exact ⟨rfl, by simpa [List.append_assoc] using hW, hT⟩
      · skip
        go_upto_region 14 with fail
        clear q0 q1 q2 q3 q4 q5 q6 q7
        have hdr : TurnedN U8 U8.drew b := .of_below (Below.refl _ _).drew hW.from_.2
        have hT' := hT.trans hdr
        have hk' := wr_box hW hk hdr
        have hW' := hW.below (Below.refl _ _).drew
        clear hT hk hW hdr
        have hT := hT'
        have hk := hk'
        have hW := hW'
        clear hT' hk' hW'
        refine regT_start 17 (fun W' => W'.heap[w.heap.size]? = some (.cells #[.int .u16 f, .int .u16 i, .int .i16 x, .int .i16 y, .int .i16 xx, .int .i16 xy, .int .i16 yx, .int .i16 yy] 46 (0, 0))) (by kernel_rfl) ?_
        generalize U8.drew = U13 at *
        refine regT_take (i := 0) (d := some 59) (v := ?_) [] hk rfl rfl (by kernel_rfl) (by kernel_rfl) (by kernel_rfl) (by kernel_rfl) (by kernel_rfl) (by decide) (fun _ _ _ h => h) (Or.inl ⟨by rfl, ?_⟩) ?_
        rotate_left
        · intro w' hx; (go_simp <;> with_reducible rfl)
        simp only [Act.put, List.setIfInBounds_toArray, List.set_cons_zero, List.set_cons_succ]
        refine regT_take (i := 1) (d := some 60) (v := ?_) [] hk rfl rfl (by kernel_rfl) (by kernel_rfl) (by kernel_rfl) (by kernel_rfl) (by kernel_rfl) (by decide) (fun _ _ _ h => h) (Or.inl ⟨by rfl, ?_⟩) ?_
        rotate_left
        · intro w' hx; (go_simp <;> with_reducible rfl)
        simp only [Act.put, List.setIfInBounds_toArray, List.set_cons_zero, List.set_cons_succ]
        refine regT_take (i := 2) (d := some 61) (v := ?_) [] hk rfl rfl (by kernel_rfl) (by kernel_rfl) (by kernel_rfl) (by kernel_rfl) (by kernel_rfl) (by decide) (fun _ _ _ h => h) (Or.inl ⟨by rfl, ?_⟩) ?_
        rotate_left
        · intro w' hx; (go_simp <;> with_reducible rfl)
        simp only [Act.put, List.setIfInBounds_toArray, List.set_cons_zero, List.set_cons_succ]
        refine regT_take (i := 3) (d := some 62) (v := ?_) [] hk rfl rfl (by kernel_rfl) (by kernel_rfl) (by kernel_rfl) (by kernel_rfl) (by kernel_rfl) (by decide) (fun _ _ _ h => h) (Or.inl ⟨by rfl, ?_⟩) ?_
        rotate_left
        · intro w' hx; obtain ⟨q0, q1, q2, q3, q4, q5, q6, q7⟩ := cells8 hx; (go_simp <;> with_reducible rfl)
        simp only [Act.put, List.setIfInBounds_toArray, List.set_cons_zero, List.set_cons_succ]
        refine regT_take (i := 5) (d := some 64) (v := ?_) [] hk rfl rfl (by kernel_rfl) (by kernel_rfl) (by kernel_rfl) (by kernel_rfl) (by kernel_rfl) (by decide) (fun _ _ _ h => h) (Or.inl ⟨by rfl, ?_⟩) ?_
        rotate_left
        · intro w' hx; (go_simp <;> with_reducible rfl)
        simp only [Act.put, List.setIfInBounds_toArray, List.set_cons_zero, List.set_cons_succ]
        refine regT_take (i := 6) (d := some 65) (v := ?_) [] hk rfl rfl (by kernel_rfl) (by kernel_rfl) (by kernel_rfl) (by kernel_rfl) (by kernel_rfl) (by decide) (fun _ _ _ h => h) (Or.inl ⟨by rfl, ?_⟩) ?_
        rotate_left
        · intro w' hx; (go_simp <;> with_reducible rfl)
        simp only [Act.put, List.setIfInBounds_toArray, List.set_cons_zero, List.set_cons_succ]
        refine regT_take (i := 7) (d := some 66) (v := ?_) [] hk rfl rfl (by kernel_rfl) (by kernel_rfl) (by kernel_rfl) (by kernel_rfl) (by kernel_rfl) (by decide) (fun _ _ _ h => h) (Or.inl ⟨by rfl, ?_⟩) ?_
        rotate_left
        · intro w' hx; obtain ⟨q0, q1, q2, q3, q4, q5, q6, q7⟩ := cells8 hx; (go_simp <;> with_reducible rfl)
        simp only [Act.put, List.setIfInBounds_toArray, List.set_cons_zero, List.set_cons_succ]
        refine regT_take (i := 9) (d := some 68) (v := ?_) [] hk rfl rfl (by kernel_rfl) (by kernel_rfl) (by kernel_rfl) (by kernel_rfl) (by kernel_rfl) (by decide) (fun _ _ _ h => h) (Or.inl ⟨by rfl, ?_⟩) ?_
        rotate_left
        · intro w' hx; (go_simp <;> with_reducible rfl)
        simp only [Act.put, List.setIfInBounds_toArray, List.set_cons_zero, List.set_cons_succ]
        refine regT_take (i := 10) (d := some 69) (v := ?_) [] hk rfl rfl (by kernel_rfl) (by kernel_rfl) (by kernel_rfl) (by kernel_rfl) (by kernel_rfl) (by decide) (fun _ _ _ h => h) (Or.inl ⟨by rfl, ?_⟩) ?_
        rotate_left
        · intro w' hx; (go_simp <;> with_reducible rfl)
        simp only [Act.put, List.setIfInBounds_toArray, List.set_cons_zero, List.set_cons_succ]
        refine regT_take (i := 11) (d := some 70) (v := ?_) [] hk rfl rfl (by kernel_rfl) (by kernel_rfl) (by kernel_rfl) (by kernel_rfl) (by kernel_rfl) (by decide) (fun _ _ _ h => h) (Or.inl ⟨by rfl, ?_⟩) ?_
        rotate_left
        · intro w' hx; obtain ⟨q0, q1, q2, q3, q4, q5, q6, q7⟩ := cells8 hx; (go_simp <;> with_reducible rfl)
        simp only [Act.put, List.setIfInBounds_toArray, List.set_cons_zero, List.set_cons_succ]
        refine regT_take (i := 13) (d := some 72) (v := ?_) [] hk rfl rfl (by kernel_rfl) (by kernel_rfl) (by kernel_rfl) (by kernel_rfl) (by kernel_rfl) (by decide) (fun _ _ _ h => h) (Or.inl ⟨by rfl, ?_⟩) ?_
        rotate_left
        · intro w' hx; (go_simp <;> with_reducible rfl)
        simp only [Act.put, List.setIfInBounds_toArray, List.set_cons_zero, List.set_cons_succ]
        refine regT_take (i := 14) (d := some 73) (v := ?_) [] hk rfl rfl (by kernel_rfl) (by kernel_rfl) (by kernel_rfl) (by kernel_rfl) (by kernel_rfl) (by decide) (fun _ _ _ h => h) (Or.inl ⟨by rfl, ?_⟩) ?_
        rotate_left
        · intro w' hx; (go_simp <;> with_reducible rfl)
        simp only [Act.put, List.setIfInBounds_toArray, List.set_cons_zero, List.set_cons_succ]
        refine regT_take (i := 15) (d := some 74) (v := ?_) [] hk rfl rfl (by kernel_rfl) (by kernel_rfl) (by kernel_rfl) (by kernel_rfl) (by kernel_rfl) (by decide) (fun _ _ _ h => h) (Or.inl ⟨by rfl, ?_⟩) ?_
        rotate_left
        · intro w' hx; obtain ⟨q0, q1, q2, q3, q4, q5, q6, q7⟩ := cells8 hx; (go_simp <;> with_reducible rfl)
        simp only [Act.put, List.setIfInBounds_toArray, List.set_cons_zero, List.set_cons_succ]
        refine regT_one 4 _ (by kernel_rfl) rfl ?_
        intro K hK
        go_simp
        refine (wi16N_any B b _ xx U13 hW (by first | omega | (simp only [List.length_append, List.length_cons, List.length_nil, b2]; omega))).mono ?_
        rintro e U14 ⟨rfl, hW1, hT1⟩
        have hk' := wr_box hW hk hT1
        have hT' := hT.trans hT1
        refine hK.out _ _ (fun _ => hk') ?_
        clear hK K hT hk hW hT1
        have hT := hT'
        have hk := hk'
        have hW := hW1
        clear hT' hk' hW1
        refine regT_one 8 _ (by kernel_rfl) rfl ?_
        intro K hK
        go_simp
        refine (wi16N_any B b _ xy U14 hW (by first | omega | (simp only [List.length_append, List.length_cons, List.length_nil, b2]; omega))).mono ?_
        rintro e U15 ⟨rfl, hW1, hT1⟩
        have hk' := wr_box hW hk hT1
        have hT' := hT.trans hT1
        refine hK.out _ _ (fun _ => hk') ?_
        clear hK K hT hk hW hT1
        have hT := hT'
        have hk := hk'
        have hW := hW1
        clear hT' hk' hW1
        refine regT_one 12 _ (by kernel_rfl) rfl ?_
        intro K hK
        go_simp
        refine (wi16N_any B b _ yx U15 hW (by first | omega | (simp only [List.length_append, List.length_cons, List.length_nil, b2]; omega))).mono ?_
        rintro e U16 ⟨rfl, hW1, hT1⟩
        have hk' := wr_box hW hk hT1
        have hT' := hT.trans hT1
        refine hK.out _ _ (fun _ => hk') ?_
        clear hK K hT hk hW hT1
        have hT := hT'
        have hk := hk'
        have hW := hW1
        clear hT' hk' hW1
        refine regT_one 16 _ (by kernel_rfl) rfl ?_
        intro K hK
        go_simp
        refine (wi16N_any B b _ yy U16 hW (by first | omega | (simp only [List.length_append, List.length_cons, List.length_nil, b2]; omega))).mono ?_
        rintro e U17 ⟨rfl, hW1, hT1⟩
        have hk' := wr_box hW hk hT1
        have hT' := hT.trans hT1
        refine hK.out _ _ (fun _ => hk') ?_
        clear hK K hT hk hW hT1
        have hT := hT'
        have hk := hk'
        have hW := hW1
        clear hT' hk' hW1
        refine regT_done (by kernel_rfl) ?_ _
        go_wp2
        go_end0
        exact ⟨rfl, by simpa [List.append_assoc] using hW, hT⟩
    · skip
      go_upto_region 6 with fail
      have hdr : TurnedN U5 U5.drew b := .of_below (Below.refl _ _).drew hW.from_.2
      have hT' := hT.trans hdr
      have hk' := wr_box hW hk hdr
      have hW' := hW.below (Below.refl _ _).drew
      clear hT hk hW hdr
      have hT := hT'
      have hk := hk'
      have hW := hW'
      clear hT' hk' hW'
      refine regT_start 7 (fun W' => W'.heap[w.heap.size]? = some (.cells #[.int .u16 f, .int .u16 i, .int .i16 x, .int .i16 y, .int .i16 xx, .int .i16 xy, .int .i16 yx, .int .i16 yy] 46 (0, 0))) (by kernel_rfl) ?_
      generalize U5.drew = U18 at *
      refine regT_take (i := 0) (d := some 20) (v := ?_) [] hk rfl rfl (by kernel_rfl) (by kernel_rfl) (by kernel_rfl) (by kernel_rfl) (by kernel_rfl) (by decide) (fun _ _ _ h => h) (Or.inl ⟨by rfl, ?_⟩) ?_
      rotate_left
      · intro w' hx; (go_simp <;> with_reducible rfl)
      simp only [Act.put, List.setIfInBounds_toArray, List.set_cons_zero, List.set_cons_succ]
      refine regT_take (i := 1) (d := some 21) (v := ?_) [] hk rfl rfl (by kernel_rfl) (by kernel_rfl) (by kernel_rfl) (by kernel_rfl) (by kernel_rfl) (by decide) (fun _ _ _ h => h) (Or.inl ⟨by rfl, ?_⟩) ?_
      rotate_left
      · intro w' hx; (go_simp <;> with_reducible rfl)
      simp only [Act.put, List.setIfInBounds_toArray, List.set_cons_zero, List.set_cons_succ]
      refine regT_take (i := 2) (d := some 22) (v := ?_) [] hk rfl rfl (by kernel_rfl) (by kernel_rfl) (by kernel_rfl) (by kernel_rfl) (by kernel_rfl) (by decide) (fun _ _ _ h => h) (Or.inl ⟨by rfl, ?_⟩) ?_
      rotate_left
      · intro w' hx; obtain ⟨q0, q1, q2, q3, q4, q5, q6, q7⟩ := cells8 hx; (go_simp <;> with_reducible rfl)
      simp only [Act.put, List.setIfInBounds_toArray, List.set_cons_zero, List.set_cons_succ]
      refine regT_take (i := 4) (d := some 24) (v := ?_) [] hk rfl rfl (by kernel_rfl) (by kernel_rfl) (by kernel_rfl) (by kernel_rfl) (by kernel_rfl) (by decide) (fun _ _ _ h => h) (Or.inl ⟨by rfl, ?_⟩) ?_
      rotate_left
      · intro w' hx; (go_simp <;> with_reducible rfl)
      simp only [Act.put, List.setIfInBounds_toArray, List.set_cons_zero, List.set_cons_succ]
      refine regT_take (i := 5) (d := some 25) (v := ?_) [] hk rfl rfl (by kernel_rfl) (by kernel_rfl) (by kernel_rfl) (by kernel_rfl) (by kernel_rfl) (by decide) (fun _ _ _ h => h) (Or.inl ⟨by rfl, ?_⟩) ?_
      rotate_left
      · intro w' hx; obtain ⟨q0, q1, q2, q3, q4, q5, q6, q7⟩ := cells8 hx; (go_simp <;> with_reducible rfl)
      simp only [Act.put, List.setIfInBounds_toArray, List.set_cons_zero, List.set_cons_succ]
      refine regT_one 3 _ (by kernel_rfl) rfl ?_
      intro K hK
      go_simp
      refine (wi16N_any B b _ x U18 hW (by first | omega | (simp only [List.length_append, List.length_cons, List.length_nil, b2]; omega))).mono ?_
      rintro e U19 ⟨rfl, hW1, hT1⟩
      have hk' := wr_box hW hk hT1
      have hT' := hT.trans hT1
      refine hK.out _ _ (fun _ => hk') ?_
      clear hK K hT hk hW hT1
      have hT := hT'
      have hk := hk'
      have hW := hW1
      clear hT' hk' hW1
      refine regT_one 6 _ (by kernel_rfl) rfl ?_
      intro K hK
      go_simp
      refine (wi16N_any B b _ y U19 hW (by first | omega | (simp only [List.length_append, List.length_cons, List.length_nil, b2]; omega))).mono ?_
      rintro e U20 ⟨rfl, hW1, hT1⟩
      have hk' := wr_box hW hk hT1
      have hT' := hT.trans hT1
      refine hK.out _ _ (fun _ => hk') ?_
      clear hK K hT hk hW hT1
      have hT := hT'
      have hk := hk'
      have hW := hW1
      clear hT' hk' hW1
      refine regT_done (by kernel_rfl) ?_ _
      obtain ⟨q0, q1, q2, q3, q4, q5, q6, q7⟩ := cells8 hk
      rcases hkn with rfl | rfl | rfl | rfl
      · skip
        go_wp2
        go_end0
        exact ⟨rfl, by simpa [List.append_assoc] using hW, hT⟩
      · go_wp2_with fail
        refine (wi16N_any B b _ xx U20 hW (by first | omega | (simp only [List.length_append, List.length_cons, List.length_nil, b2]; omega))).mono ?_
        rintro e U21 ⟨rfl, hW1, hT1⟩
        have hT' := hT.trans hT1
        clear hT hW hT1 q0 q1 q2 q3 q4 q5 q6 q7 hk
        have hT := hT'
        have hW := hW1
        go_wp2
        go_end0
        exact ⟨rfl, by simpa [List.append_assoc] using hW, hT⟩
      · skip
        go_upto_region 12 with fail
        clear q0 q1 q2 q3 q4 q5 q6 q7
        have hdr : TurnedN U20 U20.drew b := .of_below (Below.refl _ _).drew hW.from_.2
        have hT' := hT.trans hdr
        have hk' := wr_box hW hk hdr
        have hW' := hW.below (Below.refl _ _).drew
        clear hT hk hW hdr
        have hT := hT'
        have hk := hk'
        have hW := hW'
        clear hT' hk' hW'
        refine regT_start 9 (fun W' => W'.heap[w.heap.size]? = some (.cells #[.int .u16 f, .int .u16 i, .int .i16 x, .int .i16 y, .int .i16 xx, .int .i16 xy, .int .i16 yx, .int .i16 yy] 46 (0, 0))) (by kernel_rfl) ?_
        generalize U20.drew = U22 at *
        refine regT_take (i := 0) (d := some 48) (v := ?_) [] hk rfl rfl (by kernel_rfl) (by kernel_rfl) (by kernel_rfl) (by kernel_rfl) (by kernel_rfl) (by decide) (fun _ _ _ h => h) (Or.inl ⟨by rfl, ?_⟩) ?_
        rotate_left
        · intro w' hx; (go_simp <;> with_reducible rfl)
        simp only [Act.put, List.setIfInBounds_toArray, List.set_cons_zero, List.set_cons_succ]
        refine regT_take (i := 1) (d := some 49) (v := ?_) [] hk rfl rfl (by kernel_rfl) (by kernel_rfl) (by kernel_rfl) (by kernel_rfl) (by kernel_rfl) (by decide) (fun _ _ _ h => h) (Or.inl ⟨by rfl, ?_⟩) ?_
        rotate_left
        · intro w' hx; (go_simp <;> with_reducible rfl)
        simp only [Act.put, List.setIfInBounds_toArray, List.set_cons_zero, List.set_cons_succ]
        refine regT_take (i := 2) (d := some 50) (v := ?_) [] hk rfl rfl (by kernel_rfl) (by kernel_rfl) (by kernel_rfl) (by kernel_rfl) (by kernel_rfl) (by decide) (fun _ _ _ h => h) (Or.inl ⟨by rfl, ?_⟩) ?_
        rotate_left
        · intro w' hx; (go_simp <;> with_reducible rfl)
        simp only [Act.put, List.setIfInBounds_toArray, List.set_cons_zero, List.set_cons_succ]
        refine regT_take (i := 3) (d := some 51) (v := ?_) [] hk rfl rfl (by kernel_rfl) (by kernel_rfl) (by kernel_rfl) (by kernel_rfl) (by kernel_rfl) (by decide) (fun _ _ _ h => h) (Or.inl ⟨by rfl, ?_⟩) ?_
        rotate_left
        · intro w' hx; obtain ⟨q0, q1, q2, q3, q4, q5, q6, q7⟩ := cells8 hx; (go_simp <;> with_reducible rfl)
        simp only [Act.put, List.setIfInBounds_toArray, List.set_cons_zero, List.set_cons_succ]
        refine regT_take (i := 5) (d := some 53) (v := ?_) [] hk rfl rfl (by kernel_rfl) (by kernel_rfl) (by kernel_rfl) (by kernel_rfl) (by kernel_rfl) (by decide) (fun _ _ _ h => h) (Or.inl ⟨by rfl, ?_⟩) ?_
        rotate_left
        · intro w' hx; (go_simp <;> with_reducible rfl)
        simp only [Act.put, List.setIfInBounds_toArray, List.set_cons_zero, List.set_cons_succ]
        refine regT_take (i := 6) (d := some 54) (v := ?_) [] hk rfl rfl (by kernel_rfl) (by kernel_rfl) (by kernel_rfl) (by kernel_rfl) (by kernel_rfl) (by decide) (fun _ _ _ h => h) (Or.inl ⟨by rfl, ?_⟩) ?_
        rotate_left
        · intro w' hx; (go_simp <;> with_reducible rfl)
        simp only [Act.put, List.setIfInBounds_toArray, List.set_cons_zero, List.set_cons_succ]
        refine regT_take (i := 7) (d := some 55) (v := ?_) [] hk rfl rfl (by kernel_rfl) (by kernel_rfl) (by kernel_rfl) (by kernel_rfl) (by kernel_rfl) (by decide) (fun _ _ _ h => h) (Or.inl ⟨by rfl, ?_⟩) ?_
        rotate_left
        · intro w' hx; obtain ⟨q0, q1, q2, q3, q4, q5, q6, q7⟩ := cells8 hx; (go_simp <;> with_reducible rfl)
        simp only [Act.put, List.setIfInBounds_toArray, List.set_cons_zero, List.set_cons_succ]
        refine regT_one 4 _ (by kernel_rfl) rfl ?_
        intro K hK
        go_simp
        refine (wi16N_any B b _ xx U22 hW (by first | omega | (simp only [List.length_append, List.length_cons, List.length_nil, b2]; omega))).mono ?_
        rintro e U23 ⟨rfl, hW1, hT1⟩
        have hk' := wr_box hW hk hT1
        have hT' := hT.trans hT1
        refine hK.out _ _ (fun _ => hk') ?_
        clear hK K hT hk hW hT1
        have hT := hT'
        have hk := hk'
        have hW := hW1
        clear hT' hk' hW1
        refine regT_one 8 _ (by kernel_rfl) rfl ?_
        intro K hK
        go_simp
        refine (wi16N_any B b _ yy U23 hW (by first | omega | (simp only [List.length_append, List.length_cons, List.length_nil, b2]; omega))).mono ?_
        rintro e U24 ⟨rfl, hW1, hT1⟩
        have hk' := wr_box hW hk hT1
        have hT' := hT.trans hT1
        refine hK.out _ _ (fun _ => hk') ?_
        clear hK K hT hk hW hT1
        have hT := hT'
        have hk := hk'
        have hW := hW1
        clear hT' hk' hW1
        refine regT_done (by kernel_rfl) ?_ _
        go_wp2
        go_end0
        exact ⟨rfl, by simpa [List.append_assoc] using hW, hT⟩
      · skip
        go_upto_region 14 with fail
        clear q0 q1 q2 q3 q4 q5 q6 q7
        have hdr : TurnedN U20 U20.drew b := .of_below (Below.refl _ _).drew hW.from_.2
        have hT' := hT.trans hdr
        have hk' := wr_box hW hk hdr
        have hW' := hW.below (Below.refl _ _).drew
        clear hT hk hW hdr
        have hT := hT'
        have hk := hk'
        have hW := hW'
        clear hT' hk' hW'
        refine regT_start 17 (fun W' => W'.heap[w.heap.size]? = some (.cells #[.int .u16 f, .int .u16 i, .int .i16 x, .int .i16 y, .int .i16 xx, .int .i16 xy, .int .i16 yx, .int .i16 yy] 46 (0, 0))) (by kernel_rfl) ?_
        generalize U20.drew = U25 at *
        refine regT_take (i := 0) (d := some 59) (v := ?_) [] hk rfl rfl (by kernel_rfl) (by kernel_rfl) (by kernel_rfl) (by kernel_rfl) (by kernel_rfl) (by decide) (fun _ _ _ h => h) (Or.inl ⟨by rfl, ?_⟩) ?_
        rotate_left
        · intro w' hx; (go_simp <;> with_reducible rfl)
        simp only [Act.put, List.setIfInBounds_toArray, List.set_cons_zero, List.set_cons_succ]
        refine regT_take (i := 1) (d := some 60) (v := ?_) [] hk rfl rfl (by kernel_rfl) (by kernel_rfl) (by kernel_rfl) (by kernel_rfl) (by kernel_rfl) (by decide) (fun _ _ _ h => h) (Or.inl ⟨by rfl, ?_⟩) ?_
        rotate_left
        · intro w' hx; (go_simp <;> with_reducible rfl)
        simp only [Act.put, List.setIfInBounds_toArray, List.set_cons_zero, List.set_cons_succ]
        refine regT_take (i := 2) (d := some 61) (v := ?_) [] hk rfl rfl (by kernel_rfl) (by kernel_rfl) (by kernel_rfl) (by kernel_rfl) (by kernel_rfl) (by decide) (fun _ _ _ h => h) (Or.inl ⟨by rfl, ?_⟩) ?_
        rotate_left
        · intro w' hx; (go_simp <;> with_reducible rfl)
        simp only [Act.put, List.setIfInBounds_toArray, List.set_cons_zero, List.set_cons_succ]
        refine regT_take (i := 3) (d := some 62) (v := ?_) [] hk rfl rfl (by kernel_rfl) (by kernel_rfl) (by kernel_rfl) (by kernel_rfl) (by kernel_rfl) (by decide) (fun _ _ _ h => h) (Or.inl ⟨by rfl, ?_⟩) ?_
        rotate_left
        · intro w' hx; obtain ⟨q0, q1, q2, q3, q4, q5, q6, q7⟩ := cells8 hx; (go_simp <;> with_reducible rfl)
        simp only [Act.put, List.setIfInBounds_toArray, List.set_cons_zero, List.set_cons_succ]
        refine regT_take (i := 5) (d := some 64) (v := ?_) [] hk rfl rfl (by kernel_rfl) (by kernel_rfl) (by kernel_rfl) (by kernel_rfl) (by kernel_rfl) (by decide) (fun _ _ _ h => h) (Or.inl ⟨by rfl, ?_⟩) ?_
        rotate_left
        · intro w' hx; (go_simp <;> with_reducible rfl)
        simp only [Act.put, List.setIfInBounds_toArray, List.set_cons_zero, List.set_cons_succ]
        refine regT_take (i := 6) (d := some 65) (v := ?_) [] hk rfl rfl (by kernel_rfl) (by kernel_rfl) (by kernel_rfl) (by kernel_rfl) (by kernel_rfl) (by decide) (fun _ _ _ h => h) (Or.inl ⟨by rfl, ?_⟩) ?_
        rotate_left
        · intro w' hx; (go_simp <;> with_reducible rfl)
        simp only [Act.put, List.setIfInBounds_toArray, List.set_cons_zero, List.set_cons_succ]
        refine regT_take (i := 7) (d := some 66) (v := ?_) [] hk rfl rfl (by kernel_rfl) (by kernel_rfl) (by kernel_rfl) (by kernel_rfl) (by kernel_rfl) (by decide) (fun _ _ _ h => h) (Or.inl ⟨by rfl, ?_⟩) ?_
        rotate_left
        · intro w' hx; obtain ⟨q0, q1, q2, q3, q4, q5, q6, q7⟩ := cells8 hx; (go_simp <;> with_reducible rfl)
        simp only [Act.put, List.setIfInBounds_toArray, List.set_cons_zero, List.set_cons_succ]
        refine regT_take (i := 9) (d := some 68) (v := ?_) [] hk rfl rfl (by kernel_rfl) (by kernel_rfl) (by kernel_rfl) (by kernel_rfl) (by kernel_rfl) (by decide) (fun _ _ _ h => h) (Or.inl ⟨by rfl, ?_⟩) ?_
        rotate_left
        · intro w' hx; (go_simp <;> with_reducible rfl)
        simp only [Act.put, List.setIfInBounds_toArray, List.set_cons_zero, List.set_cons_succ]
        refine regT_take (i := 10) (d := some 69) (v := ?_) [] hk rfl rfl (by kernel_rfl) (by kernel_rfl) (by kernel_rfl) (by kernel_rfl) (by kernel_rfl) (by decide) (fun _ _ _ h => h) (Or.inl ⟨by rfl, ?_⟩) ?_
        rotate_left
        · intro w' hx; (go_simp <;> with_reducible rfl)
        simp only [Act.put, List.setIfInBounds_toArray, List.set_cons_zero, List.set_cons_succ]
        refine regT_take (i := 11) (d := some 70) (v := ?_) [] hk rfl rfl (by kernel_rfl) (by kernel_rfl) (by kernel_rfl) (by kernel_rfl) (by kernel_rfl) (by decide) (fun _ _ _ h => h) (Or.inl ⟨by rfl, ?_⟩) ?_
        rotate_left
        · intro w' hx; obtain ⟨q0, q1, q2, q3, q4, q5, q6, q7⟩ := cells8 hx; (go_simp <;> with_reducible rfl)
        simp only [Act.put, List.setIfInBounds_toArray, List.set_cons_zero, List.set_cons_succ]
        refine regT_take (i := 13) (d := some 72) (v := ?_) [] hk rfl rfl (by kernel_rfl) (by kernel_rfl) (by kernel_rfl) (by kernel_rfl) (by kernel_rfl) (by decide) (fun _ _ _ h => h) (Or.inl ⟨by rfl, ?_⟩) ?_
        rotate_left
        · intro w' hx; (go_simp <;> with_reducible rfl)
        simp only [Act.put, List.setIfInBounds_toArray, List.set_cons_zero, List.set_cons_succ]
        refine regT_take (i := 14) (d := some 73) (v := ?_) [] hk rfl rfl (by kernel_rfl) (by kernel_rfl) (by kernel_rfl) (by kernel_rfl) (by kernel_rfl) (by decide) (fun _ _ _ h => h) (Or.inl ⟨by rfl, ?_⟩) ?_
        rotate_left
        · intro w' hx; (go_simp <;> with_reducible rfl)
        simp only [Act.put, List.setIfInBounds_toArray, List.set_cons_zero, List.set_cons_succ]
        refine regT_take (i := 15) (d := some 74) (v := ?_) [] hk rfl rfl (by kernel_rfl) (by kernel_rfl) (by kernel_rfl) (by kernel_rfl) (by kernel_rfl) (by decide) (fun _ _ _ h => h) (Or.inl ⟨by rfl, ?_⟩) ?_
        rotate_left
        · intro w' hx; obtain ⟨q0, q1, q2, q3, q4, q5, q6, q7⟩ := cells8 hx; (go_simp <;> with_reducible rfl)
        simp only [Act.put, List.setIfInBounds_toArray, List.set_cons_zero, List.set_cons_succ]
        refine regT_one 4 _ (by kernel_rfl) rfl ?_
        intro K hK
        go_simp
        refine (wi16N_any B b _ xx U25 hW (by first | omega | (simp only [List.length_append, List.length_cons, List.length_nil, b2]; omega))).mono ?_
        rintro e U26 ⟨rfl, hW1, hT1⟩
        have hk' := wr_box hW hk hT1
        have hT' := hT.trans hT1
        refine hK.out _ _ (fun _ => hk') ?_
        clear hK K hT hk hW hT1
        have hT := hT'
        have hk := hk'
        have hW := hW1
        clear hT' hk' hW1
        refine regT_one 8 _ (by kernel_rfl) rfl ?_
        intro K hK
        go_simp
        refine (wi16N_any B b _ xy U26 hW (by first | omega | (simp only [List.length_append, List.length_cons, List.length_nil, b2]; omega))).mono ?_
        rintro e U27 ⟨rfl, hW1, hT1⟩
        have hk' := wr_box hW hk hT1
        have hT' := hT.trans hT1
        refine hK.out _ _ (fun _ => hk') ?_
        clear hK K hT hk hW hT1
        have hT := hT'
        have hk := hk'
        have hW := hW1
        clear hT' hk' hW1
        refine regT_one 12 _ (by kernel_rfl) rfl ?_
        intro K hK
        go_simp
        refine (wi16N_any B b _ yx U27 hW (by first | omega | (simp only [List.length_append, List.length_cons, List.length_nil, b2]; omega))).mono ?_
        rintro e U28 ⟨rfl, hW1, hT1⟩
        have hk' := wr_box hW hk hT1
        have hT' := hT.trans hT1
        refine hK.out _ _ (fun _ => hk') ?_
        clear hK K hT hk hW hT1
        have hT := hT'
        have hk := hk'
        have hW := hW1
        clear hT' hk' hW1
        refine regT_one 16 _ (by kernel_rfl) rfl ?_
        intro K hK
        go_simp
        refine (wi16N_any B b _ yy U28 hW (by first | omega | (simp only [List.length_append, List.length_cons, List.length_nil, b2]; omega))).mono ?_
        rintro e U29 ⟨rfl, hW1, hT1⟩
        have hk' := wr_box hW hk hT1
        have hT' := hT.trans hT1
        refine hK.out _ _ (fun _ => hk') ?_
        clear hK K hT hk hW hT1
        have hT := hT'
        have hk := hk'
        have hW := hW1
        clear hT' hk' hW1
        refine regT_done (by kernel_rfl) ?_ _
        go_wp2
        go_end0
        exact ⟨rfl, by simpa [List.append_assoc] using hW, hT⟩
  · go_enter Try.func57, Try.ntmps57
    obtain ⟨q0, q1, q2, q3, q4, q5, q6, q7⟩ := cells8 hk
    go_upto_region 4 with fail
    generalize w.alloc _ = V at *
    clear q0 q1 q2 q3 q4 q5 q6 q7 hOr
    have hdr : TurnedN V V.drew b := .of_below (Below.refl _ _).drew hW.from_.2
    have hT' := hT.trans hdr
    have hk' := wr_box hW hk hdr
    have hW' := hW.below (Below.refl _ _).drew
    clear hT hk hW hdr
    have hT := hT'
    have hk := hk'
    have hW := hW'
    clear hT' hk' hW'
    refine regT_start 6 (fun W' => W'.heap[w.heap.size]? = some (.cells #[.int .u16 f, .int .u16 i, .int .i16 x, .int .i16 y, .int .i16 xx, .int .i16 xy, .int .i16 yx, .int .i16 yy] 46 (0, 0))) (by kernel_rfl) ?_
    generalize V.drew = U31 at *
    refine regT_take (i := 0) (d := some 12) (v := ?_) [] hk rfl rfl (by kernel_rfl) (by kernel_rfl) (by kernel_rfl) (by kernel_rfl) (by kernel_rfl) (by decide) (fun _ _ _ h => h) (Or.inl ⟨by rfl, ?_⟩) ?_
    rotate_left
    · intro w' hx; (go_simp <;> with_reducible rfl)
    simp only [Act.put, List.setIfInBounds_toArray, List.set_cons_zero, List.set_cons_succ]
    refine regT_take (i := 1) (d := some 13) (v := ?_) [] hk rfl rfl (by kernel_rfl) (by kernel_rfl) (by kernel_rfl) (by kernel_rfl) (by kernel_rfl) (by decide) (fun _ _ _ h => h) (Or.inl ⟨by rfl, ?_⟩) ?_
    rotate_left
    · intro w' hx; (go_simp <;> with_reducible rfl)
    simp only [Act.put, List.setIfInBounds_toArray, List.set_cons_zero, List.set_cons_succ]
    refine regT_take (i := 3) (d := some 15) (v := ?_) [] hk rfl rfl (by kernel_rfl) (by kernel_rfl) (by kernel_rfl) (by kernel_rfl) (by kernel_rfl) (by decide) (fun _ _ _ h => h) (Or.inl ⟨by rfl, ?_⟩) ?_
    rotate_left
    · intro w' hx; (go_simp <;> with_reducible rfl)
    simp only [Act.put, List.setIfInBounds_toArray, List.set_cons_zero, List.set_cons_succ]
    refine regT_take (i := 4) (d := some 16) (v := ?_) [] hk rfl rfl (by kernel_rfl) (by kernel_rfl) (by kernel_rfl) (by kernel_rfl) (by kernel_rfl) (by decide) (fun _ _ _ h => h) (Or.inl ⟨by rfl, ?_⟩) ?_
    rotate_left
    · intro w' hx; obtain ⟨q0, q1, q2, q3, q4, q5, q6, q7⟩ := cells8 hx; (go_simp <;> with_reducible rfl)
    simp only [Act.put, List.setIfInBounds_toArray, List.set_cons_zero, List.set_cons_succ]
    refine regT_one 2 _ (by kernel_rfl) rfl ?_
    intro K hK
    go_simp
    refine (wu16N_any B b _ (f + 32) U31 hW (by first | omega | (simp only [List.length_append, List.length_cons, List.length_nil, b2]; omega)) (by omega) (by omega)).mono ?_
    rintro e U32 ⟨rfl, hW1, hT1⟩
    have hk' := wr_box hW hk hT1
    have hT' := hT.trans hT1
    refine hK.out _ _ (fun _ => hk') ?_
    clear hK K hT hk hW hT1
    have hT := hT'
    have hk := hk'
    have hW := hW1
    clear hT' hk' hW1
    refine regT_one 5 _ (by kernel_rfl) rfl ?_
    intro K hK
    go_simp
    refine (wu16N_any B b _ i U32 hW (by first | omega | (simp only [List.length_append, List.length_cons, List.length_nil, b2]; omega)) (by omega) (by omega)).mono ?_
    rintro e U33 ⟨rfl, hW1, hT1⟩
    have hk' := wr_box hW hk hT1
    have hT' := hT.trans hT1
    refine hK.out _ _ (fun _ => hk') ?_
    clear hK K hT hk hW hT1
    have hT := hT'
    have hk := hk'
    have hW := hW1
    clear hT' hk' hW1
    refine regT_done (by kernel_rfl) ?_ _
    obtain ⟨q0, q1, q2, q3, q4, q5, q6, q7⟩ := cells8 hk
    go_wp2_with fail
    clear q0 q1 q2 q3 q4 q5 q6 q7
    refine (H1.out _).mono ?_
    rintro e U34 ⟨rfl, hb⟩
    have hT' := hT.trans (.of_below hb hW.from_.2)
    have hk' := kept_block hk hb
    have hW' := hW.below hb
    clear hT hk hW hb
    have hT := hT'
    have hk := hk'
    have hW := hW'
    clear hT' hk' hW'
    cases wd
    · skip
      go_upto_region 7 with fail
      have hdr : TurnedN U34 U34.drew b := .of_below (Below.refl _ _).drew hW.from_.2
      have hT' := hT.trans hdr
      have hk' := wr_box hW hk hdr
      have hW' := hW.below (Below.refl _ _).drew
      clear hT hk hW hdr
      have hT := hT'
      have hk := hk'
      have hW := hW'
      clear hT' hk' hW'
      refine regT_start 9 (fun W' => W'.heap[w.heap.size]? = some (.cells #[.int .u16 f, .int .u16 i, .int .i16 x, .int .i16 y, .int .i16 xx, .int .i16 xy, .int .i16 yx, .int .i16 yy] 46 (0, 0))) (by kernel_rfl) ?_
      generalize U34.drew = U35 at *
      refine regT_take (i := 0) (d := some 27) (v := ?_) [] hk rfl rfl (by kernel_rfl) (by kernel_rfl) (by kernel_rfl) (by kernel_rfl) (by kernel_rfl) (by decide) (fun _ _ _ h => h) (Or.inl ⟨by rfl, ?_⟩) ?_
      rotate_left
      · intro w' hx; (go_simp <;> with_reducible rfl)
      simp only [Act.put, List.setIfInBounds_toArray, List.set_cons_zero, List.set_cons_succ]
      refine regT_take (i := 1) (d := some 28) (v := ?_) [] hk rfl rfl (by kernel_rfl) (by kernel_rfl) (by kernel_rfl) (by kernel_rfl) (by kernel_rfl) (by decide) (fun _ _ _ h => h) (Or.inl ⟨by rfl, ?_⟩) ?_
      rotate_left
      · intro w' hx; (go_simp <;> with_reducible rfl)
      simp only [Act.put, List.setIfInBounds_toArray, List.set_cons_zero, List.set_cons_succ]
      refine regT_take (i := 2) (d := some 29) (v := ?_) [] hk rfl rfl (by kernel_rfl) (by kernel_rfl) (by kernel_rfl) (by kernel_rfl) (by kernel_rfl) (by decide) (fun _ _ _ h => h) (Or.inl ⟨by rfl, ?_⟩) ?_
      rotate_left
      · intro w' hx; obtain ⟨q0, q1, q2, q3, q4, q5, q6, q7⟩ := cells8 hx; (go_simp <;> with_reducible rfl)
      simp only [Act.put, List.setIfInBounds_toArray, List.set_cons_zero, List.set_cons_succ]
      refine regT_take (i := 3) (d := some 30) (v := ?_) [] hk rfl rfl (by kernel_rfl) (by kernel_rfl) (by kernel_rfl) (by kernel_rfl) (by kernel_rfl) (by decide) (fun _ _ _ h => h) (Or.inl ⟨by rfl, ?_⟩) ?_
      rotate_left
      · intro w' hx; (go_simp <;> with_reducible rfl)
      simp only [Act.put, List.setIfInBounds_toArray, List.set_cons_zero, List.set_cons_succ]
      refine regT_take (i := 5) (d := some 32) (v := ?_) [] hk rfl rfl (by kernel_rfl) (by kernel_rfl) (by kernel_rfl) (by kernel_rfl) (by kernel_rfl) (by decide) (fun _ _ _ h => h) (Or.inl ⟨by rfl, ?_⟩) ?_
      rotate_left
      · intro w' hx; (go_simp <;> with_reducible rfl)
      simp only [Act.put, List.setIfInBounds_toArray, List.set_cons_zero, List.set_cons_succ]
      refine regT_take (i := 6) (d := some 33) (v := ?_) [] hk rfl rfl (by kernel_rfl) (by kernel_rfl) (by kernel_rfl) (by kernel_rfl) (by kernel_rfl) (by decide) (fun _ _ _ h => h) (Or.inl ⟨by rfl, ?_⟩) ?_
      rotate_left
      · intro w' hx; obtain ⟨q0, q1, q2, q3, q4, q5, q6, q7⟩ := cells8 hx; (go_simp <;> with_reducible rfl)
      simp only [Act.put, List.setIfInBounds_toArray, List.set_cons_zero, List.set_cons_succ]
      refine regT_take (i := 7) (d := some 34) (v := ?_) [] hk rfl rfl (by kernel_rfl) (by kernel_rfl) (by kernel_rfl) (by kernel_rfl) (by kernel_rfl) (by decide) (fun _ _ _ h => h) (Or.inl ⟨by rfl, ?_⟩) ?_
      rotate_left
      · intro w' hx; (go_simp <;> with_reducible rfl)
      simp only [Act.put, List.setIfInBounds_toArray, List.set_cons_zero, List.set_cons_succ]
      refine regT_one 4 _ (by kernel_rfl) rfl ?_
      intro K hK
      go_simp
      refine (wu8N_any B b _ (x % 256) U35 hW (by first | omega | (simp only [List.length_append, List.length_cons, List.length_nil, b2]; omega))).mono ?_
      rintro e U36 ⟨rfl, hW1, hT1⟩
      have hk' := wr_box hW hk hT1
      have hT' := hT.trans hT1
      refine hK.out _ _ (fun _ => hk') ?_
      clear hK K hT hk hW hT1
      have hT := hT'
      have hk := hk'
      have hW := hW1
      clear hT' hk' hW1
      refine regT_one 8 _ (by kernel_rfl) rfl ?_
      intro K hK
      go_simp
      refine (wu8N_any B b _ (y % 256) U36 hW (by first | omega | (simp only [List.length_append, List.length_cons, List.length_nil, b2]; omega))).mono ?_
      rintro e U37 ⟨rfl, hW1, hT1⟩
      have hk' := wr_box hW hk hT1
      have hT' := hT.trans hT1
      refine hK.out _ _ (fun _ => hk') ?_
      clear hK K hT hk hW hT1
      have hT := hT'
      have hk := hk'
      have hW := hW1
      clear hT' hk' hW1
      refine regT_done (by kernel_rfl) ?_ _
      obtain ⟨q0, q1, q2, q3, q4, q5, q6, q7⟩ := cells8 hk
      rcases hkn with rfl | rfl | rfl | rfl
      · skip
        go_wp2
        go_end0
        exact ⟨rfl, by simpa [List.append_assoc] using hW, hT⟩
      · go_wp2_with fail
        refine (wi16N_any B b _ xx U37 hW (by first | omega | (simp only [List.length_append, List.length_cons, List.length_nil, b2]; omega))).mono ?_
        rintro e U38 ⟨rfl, hW1, hT1⟩
        have hT' := hT.trans hT1
        clear hT hW hT1 q0 q1 q2 q3 q4 q5 q6 q7 hk
        have hT := hT'
        have hW := hW1
        go_wp2
        go_end0
        exact ⟨rfl, by simpa [List.append_assoc] using hW, hT⟩
      · skip
        go_upto_region 12 with fail
        clear q0 q1 q2 q3 q4 q5 q6 q7
        have hdr : TurnedN U37 U37.drew b := .of_below (Below.refl _ _).drew hW.from_.2
        have hT' := hT.trans hdr
        have hk' := wr_box hW hk hdr
        have hW' := hW.below (Below.refl _ _).drew
        clear hT hk hW hdr
        have hT := hT'
        have hk := hk'
        have hW := hW'
        clear hT' hk' hW'
        refine regT_start 9 (fun W' => W'.heap[w.heap.size]? = some (.cells #[.int .u16 f, .int .u16 i, .int .i16 x, .int .i16 y, .int .i16 xx, .int .i16 xy, .int .i16 yx, .int .i16 yy] 46 (0, 0))) (by kernel_rfl) ?_
        generalize U37.drew = U39 at *
        refine regT_take (i := 0) (d := some 48) (v := ?_) [] hk rfl rfl (by kernel_rfl) (by kernel_rfl) (by kernel_rfl) (by kernel_rfl) (by kernel_rfl) (by decide) (fun _ _ _ h => h) (Or.inl ⟨by rfl, ?_⟩) ?_
        rotate_left
        · intro w' hx; (go_simp <;> with_reducible rfl)
        simp only [Act.put, List.setIfInBounds_toArray, List.set_cons_zero, List.set_cons_succ]
        refine regT_take (i := 1) (d := some 49) (v := ?_) [] hk rfl rfl (by kernel_rfl) (by kernel_rfl) (by kernel_rfl) (by kernel_rfl) (by kernel_rfl) (by decide) (fun _ _ _ h => h) (Or.inl ⟨by rfl, ?_⟩) ?_
        rotate_left
        · intro w' hx; (go_simp <;> with_reducible rfl)
        simp only [Act.put, List.setIfInBounds_toArray, List.set_cons_zero, List.set_cons_succ]
        refine regT_take (i := 2) (d := some 50) (v := ?_) [] hk rfl rfl (by kernel_rfl) (by kernel_rfl) (by kernel_rfl) (by kernel_rfl) (by kernel_rfl) (by decide) (fun _ _ _ h => h) (Or.inl ⟨by rfl, ?_⟩) ?_
        rotate_left
        · intro w' hx; (go_simp <;> with_reducible rfl)
        simp only [Act.put, List.setIfInBounds_toArray, List.set_cons_zero, List.set_cons_succ]
        refine regT_take (i := 3) (d := some 51) (v := ?_) [] hk rfl rfl (by kernel_rfl) (by kernel_rfl) (by kernel_rfl) (by kernel_rfl) (by kernel_rfl) (by decide) (fun _ _ _ h => h) (Or.inl ⟨by rfl, ?_⟩) ?_
        rotate_left
        · intro w' hx; obtain ⟨q0, q1, q2, q3, q4, q5, q6, q7⟩ := cells8 hx; (go_simp <;> with_reducible rfl)
        simp only [Act.put, List.setIfInBounds_toArray, List.set_cons_zero, List.set_cons_succ]
        refine regT_take (i := 5) (d := some 53) (v := ?_) [] hk rfl rfl (by kernel_rfl) (by kernel_rfl) (by kernel_rfl) (by kernel_rfl) (by kernel_rfl) (by decide) (fun _ _ _ h => h) (Or.inl ⟨by rfl, ?_⟩) ?_
        rotate_left
        · intro w' hx; (go_simp <;> with_reducible rfl)
        simp only [Act.put, List.setIfInBounds_toArray, List.set_cons_zero, List.set_cons_succ]
        refine regT_take (i := 6) (d := some 54) (v := ?_) [] hk rfl rfl (by kernel_rfl) (by kernel_rfl) (by kernel_rfl) (by kernel_rfl) (by kernel_rfl) (by decide) (fun _ _ _ h => h) (Or.inl ⟨by rfl, ?_⟩) ?_
        rotate_left
        · intro w' hx; (go_simp <;> with_reducible rfl)
        simp only [Act.put, List.setIfInBounds_toArray, List.set_cons_zero, List.set_cons_succ]
        refine regT_take (i := 7) (d := some 55) (v := ?_) [] hk rfl rfl (by kernel_rfl) (by kernel_rfl) (by kernel_rfl) (by kernel_rfl) (by kernel_rfl) (by decide) (fun _ _ _ h => h) (Or.inl ⟨by rfl, ?_⟩) ?_
        rotate_left
        · intro w' hx; obtain ⟨q0, q1, q2, q3, q4, q5, q6, q7⟩ := cells8 hx; (go_simp <;> with_reducible rfl)
        simp only [Act.put, List.setIfInBounds_toArray, List.set_cons_zero, List.set_cons_succ]
        refine regT_one 4 _ (by kernel_rfl) rfl ?_
        intro K hK
        go_simp
        refine (wi16N_any B b _ xx U39 hW (by first | omega | (simp only [List.length_append, List.length_cons, List.length_nil, b2]; omega))).mono ?_
        rintro e U40 ⟨rfl, hW1, hT1⟩
        have hk' := wr_box hW hk hT1
        have hT' := hT.trans hT1
        refine hK.out _ _ (fun _ => hk') ?_
        clear hK K hT hk hW hT1
        have hT := hT'
        have hk := hk'
        have hW := hW1
        clear hT' hk' hW1
        refine regT_one 8 _ (by kernel_rfl) rfl ?_
        intro K hK
        go_simp
        refine (wi16N_any B b _ yy U40 hW (by first | omega | (simp only [List.length_append, List.length_cons, List.length_nil, b2]; omega))).mono ?_
        rintro e U41 ⟨rfl, hW1, hT1⟩
        have hk' := wr_box hW hk hT1
        have hT' := hT.trans hT1
        refine hK.out _ _ (fun _ => hk') ?_
        clear hK K hT hk hW hT1
        have hT := hT'
        have hk := hk'
        have hW := hW1
        clear hT' hk' hW1
        refine regT_done (by kernel_rfl) ?_ _
        go_wp2
        go_end0
        exact ⟨rfl, by simpa [List.append_assoc] using hW, hT⟩
      · skip
        go_upto_region 14 with fail
        clear q0 q1 q2 q3 q4 q5 q6 q7
        have hdr : TurnedN U37 U37.drew b := .of_below (Below.refl _ _).drew hW.from_.2
        have hT' := hT.trans hdr
        have hk' := wr_box hW hk hdr
        have hW' := hW.below (Below.refl _ _).drew
        clear hT hk hW hdr
        have hT := hT'
        have hk := hk'
        have hW := hW'
        clear hT' hk' hW'
        refine regT_start 17 (fun W' => W'.heap[w.heap.size]? = some (.cells #[.int .u16 f, .int .u16 i, .int .i16 x, .int .i16 y, .int .i16 xx, .int .i16 xy, .int .i16 yx, .int .i16 yy] 46 (0, 0))) (by kernel_rfl) ?_
        generalize U37.drew = U42 at *
        refine regT_take (i := 0) (d := some 59) (v := ?_) [] hk rfl rfl (by kernel_rfl) (by kernel_rfl) (by kernel_rfl) (by kernel_rfl) (by kernel_rfl) (by decide) (fun _ _ _ h => h) (Or.inl ⟨by rfl, ?_⟩) ?_
        rotate_left
        · intro w' hx; (go_simp <;> with_reducible rfl)
        simp only [Act.put, List.setIfInBounds_toArray, List.set_cons_zero, List.set_cons_succ]
        refine regT_take (i := 1) (d := some 60) (v := ?_) [] hk rfl rfl (by kernel_rfl) (by kernel_rfl) (by kernel_rfl) (by kernel_rfl) (by kernel_rfl) (by decide) (fun _ _ _ h => h) (Or.inl ⟨by rfl, ?_⟩) ?_
        rotate_left
        · intro w' hx; (go_simp <;> with_reducible rfl)
        simp only [Act.put, List.setIfInBounds_toArray, List.set_cons_zero, List.set_cons_succ]
        refine regT_take (i := 2) (d := some 61) (v := ?_) [] hk rfl rfl (by kernel_rfl) (by kernel_rfl) (by kernel_rfl) (by kernel_rfl) (by kernel_rfl) (by decide) (fun _ _ _ h => h) (Or.inl ⟨by rfl, ?_⟩) ?_
        rotate_left
        · intro w' hx; (go_simp <;> with_reducible rfl)
        simp only [Act.put, List.setIfInBounds_toArray, List.set_cons_zero, List.set_cons_succ]
        refine regT_take (i := 3) (d := some 62) (v := ?_) [] hk rfl rfl (by kernel_rfl) (by kernel_rfl) (by kernel_rfl) (by kernel_rfl) (by kernel_rfl) (by decide) (fun _ _ _ h => h) (Or.inl ⟨by rfl, ?_⟩) ?_
        rotate_left
        · intro w' hx; obtain ⟨q0, q1, q2, q3, q4, q5, q6, q7⟩ := cells8 hx; (go_simp <;> with_reducible rfl)
        simp only [Act.put, List.setIfInBounds_toArray, List.set_cons_zero, List.set_cons_succ]
        refine regT_take (i := 5) (d := some 64) (v := ?_) [] hk rfl rfl (by kernel_rfl) (by kernel_rfl) (by kernel_rfl) (by kernel_rfl) (by kernel_rfl) (by decide) (fun _ _ _ h => h) (Or.inl ⟨by rfl, ?_⟩) ?_
        rotate_left
        · intro w' hx; (go_simp <;> with_reducible rfl)
        simp only [Act.put, List.setIfInBounds_toArray, List.set_cons_zero, List.set_cons_succ]
        refine regT_take (i := 6) (d := some 65) (v := ?_) [] hk rfl rfl (by kernel_rfl) (by kernel_rfl) (by kernel_rfl) (by kernel_rfl) (by kernel_rfl) (by decide) (fun _ _ _ h => h) (Or.inl ⟨by rfl, ?_⟩) ?_
        rotate_left
        · intro w' hx; (go_simp <;> with_reducible rfl)
        simp only [Act.put, List.setIfInBounds_toArray, List.set_cons_zero, List.set_cons_succ]
        refine regT_take (i := 7) (d := some 66) (v := ?_) [] hk rfl rfl (by kernel_rfl) (by kernel_rfl) (by kernel_rfl) (by kernel_rfl) (by kernel_rfl) (by decide) (fun _ _ _ h => h) (Or.inl ⟨by rfl, ?_⟩) ?_
        rotate_left
        · intro w' hx; obtain ⟨q0, q1, q2, q3, q4, q5, q6, q7⟩ := cells8 hx; (go_simp <;> with_reducible rfl)
        simp only [Act.put, List.setIfInBounds_toArray, List.set_cons_zero, List.set_cons_succ]
        refine regT_take (i := 9) (d := some 68) (v := ?_) [] hk rfl rfl (by kernel_rfl) (by kernel_rfl) (by kernel_rfl) (by kernel_rfl) (by kernel_rfl) (by decide) (fun _ _ _ h => h) (Or.inl ⟨by rfl, ?_⟩) ?_
        rotate_left
        · intro w' hx; (go_simp <;> with_reducible rfl)
        simp only [Act.put, List.setIfInBounds_toArray, List.set_cons_zero, List.set_cons_succ]
        refine regT_take (i := 10) (d := some 69) (v := ?_) [] hk rfl rfl (by kernel_rfl) (by kernel_rfl) (by kernel_rfl) (by kernel_rfl) (by kernel_rfl) (by decide) (fun _ _ _ h => h) (Or.inl ⟨by rfl, ?_⟩) ?_
        rotate_left
        · intro w' hx; (go_simp <;> with_reducible rfl)
        simp only [Act.put, List.setIfInBounds_toArray, List.set_cons_zero, List.set_cons_succ]
        refine regT_take (i := 11) (d := some 70) (v := ?_) [] hk rfl rfl (by kernel_rfl) (by kernel_rfl) (by kernel_rfl) (by kernel_rfl) (by kernel_rfl) (by decide) (fun _ _ _ h => h) (Or.inl ⟨by rfl, ?_⟩) ?_
        rotate_left
        · intro w' hx; obtain ⟨q0, q1, q2, q3, q4, q5, q6, q7⟩ := cells8 hx; (go_simp <;> with_reducible rfl)
        simp only [Act.put, List.setIfInBounds_toArray, List.set_cons_zero, List.set_cons_succ]
        refine regT_take (i := 13) (d := some 72) (v := ?_) [] hk rfl rfl (by kernel_rfl) (by kernel_rfl) (by kernel_rfl) (by kernel_rfl) (by kernel_rfl) (by decide) (fun _ _ _ h => h) (Or.inl ⟨by rfl, ?_⟩) ?_
        rotate_left
        · intro w' hx; (go_simp <;> with_reducible rfl)
        simp only [Act.put, List.setIfInBounds_toArray, List.set_cons_zero, List.set_cons_succ]
        refine regT_take (i := 14) (d := some 73) (v := ?_) [] hk rfl rfl (by kernel_rfl) (by kernel_rfl) (by kernel_rfl) (by kernel_rfl) (by kernel_rfl) (by decide) (fun _ _ _ h => h) (Or.inl ⟨by rfl, ?_⟩) ?_
        rotate_left
        · intro w' hx; (go_simp <;> with_reducible rfl)
        simp only [Act.put, List.setIfInBounds_toArray, List.set_cons_zero, List.set_cons_succ]
        refine regT_take (i := 15) (d := some 74) (v := ?_) [] hk rfl rfl (by kernel_rfl) (by kernel_rfl) (by kernel_rfl) (by kernel_rfl) (by kernel_rfl) (by decide) (fun _ _ _ h => h) (Or.inl ⟨by rfl, ?_⟩) ?_
        rotate_left
        · intro w' hx; obtain ⟨q0, q1, q2, q3, q4, q5, q6, q7⟩ := cells8 hx; (go_simp <;> with_reducible rfl)
        simp only [Act.put, List.setIfInBounds_toArray, List.set_cons_zero, List.set_cons_succ]
        refine regT_one 4 _ (by kernel_rfl) rfl ?_
        intro K hK
        go_simp
        refine (wi16N_any B b _ xx U42 hW (by first | omega | (simp only [List.length_append, List.length_cons, List.length_nil, b2]; omega))).mono ?_
        rintro e U43 ⟨rfl, hW1, hT1⟩
        have hk' := wr_box hW hk hT1
        have hT' := hT.trans hT1
        refine hK.out _ _ (fun _ => hk') ?_
        clear hK K hT hk hW hT1
        have hT := hT'
        have hk := hk'
        have hW := hW1
        clear hT' hk' hW1
        refine regT_one 8 _ (by kernel_rfl) rfl ?_
        intro K hK
        go_simp
        refine (wi16N_any B b _ xy U43 hW (by first | omega | (simp only [List.length_append, List.length_cons, List.length_nil, b2]; omega))).mono ?_
        rintro e U44 ⟨rfl, hW1, hT1⟩
        have hk' := wr_box hW hk hT1
        have hT' := hT.trans hT1
        refine hK.out _ _ (fun _ => hk') ?_
        clear hK K hT hk hW hT1
        have hT := hT'
        have hk := hk'
        have hW := hW1
        clear hT' hk' hW1
        refine regT_one 12 _ (by kernel_rfl) rfl ?_
        intro K hK
        go_simp
        refine (wi16N_any B b _ yx U44 hW (by first | omega | (simp only [List.length_append, List.length_cons, List.length_nil, b2]; omega))).mono ?_
        rintro e U45 ⟨rfl, hW1, hT1⟩
        have hk' := wr_box hW hk hT1
        have hT' := hT.trans hT1
        refine hK.out _ _ (fun _ => hk') ?_
        clear hK K hT hk hW hT1
        have hT := hT'
        have hk := hk'
        have hW := hW1
        clear hT' hk' hW1
        refine regT_one 16 _ (by kernel_rfl) rfl ?_
        intro K hK
        go_simp
        refine (wi16N_any B b _ yy U45 hW (by first | omega | (simp only [List.length_append, List.length_cons, List.length_nil, b2]; omega))).mono ?_
        rintro e U46 ⟨rfl, hW1, hT1⟩
        have hk' := wr_box hW hk hT1
        have hT' := hT.trans hT1
        refine hK.out _ _ (fun _ => hk') ?_
        clear hK K hT hk hW hT1
        have hT := hT'
        have hk := hk'
        have hW := hW1
        clear hT' hk' hW1
        refine regT_done (by kernel_rfl) ?_ _
        go_wp2
        go_end0
        exact ⟨rfl, by simpa [List.append_assoc] using hW, hT⟩
    · skip
      go_upto_region 6 with fail
      have hdr : TurnedN U34 U34.drew b := .of_below (Below.refl _ _).drew hW.from_.2
      have hT' := hT.trans hdr
      have hk' := wr_box hW hk hdr
      have hW' := hW.below (Below.refl _ _).drew
      clear hT hk hW hdr
      have hT := hT'
      have hk := hk'
      have hW := hW'
      clear hT' hk' hW'
      refine regT_start 7 (fun W' => W'.heap[w.heap.size]? = some (.cells #[.int .u16 f, .int .u16 i, .int .i16 x, .int .i16 y, .int .i16 xx, .int .i16 xy, .int .i16 yx, .int .i16 yy] 46 (0, 0))) (by kernel_rfl) ?_
      generalize U34.drew = U47 at *
      refine regT_take (i := 0) (d := some 20) (v := ?_) [] hk rfl rfl (by kernel_rfl) (by kernel_rfl) (by kernel_rfl) (by kernel_rfl) (by kernel_rfl) (by decide) (fun _ _ _ h => h) (Or.inl ⟨by rfl, ?_⟩) ?_
      rotate_left
      · intro w' hx; (go_simp <;> with_reducible rfl)
      simp only [Act.put, List.setIfInBounds_toArray, List.set_cons_zero, List.set_cons_succ]
      refine regT_take (i := 1) (d := some 21) (v := ?_) [] hk rfl rfl (by kernel_rfl) (by kernel_rfl) (by kernel_rfl) (by kernel_rfl) (by kernel_rfl) (by decide) (fun _ _ _ h => h) (Or.inl ⟨by rfl, ?_⟩) ?_
      rotate_left
      · intro w' hx; (go_simp <;> with_reducible rfl)
      simp only [Act.put, List.setIfInBounds_toArray, List.set_cons_zero, List.set_cons_succ]
      refine regT_take (i := 2) (d := some 22) (v := ?_) [] hk rfl rfl (by kernel_rfl) (by kernel_rfl) (by kernel_rfl) (by kernel_rfl) (by kernel_rfl) (by decide) (fun _ _ _ h => h) (Or.inl ⟨by rfl, ?_⟩) ?_
      rotate_left
      · intro w' hx; obtain ⟨q0, q1, q2, q3, q4, q5, q6, q7⟩ := cells8 hx; (go_simp <;> with_reducible rfl)
      simp only [Act.put, List.setIfInBounds_toArray, List.set_cons_zero, List.set_cons_succ]
      refine regT_take (i := 4) (d := some 24) (v := ?_) [] hk rfl rfl (by kernel_rfl) (by kernel_rfl) (by kernel_rfl) (by kernel_rfl) (by kernel_rfl) (by decide) (fun _ _ _ h => h) (Or.inl ⟨by rfl, ?_⟩) ?_
      rotate_left
      · intro w' hx; (go_simp <;> with_reducible rfl)
      simp only [Act.put, List.setIfInBounds_toArray, List.set_cons_zero, List.set_cons_succ]
      refine regT_take (i := 5) (d := some 25) (v := ?_) [] hk rfl rfl (by kernel_rfl) (by kernel_rfl) (by kernel_rfl) (by kernel_rfl) (by kernel_rfl) (by decide) (fun _ _ _ h => h) (Or.inl ⟨by rfl, ?_⟩) ?_
      rotate_left
      · intro w' hx; obtain ⟨q0, q1, q2, q3, q4, q5, q6, q7⟩ := cells8 hx; (go_simp <;> with_reducible rfl)
      simp only [Act.put, List.setIfInBounds_toArray, List.set_cons_zero, List.set_cons_succ]
      refine regT_one 3 _ (by kernel_rfl) rfl ?_
      intro K hK
      go_simp
      refine (wi16N_any B b _ x U47 hW (by first | omega | (simp only [List.length_append, List.length_cons, List.length_nil, b2]; omega))).mono ?_
      rintro e U48 ⟨rfl, hW1, hT1⟩
      have hk' := wr_box hW hk hT1
      have hT' := hT.trans hT1
      refine hK.out _ _ (fun _ => hk') ?_
      clear hK K hT hk hW hT1
      have hT := hT'
      have hk := hk'
      have hW := hW1
      clear hT' hk' hW1
      refine regT_one 6 _ (by kernel_rfl) rfl ?_
      intro K hK
      go_simp
      refine (wi16N_any B b _ y U48 hW (by first | omega | (simp only [List.length_append, List.length_cons, List.length_nil, b2]; omega))).mono ?_
      rintro e U49 ⟨rfl, hW1, hT1⟩
      have hk' := wr_box hW hk hT1
      have hT' := hT.trans hT1
      refine hK.out _ _ (fun _ => hk') ?_
      clear hK K hT hk hW hT1
      have hT := hT'
      have hk := hk'
      have hW := hW1
      clear hT' hk' hW1
      refine regT_done (by kernel_rfl) ?_ _
      obtain ⟨q0, q1, q2, q3, q4, q5, q6, q7⟩ := cells8 hk
      rcases hkn with rfl | rfl | rfl | rfl
      · skip
        go_wp2
        go_end0
        exact ⟨rfl, by simpa [List.append_assoc] using hW, hT⟩
      · go_wp2_with fail
        refine (wi16N_any B b _ xx U49 hW (by first | omega | (simp only [List.length_append, List.length_cons, List.length_nil, b2]; omega))).mono ?_
        rintro e U50 ⟨rfl, hW1, hT1⟩
        have hT' := hT.trans hT1
        clear hT hW hT1 q0 q1 q2 q3 q4 q5 q6 q7 hk
        have hT := hT'
        have hW := hW1
        go_wp2
        go_end0
        exact ⟨rfl, by simpa [List.append_assoc] using hW, hT⟩
      · skip
        go_upto_region 12 with fail
        clear q0 q1 q2 q3 q4 q5 q6 q7
        have hdr : TurnedN U49 U49.drew b := .of_below (Below.refl _ _).drew hW.from_.2
        have hT' := hT.trans hdr
        have hk' := wr_box hW hk hdr
        have hW' := hW.below (Below.refl _ _).drew
        clear hT hk hW hdr
        have hT := hT'
        have hk := hk'
        have hW := hW'
        clear hT' hk' hW'
        refine regT_start 9 (fun W' => W'.heap[w.heap.size]? = some (.cells #[.int .u16 f, .int .u16 i, .int .i16 x, .int .i16 y, .int .i16 xx, .int .i16 xy, .int .i16 yx, .int .i16 yy] 46 (0, 0))) (by kernel_rfl) ?_
        generalize U49.drew = U51 at *
        refine regT_take (i := 0) (d := some 48) (v := ?_) [] hk rfl rfl (by kernel_rfl) (by kernel_rfl) (by kernel_rfl) (by kernel_rfl) (by kernel_rfl) (by decide) (fun _ _ _ h => h) (Or.inl ⟨by rfl, ?_⟩) ?_
        rotate_left
        · intro w' hx; (go_simp <;> with_reducible rfl)
        simp only [Act.put, List.setIfInBounds_toArray, List.set_cons_zero, List.set_cons_succ]
        refine regT_take (i := 1) (d := some 49) (v := ?_) [] hk rfl rfl (by kernel_rfl) (by kernel_rfl) (by kernel_rfl) (by kernel_rfl) (by kernel_rfl) (by decide) (fun _ _ _ h => h) (Or.inl ⟨by rfl, ?_⟩) ?_
        rotate_left
        · intro w' hx; (go_simp <;> with_reducible rfl)
        simp only [Act.put, List.setIfInBounds_toArray, List.set_cons_zero, List.set_cons_succ]
        refine regT_take (i := 2) (d := some 50) (v := ?_) [] hk rfl rfl (by kernel_rfl) (by kernel_rfl) (by kernel_rfl) (by kernel_rfl) (by kernel_rfl) (by decide) (fun _ _ _ h => h) (Or.inl ⟨by rfl, ?_⟩) ?_
        rotate_left
        · intro w' hx; (go_simp <;> with_reducible rfl)
        simp only [Act.put, List.setIfInBounds_toArray, List.set_cons_zero, List.set_cons_succ]
        refine regT_take (i := 3) (d := some 51) (v := ?_) [] hk rfl rfl (by kernel_rfl) (by kernel_rfl) (by kernel_rfl) (by kernel_rfl) (by kernel_rfl) (by decide) (fun _ _ _ h => h) (Or.inl ⟨by rfl, ?_⟩) ?_
        rotate_left
        · intro w' hx; obtain ⟨q0, q1, q2, q3, q4, q5, q6, q7⟩ := cells8 hx; (go_simp <;> with_reducible rfl)
        simp only [Act.put, List.setIfInBounds_toArray, List.set_cons_zero, List.set_cons_succ]
        refine regT_take (i := 5) (d := some 53) (v := ?_) [] hk rfl rfl (by kernel_rfl) (by kernel_rfl) (by kernel_rfl) (by kernel_rfl) (by kernel_rfl) (by decide) (fun _ _ _ h => h) (Or.inl ⟨by rfl, ?_⟩) ?_
        rotate_left
        · intro w' hx; (go_simp <;> with_reducible rfl)
        simp only [Act.put, List.setIfInBounds_toArray, List.set_cons_zero, List.set_cons_succ]
        refine regT_take (i := 6) (d := some 54) (v := ?_) [] hk rfl rfl (by kernel_rfl) (by kernel_rfl) (by kernel_rfl) (by kernel_rfl) (by kernel_rfl) (by decide) (fun _ _ _ h => h) (Or.inl ⟨by rfl, ?_⟩) ?_
        rotate_left
        · intro w' hx; (go_simp <;> with_reducible rfl)
        simp only [Act.put, List.setIfInBounds_toArray, List.set_cons_zero, List.set_cons_succ]
        refine regT_take (i := 7) (d := some 55) (v := ?_) [] hk rfl rfl (by kernel_rfl) (by kernel_rfl) (by kernel_rfl) (by kernel_rfl) (by kernel_rfl) (by decide) (fun _ _ _ h => h) (Or.inl ⟨by rfl, ?_⟩) ?_
        rotate_left
        · intro w' hx; obtain ⟨q0, q1, q2, q3, q4, q5, q6, q7⟩ := cells8 hx; (go_simp <;> with_reducible rfl)
        simp only [Act.put, List.setIfInBounds_toArray, List.set_cons_zero, List.set_cons_succ]
        refine regT_one 4 _ (by kernel_rfl) rfl ?_
        intro K hK
        go_simp
        refine (wi16N_any B b _ xx U51 hW (by first | omega | (simp only [List.length_append, List.length_cons, List.length_nil, b2]; omega))).mono ?_
        rintro e U52 ⟨rfl, hW1, hT1⟩
        have hk' := wr_box hW hk hT1
        have hT' := hT.trans hT1
        refine hK.out _ _ (fun _ => hk') ?_
        clear hK K hT hk hW hT1
        have hT := hT'
        have hk := hk'
        have hW := hW1
        clear hT' hk' hW1
        refine regT_one 8 _ (by kernel_rfl) rfl ?_
        intro K hK
        go_simp
        refine (wi16N_any B b _ yy U52 hW (by first | omega | (simp only [List.length_append, List.length_cons, List.length_nil, b2]; omega))).mono ?_
        rintro e U53 ⟨rfl, hW1, hT1⟩
        have hk' := wr_box hW hk hT1
        have hT' := hT.trans hT1
        refine hK.out _ _ (fun _ => hk') ?_
        clear hK K hT hk hW hT1
        have hT := hT'
        have hk := hk'
        have hW := hW1
        clear hT' hk' hW1
        refine regT_done (by kernel_rfl) ?_ _
        go_wp2
        go_end0
        exact ⟨rfl, by simpa [List.append_assoc] using hW, hT⟩
      · skip
        go_upto_region 14 with fail
        clear q0 q1 q2 q3 q4 q5 q6 q7
        have hdr : TurnedN U49 U49.drew b := .of_below (Below.refl _ _).drew hW.from_.2
        have hT' := hT.trans hdr
        have hk' := wr_box hW hk hdr
        have hW' := hW.below (Below.refl _ _).drew
        clear hT hk hW hdr
        have hT := hT'
        have hk := hk'
        have hW := hW'
        clear hT' hk' hW'
        refine regT_start 17 (fun W' => W'.heap[w.heap.size]? = some (.cells #[.int .u16 f, .int .u16 i, .int .i16 x, .int .i16 y, .int .i16 xx, .int .i16 xy, .int .i16 yx, .int .i16 yy] 46 (0, 0))) (by kernel_rfl) ?_
        generalize U49.drew = U54 at *
        refine regT_take (i := 0) (d := some 59) (v := ?_) [] hk rfl rfl (by kernel_rfl) (by kernel_rfl) (by kernel_rfl) (by kernel_rfl) (by kernel_rfl) (by decide) (fun _ _ _ h => h) (Or.inl ⟨by rfl, ?_⟩) ?_
        rotate_left
        · intro w' hx; (go_simp <;> with_reducible rfl)
        simp only [Act.put, List.setIfInBounds_toArray, List.set_cons_zero, List.set_cons_succ]
        refine regT_take (i := 1) (d := some 60) (v := ?_) [] hk rfl rfl (by kernel_rfl) (by kernel_rfl) (by kernel_rfl) (by kernel_rfl) (by kernel_rfl) (by decide) (fun _ _ _ h => h) (Or.inl ⟨by rfl, ?_⟩) ?_
        rotate_left
        · intro w' hx; (go_simp <;> with_reducible rfl)
        simp only [Act.put, List.setIfInBounds_toArray, List.set_cons_zero, List.set_cons_succ]
        refine regT_take (i := 2) (d := some 61) (v := ?_) [] hk rfl rfl (by kernel_rfl) (by kernel_rfl) (by kernel_rfl) (by kernel_rfl) (by kernel_rfl) (by decide) (fun _ _ _ h => h) (Or.inl ⟨by rfl, ?_⟩) ?_
        rotate_left
        · intro w' hx; (go_simp <;> with_reducible rfl)
        simp only [Act.put, List.setIfInBounds_toArray, List.set_cons_zero, List.set_cons_succ]
        refine regT_take (i := 3) (d := some 62) (v := ?_) [] hk rfl rfl (by kernel_rfl) (by kernel_rfl) (by kernel_rfl) (by kernel_rfl) (by kernel_rfl) (by decide) (fun _ _ _ h => h) (Or.inl ⟨by rfl, ?_⟩) ?_
        rotate_left
        · intro w' hx; obtain ⟨q0, q1, q2, q3, q4, q5, q6, q7⟩ := cells8 hx; (go_simp <;> with_reducible rfl)
        simp only [Act.put, List.setIfInBounds_toArray, List.set_cons_zero, List.set_cons_succ]
        refine regT_take (i := 5) (d := some 64) (v := ?_) [] hk rfl rfl (by kernel_rfl) (by kernel_rfl) (by kernel_rfl) (by kernel_rfl) (by kernel_rfl) (by decide) (fun _ _ _ h => h) (Or.inl ⟨by rfl, ?_⟩) ?_
        rotate_left
        · intro w' hx; (go_simp <;> with_reducible rfl)
        simp only [Act.put, List.setIfInBounds_toArray, List.set_cons_zero, List.set_cons_succ]
        refine regT_take (i := 6) (d := some 65) (v := ?_) [] hk rfl rfl (by kernel_rfl) (by kernel_rfl) (by kernel_rfl) (by kernel_rfl) (by kernel_rfl) (by decide) (fun _ _ _ h => h) (Or.inl ⟨by rfl, ?_⟩) ?_
        rotate_left
        · intro w' hx; (go_simp <;> with_reducible rfl)
        simp only [Act.put, List.setIfInBounds_toArray, List.set_cons_zero, List.set_cons_succ]
        refine regT_take (i := 7) (d := some 66) (v := ?_) [] hk rfl rfl (by kernel_rfl) (by kernel_rfl) (by kernel_rfl) (by kernel_rfl) (by kernel_rfl) (by decide) (fun _ _ _ h => h) (Or.inl ⟨by rfl, ?_⟩) ?_
        rotate_left
        · intro w' hx; obtain ⟨q0, q1, q2, q3, q4, q5, q6, q7⟩ := cells8 hx; (go_simp <;> with_reducible rfl)
        simp only [Act.put, List.setIfInBounds_toArray, List.set_cons_zero, List.set_cons_succ]
        refine regT_take (i := 9) (d := some 68) (v := ?_) [] hk rfl rfl (by kernel_rfl) (by kernel_rfl) (by kernel_rfl) (by kernel_rfl) (by kernel_rfl) (by decide) (fun _ _ _ h => h) (Or.inl ⟨by rfl, ?_⟩) ?_
        rotate_left
        · intro w' hx; (go_simp <;> with_reducible rfl)
        simp only [Act.put, List.setIfInBounds_toArray, List.set_cons_zero, List.set_cons_succ]
        refine regT_take (i := 10) (d := some 69) (v := ?_) [] hk rfl rfl (by kernel_rfl) (by kernel_rfl) (by kernel_rfl) (by kernel_rfl) (by kernel_rfl) (by decide) (fun _ _ _ h => h) (Or.inl ⟨by rfl, ?_⟩) ?_
        rotate_left
        · intro w' hx; (go_simp <;> with_reducible rfl)
        simp only [Act.put, List.setIfInBounds_toArray, List.set_cons_zero, List.set_cons_succ]
        refine regT_take (i := 11) (d := some 70) (v := ?_) [] hk rfl rfl (by kernel_rfl) (by kernel_rfl) (by kernel_rfl) (by kernel_rfl) (by kernel_rfl) (by decide) (fun _ _ _ h => h) (Or.inl ⟨by rfl, ?_⟩) ?_
        rotate_left
        · intro w' hx; obtain ⟨q0, q1, q2, q3, q4, q5, q6, q7⟩ := cells8 hx; (go_simp <;> with_reducible rfl)
        simp only [Act.put, List.setIfInBounds_toArray, List.set_cons_zero, List.set_cons_succ]
        refine regT_take (i := 13) (d := some 72) (v := ?_) [] hk rfl rfl (by kernel_rfl) (by kernel_rfl) (by kernel_rfl) (by kernel_rfl) (by kernel_rfl) (by decide) (fun _ _ _ h => h) (Or.inl ⟨by rfl, ?_⟩) ?_
        rotate_left
        · intro w' hx; (go_simp <;> with_reducible rfl)
        simp only [Act.put, List.setIfInBounds_toArray, List.set_cons_zero, List.set_cons_succ]
        refine regT_take (i := 14) (d := some 73) (v := ?_) [] hk rfl rfl (by kernel_rfl) (by kernel_rfl) (by kernel_rfl) (by kernel_rfl) (by kernel_rfl) (by decide) (fun _ _ _ h => h) (Or.inl ⟨by rfl, ?_⟩) ?_
        rotate_left
        · intro w' hx; (go_simp <;> with_reducible rfl)
        simp only [Act.put, List.setIfInBounds_toArray, List.set_cons_zero, List.set_cons_succ]
        refine regT_take (i := 15) (d := some 74) (v := ?_) [] hk rfl rfl (by kernel_rfl) (by kernel_rfl) (by kernel_rfl) (by kernel_rfl) (by kernel_rfl) (by decide) (fun _ _ _ h => h) (Or.inl ⟨by rfl, ?_⟩) ?_
        rotate_left
        · intro w' hx; obtain ⟨q0, q1, q2, q3, q4, q5, q6, q7⟩ := cells8 hx; (go_simp <;> with_reducible rfl)
        simp only [Act.put, List.setIfInBounds_toArray, List.set_cons_zero, List.set_cons_succ]
        refine regT_one 4 _ (by kernel_rfl) rfl ?_
        intro K hK
        go_simp
        refine (wi16N_any B b _ xx U54 hW (by first | omega | (simp only [List.length_append, List.length_cons, List.length_nil, b2]; omega))).mono ?_
        rintro e U55 ⟨rfl, hW1, hT1⟩
        have hk' := wr_box hW hk hT1
        have hT' := hT.trans hT1
        refine hK.out _ _ (fun _ => hk') ?_
        clear hK K hT hk hW hT1
        have hT := hT'
        have hk := hk'
        have hW := hW1
        clear hT' hk' hW1
        refine regT_one 8 _ (by kernel_rfl) rfl ?_
        intro K hK
        go_simp
        refine (wi16N_any B b _ xy U55 hW (by first | omega | (simp only [List.length_append, List.length_cons, List.length_nil, b2]; omega))).mono ?_
        rintro e U56 ⟨rfl, hW1, hT1⟩
        have hk' := wr_box hW hk hT1
        have hT' := hT.trans hT1
        refine hK.out _ _ (fun _ => hk') ?_
        clear hK K hT hk hW hT1
        have hT := hT'
        have hk := hk'
        have hW := hW1
        clear hT' hk' hW1
        refine regT_one 12 _ (by kernel_rfl) rfl ?_
        intro K hK
        go_simp
        refine (wi16N_any B b _ yx U56 hW (by first | omega | (simp only [List.length_append, List.length_cons, List.length_nil, b2]; omega))).mono ?_
        rintro e U57 ⟨rfl, hW1, hT1⟩
        have hk' := wr_box hW hk hT1
        have hT' := hT.trans hT1
        refine hK.out _ _ (fun _ => hk') ?_
        clear hK K hT hk hW hT1
        have hT := hT'
        have hk := hk'
        have hW := hW1
        clear hT' hk' hW1
        refine regT_one 16 _ (by kernel_rfl) rfl ?_
        intro K hK
        go_simp
        refine (wi16N_any B b _ yy U57 hW (by first | omega | (simp only [List.length_append, List.length_cons, List.length_nil, b2]; omega))).mono ?_
        rintro e U58 ⟨rfl, hW1, hT1⟩
        have hk' := wr_box hW hk hT1
        have hT' := hT.trans hT1
        refine hK.out _ _ (fun _ => hk') ?_
        clear hK K hT hk hW hT1
        have hT := hT'
        have hk := hk'
        have hW := hW1
        clear hT' hk' hW1
        refine regT_done (by kernel_rfl) ?_ _
        go_wp2
        go_end0
        exact ⟨rfl, by simpa [List.append_assoc] using hW, hT⟩

end Go.Proofs.Ytdaeffnaoeblpaa

/- A Reader that was asked for i bytes of zs altogether, whether they were there or not. -/
namespace Go.Proofs.Ytdaeffnaoeblpaa
open Go.RowKit
set_option linter.unusedVariables false

def RdQ (w : World) (B b : Nat) (zs : List Int) (i : Nat) : Prop :=
  (i ≤ zs.length ∧ Rd w B b (zs.drop i) i false) ∨ (zs.length < i ∧ ∃ a : Int, 0 ≤ a ∧ a ≤ zs.length ∧ Rd w B b [] a true)

section
variable {w w' : World} {B b : Nat} {zs : List Int} {i : Nat}

theorem RdQ.new (h : Rd w B b zs 0 false) : RdQ w B b zs 0 := .inl ⟨Nat.zero_le _, h⟩
theorem RdQ.below (h : RdQ w B b zs i) (hb : Below w.heap.size w w') : RdQ w' B b zs i := by
  rcases h with ⟨hi, h⟩ | ⟨hi, a, a0, a1, h⟩
  · exact .inl ⟨hi, h.below hb⟩
  · exact .inr ⟨hi, a, a0, a1, h.below hb⟩
theorem RdQ.keep (h : RdQ w B b zs i) (hs : w.heap.size ≤ w'.heap.size) (hk : ∀ g, g < w.heap.size → B ≤ g → (g = b ∨ ∃ cur, w.heap[g]? = some (.cells cur 5 (0, 0))) → w'.heap[g]? = w.heap[g]?) : RdQ w' B b zs i := by
  rcases h with ⟨hi, h⟩ | ⟨hi, a, a0, a1, h⟩
  · exact .inl ⟨hi, h.keep hs hk⟩
  · exact .inr ⟨hi, a, a0, a1, h.keep hs hk⟩
theorem RdQ.drewN (h : RdQ w B b zs i) (q : Nat) : RdQ (w.drewN q) B b zs i := h
theorem RdQ.drew (h : RdQ w B b zs i) : RdQ w.drew B b zs i := h
theorem RdQ.lt (h : RdQ w B b zs i) : b < w.heap.size := by
  rcases h with ⟨_, h⟩ | ⟨_, a, _, _, h⟩ <;> exact h.lt
theorem RdQ.from_ (h : RdQ w B b zs i) : B ≤ b := by
  rcases h with ⟨_, h⟩ | ⟨_, a, _, _, h⟩ <;> exact h.from_
theorem RdQ.block (h : RdQ w B b zs i) : RdBlock w b := by
  rcases h with ⟨_, h⟩ | ⟨_, a, _, _, h⟩ <;> exact h.block

theorem rdq_good {m : Nat} (hi : i ≤ zs.length) (hr : Rd w' B b (rest (zs.drop i) m) (gone (zs.drop i) i m) (badn (zs.drop i) false m)) : RdQ w' B b zs (i + m) := by
  by_cases h : i + m ≤ zs.length
  · rw [rest_at zs i m h, gone_at zs i i m h, badn_at zs false i m h] at hr
    exact .inl ⟨h, by simpa using hr⟩
  · have hn : ¬ m ≤ (zs.drop i).length := by rw [List.length_drop]; omega
    unfold rest gone badn at hr
    rw [if_neg hn, if_neg hn, if_neg hn] at hr
    exact .inr ⟨by omega, i, by omega, by omega, hr⟩

theorem rdq_bad {m : Nat} {a : Int} (hm : 0 < m) (hi : zs.length < i) (a0 : 0 ≤ a) (a1 : a ≤ zs.length) (hr : Rd w' B b (rest [] m) (gone [] a m) (badn [] true m)) : RdQ w' B b zs (i + m) := by
  have hn : ¬ m ≤ ([] : List Int).length := by simp; omega
  unfold rest gone badn at hr
  rw [if_neg hn, if_neg hn, if_neg hn] at hr
  exact .inr ⟨by omega, a, a0, a1, hr⟩
theorem drop_past (h : zs.length < i) : zs.drop i = [] := List.drop_of_length_le (by omega)

/-- What asking leaves. -/
def RetQ (w : World) (B b : Nat) (v : Value) (zs : List Int) (i : Nat) (e : Ending) (w' : World) : Prop := e = .returned v ∧ RdQ w' B b zs i ∧ w.grownBy w' (some b)

theorem rdq_u16 (h : RdQ w B b zs i) (hB : Bytes zs) (hl : zs.length ≤ 140737488351232) : Calls Try.prog 137 #[.pointer (some ⟨b, 0, none⟩)] w (RetQ w B b (.int .u16 (n2at zs i)) zs (i + 2)) := by
  rcases h with ⟨hi, h⟩ | ⟨hi, a, a0, a1, h⟩
  · exact (u16_any B b _ _ _ w h (drop_bytes hB _) (by rw [List.length_drop]; omega) (by omega) (by omega)).mono fun e w' ⟨he, hr, hg⟩ => ⟨he, rdq_good hi hr, hg⟩
  · refine (u16_any B b _ _ _ w h (fun x hx => by cases hx) (by simp) a0 (by omega)).mono fun e w' ⟨he, hr, hg⟩ => ⟨?_, rdq_bad (by omega) hi a0 a1 hr, hg⟩
    unfold n2at
    rw [drop_past hi]
    exact he

theorem rdq_u32 (h : RdQ w B b zs i) (hB : Bytes zs) (hl : zs.length ≤ 140737488351232) : Calls Try.prog 136 #[.pointer (some ⟨b, 0, none⟩)] w (RetQ w B b (.int .u32 (n4at zs i)) zs (i + 4)) := by
  rcases h with ⟨hi, h⟩ | ⟨hi, a, a0, a1, h⟩
  · exact (u32_any B b _ _ _ w h (drop_bytes hB _) (by rw [List.length_drop]; omega) (by omega) (by omega)).mono fun e w' ⟨he, hr, hg⟩ => ⟨he, rdq_good hi hr, hg⟩
  · refine (u32_any B b _ _ _ w h (fun x hx => by cases hx) (by simp) a0 (by omega)).mono fun e w' ⟨he, hr, hg⟩ => ⟨?_, rdq_bad (by omega) hi a0 a1 hr, hg⟩
    unfold n4at
    rw [drop_past hi]
    exact he

theorem rdq_i16 (h : RdQ w B b zs i) (hB : Bytes zs) (hl : zs.length ≤ 140737488351232) : Calls Try.prog 154 #[.pointer (some ⟨b, 0, none⟩)] w (RetQ w B b (.int .i16 (sgn (n2at zs i))) zs (i + 2)) := by
  rcases h with ⟨hi, h⟩ | ⟨hi, a, a0, a1, h⟩
  · exact (i16_any B b _ _ _ w h (drop_bytes hB _) (by rw [List.length_drop]; omega) (by omega) (by omega)).mono fun e w' ⟨he, hr, hg⟩ => ⟨he, rdq_good hi hr, hg⟩
  · refine (i16_any B b _ _ _ w h (fun x hx => by cases hx) (by simp) a0 (by omega)).mono fun e w' ⟨he, hr, hg⟩ => ⟨?_, rdq_bad (by omega) hi a0 a1 hr, hg⟩
    unfold n2at
    rw [drop_past hi]
    exact he

/-- What taking bytes leaves: they lie in the Reader's own memory. -/
def RetQT (w : World) (B b : Nat) (ys zs : List Int) (i : Nat) (e : Ending) (w' : World) : Prop :=
  ∃ A m c, e = .returned (.slice A m c) ∧ Row w' A m (cellsOf .u8 ys) ∧ (∀ g, blockOf A = some g → B ≤ g ∧ ∃ cur, w'.heap[g]? = some (.cells cur 5 (0, 0))) ∧ RdQ w' B b zs i ∧ w.grownBy w' (some b)

theorem rdq_take (h : RdQ w B b zs i) (hl : zs.length ≤ 140737488351232) (m : Nat) (hm : 0 < m) : Calls Try.prog 138 #[.pointer (some ⟨b, 0, none⟩), .int .i64 m] w (RetQT w B b (told (zs.drop i) m) zs (i + m)) := by
  rcases h with ⟨hi, h⟩ | ⟨hi, a, a0, a1, h⟩
  · exact (take_any B b _ _ _ w h (by rw [List.length_drop]; omega) (by omega) (by omega) m).mono fun e w' ⟨A, n, c, he, h1, h2, hr, hg⟩ => ⟨A, n, c, he, h1, h2, rdq_good hi hr, hg⟩
  · refine (take_any B b _ _ _ w h (by simp) a0 (by omega) m).mono fun e w' ⟨A, n, c, he, h1, h2, hr, hg⟩ => ⟨A, n, c, he, ?_, h2, rdq_bad hm hi a0 a1 hr, hg⟩
    rw [drop_past hi]
    exact h1

theorem rdq_badB (h : RdQ w B b zs i) : Calls Try.prog 139 #[.pointer (some ⟨b, 0, none⟩)] w fun e w' => e = .returned (.bool (decide (zs.length < i))) ∧ w = w' := by
  rcases h with ⟨hi, h⟩ | ⟨hi, a, a0, a1, h⟩
  · rw [decide_eq_false (by omega)]
    exact bad_any B b _ _ _ w h
  · rw [decide_eq_true hi]
    exact bad_any B b _ _ _ w h

end

end Go.Proofs.Ytdaeffnaoeblpaa

/- Two results, one of them a struct in memory; a Reader beside another block. -/
namespace Go.Proofs.Ytdaeffnaoeblpaa
open Go.RowKit
set_option linter.unusedVariables false

/-- Two results: a struct in memory, and a plain value. -/
theorem results_two2 {P : Program} {fn : Func} {p q : Tmp} {ty : TypeId} (h : fn.results = #[.cell p ty, .tmp q]) (tmps : Array Value) (w : World) (g : Nat) (t : TypeId) (cs : Array Value) (fr : Nat × Nat) (d : TypeDesc) {v : Value}
    (hp : tmps.getD p undef = .pointer (some ⟨g, 0, none⟩)) (hq : tmps.getD q undef = v) (hg : w.heap[g]? = some (.cells cs t fr))
    (hu : P.underlying ty = some d) (hd : (match d with | .struct _ | .array _ _ => true | _ => false) = true) (hi : (P.info? ty).map (·.size) = some cs.size) :
    (results fn tmps).run P w = .ok (.tuple #[.agg cs, v]) w := by
  have hp' : tmps[p]?.getD undef = .pointer (some ⟨g, 0, none⟩) := by simpa using hp
  have hq' : tmps[q]?.getD undef = v := by simpa using hq
  simp [results, h, hp', hq', asAddr, run_loadVar_row w g t ty cs fr d hg hu hd hi]

theorem rdq_other {w : World} {B b i k t : Nat} {zs : List Int} {cs : Array Value} (h : RdQ w B b zs i) (hk : w.heap[k]? = some (.cells cs t (0, 0))) (h8 : t ≠ 5) (hb : k ≠ b) (j : Nat) (v : Value) : RdQ (w.setCell ⟨k, j, none⟩ v) B b zs i :=
  h.keep (by simp [World.setCell]) (fun g hg _ ho => Below.heap_setCell w _ v g (by
    intro e
    have e' : g = k := e
    subst e'
    rcases ho with e | ⟨cur, hc⟩
    · exact hb e
    · rw [hk] at hc
      simp at hc
      exact h8 hc.2))

end Go.Proofs.Ytdaeffnaoeblpaa
