/- cmap.read and Parse: contracts over this seat's translation. -/
import Derived.Test.YthkaeimpflggjaaDoorCmQ
import Derived.Test.YthkaeimpflggjaaDoorCmP
namespace Go.Proofs.YthkaeimpflggjaaDoor
open Go.RowKit
set_option linter.unusedVariables false

/-- What a table tells, or that it is none. -/
def RetCM (w : World) (zs : List Int) (wd : Bool) (v : Int) (e : Ending) (w' : World) : Prop :=
  Below w.heap.size w w' ∧ ((cOk zs wd v = false ∧ e = .returned (.tuple #[cmV0, .int .i64 2])) ∨
    (cOk zs wd v = true ∧ ∃ A c g, e = .returned (.tuple #[cmV wd A (cCnt wd (zs.drop v.toNat)) c, .int .i64 0]) ∧ CMap w' wd (zs.drop v.toNat) A g))

/-- Two structs of three cells: what is answered, and what is filled. -/
structure RB (w wr : World) (x0 x1 x2 y0 y1 y2 : Value) : Prop where
  b0 : wr.heap[w.heap.size]? = some (.cells #[x0, x1, x2] 37 (0, 0))
  b1 : wr.heap[w.heap.size + 1]? = some (.cells #[y0, y1, y2] 37 (0, 0))
  bel : Below w.heap.size w wr
theorem RB.below {w wr w' : World} {x0 x1 x2 y0 y1 y2 : Value} (h : RB w wr x0 x1 x2 y0 y1 y2) (hb : Below wr.heap.size wr w') : RB w w' x0 x1 x2 y0 y1 y2 := ⟨kept_block h.b0 hb, kept_block h.b1 hb, h.bel.trans (hb.mono h.bel.size)⟩
theorem RB.res {w wr : World} {x0 x1 x2 y0 y1 y2 : Value} (h : RB w wr x0 x1 x2 y0 y1 y2) (v0 v1 v2 : Value) : RB w (((wr.setCell ⟨w.heap.size, 0, none⟩ v0).setCell ⟨w.heap.size, 1, none⟩ v1).setCell ⟨w.heap.size, 2, none⟩ v2) v0 v1 v2 y0 y1 y2 := by
  have s1 := set_block h.b0 0 v0
  have s2 := set_block s1 1 v1
  have s3 := set_block s2 2 v2
  refine ⟨s3, ?_, below_set (Nat.le_refl _) _ _ (below_set (Nat.le_refl _) _ _ (below_set (Nat.le_refl _) _ _ h.bel))⟩
  have hne : w.heap.size + 1 ≠ w.heap.size := by omega
  exact (Below.heap_setCell _ _ _ _ hne).trans ((Below.heap_setCell _ _ _ _ hne).trans ((Below.heap_setCell _ _ _ _ hne).trans h.b1))
theorem RB.one {w wr : World} {x0 x1 x2 y0 y1 y2 : Value} (h : RB w wr x0 x1 x2 y0 y1 y2) (v : Value) : RB w (wr.setCell ⟨w.heap.size + 1, 1, none⟩ v) x0 x1 x2 y0 v y2 :=
  ⟨(Below.heap_setCell _ _ _ _ (show w.heap.size ≠ w.heap.size + 1 by omega)).trans h.b0, set_block h.b1 1 v, below_set (by omega) _ _ h.bel⟩
theorem RB.two {w wr : World} {x0 x1 x2 y0 y1 y2 : Value} (h : RB w wr x0 x1 x2 y0 y1 y2) (v : Value) : RB w (wr.setCell ⟨w.heap.size + 1, 2, none⟩ v) x0 x1 x2 y0 y1 v :=
  ⟨(Below.heap_setCell _ _ _ _ (show w.heap.size ≠ w.heap.size + 1 by omega)).trans h.b0, set_block h.b1 2 v, below_set (by omega) _ _ h.bel⟩
theorem RB.cells {w wr : World} {x0 x1 x2 y0 y1 y2 : Value} (h : RB w wr x0 x1 x2 y0 y1 y2) : wr.cell? ⟨w.heap.size, 0, none⟩ = some x0 ∧ wr.cell? ⟨w.heap.size, 1, none⟩ = some x1 ∧ wr.cell? ⟨w.heap.size, 2, none⟩ = some x2 ∧ wr.cell? ⟨w.heap.size + 1, 0, none⟩ = some y0 ∧ wr.cell? ⟨w.heap.size + 1, 1, none⟩ = some y1 ∧ wr.cell? ⟨w.heap.size + 1, 2, none⟩ = some y2 :=
  ⟨cell_of_row wr _ 0 _ _ _ h.b0, cell_of_row wr _ 1 _ _ _ h.b0, cell_of_row wr _ 2 _ _ _ h.b0, cell_of_row wr _ 0 _ _ _ h.b1, cell_of_row wr _ 1 _ _ _ h.b1, cell_of_row wr _ 2 _ _ _ h.b1⟩

theorem Tryd.cmapsize : (Tryd.prog.info? 37).map (·.size) = some 3 := by kernel_rfl

theorem row_drop_any {w : World} {A : Option Addr} {n : Nat} {zs : List Int} (hr : Row w A n (cellsOf .u8 zs)) (k : Nat) : Row w (A.map (·.add k)) (n - k) (cellsOf .u8 (zs.drop k)) := by
  have h := hr.drop k
  rwa [cellsOf_drop] at h

set_option maxRecDepth 100000 in
set_option maxHeartbeats 4000000 in
theorem cread_any (A : Option Addr) (n c : Nat) (zs : List Int) (wd : Bool) (v : Nat) (w : World) (hr : Row w A n (cellsOf .u8 zs)) (hB : Bytes zs) (hn : n ≤ 1000000) (hc : n ≤ c) (hv : v < 4294967296) :
    Calls Tryd.prog 29 #[.slice A n c, .int .u32 v, .bool wd] w (RetCM w zs wd v) := by
  have hA1 : Below w.heap.size w (w.alloc (.cells #[.bool false, .slice none 0 0, .slice none 0 0] 37)) := (Below.refl _ _).alloc (Nat.le_refl _) _
  have SI := Lib.hid Tryd.cmapsize
  by_cases hvn : v ≤ n
  · have hA2 : Below (w.alloc (.cells #[.bool false, .slice none 0 0, .slice none 0 0] 37)).heap.size (w.alloc (.cells #[.bool false, .slice none 0 0, .slice none 0 0] 37)) ((w.alloc (.cells #[.bool false, .slice none 0 0, .slice none 0 0] 37)).alloc (.cells #[.bool wd, .slice none 0 0, .slice none 0 0] 37)) := (Below.refl _ _).alloc (Nat.le_refl _) _
    have hs : RB w ((w.alloc (.cells #[.bool false, .slice none 0 0, .slice none 0 0] 37)).alloc (.cells #[.bool wd, .slice none 0 0, .slice none 0 0] 37)) (.bool false) (.slice none 0 0) (.slice none 0 0) (.bool wd) (.slice none 0 0) (.slice none 0 0) := by
      have h1 := heap_alloc_new (w.alloc (.cells #[.bool false, .slice none 0 0, .slice none 0 0] 37)) (.cells #[.bool wd, .slice none 0 0, .slice none 0 0] 37)
      rw [show (w.alloc (.cells #[.bool false, .slice none 0 0, .slice none 0 0] 37)).heap.size = w.heap.size + 1 by simp] at h1
      exact ⟨kept_block (heap_alloc_new w _) hA2, h1, hA1.trans (hA2.mono hA1.size)⟩
    have hrd := row_drop_any (hr.below (hA1.trans (hA2.mono hA1.size))) v
    have hBd : Bytes (zs.drop v) := drop_bytes hB _
    have Hok : Hid (cOk zs wd v = (if wd then gRight (zs.drop v) else sRight (zs.drop v))) := by
      show _ = _
      unfold cOk
      rw [hr.len, decide_eq_true (by omega), Bool.true_and]
      rfl
    have hl := hr.len
    clear hr hB hA1 hA2
    cases wd with
    | true =>
      by_cases hcv : c = v
      · skip
        subst hcv
        obtain rfl : c = n := by omega
        have hrd' : Row ((w.alloc (.cells #[.bool false, .slice none 0 0, .slice none 0 0] 37)).alloc (.cells #[.bool true, .slice none 0 0, .slice none 0 0] 37)) A 0 (cellsOf .u8 (zs.drop c)) := by
          rw [List.drop_of_length_le (by omega)]
          exact ⟨rfl, fun h => absurd h (by omega)⟩
        have HP := Lib.hid (gparse_any A 0 0 (zs.drop c) _ hrd' hBd (by omega) (by omega))
        clear hrd hrd'
        have Hok' : Hid (cOk zs true c = gRight (zs.drop c)) := Hok.out
        have HLn := Lib.hid hl
        clear hl Hok
        go_enter Tryd.func29, Tryd.ntmps29
        go_wp2_with fail
        with_reducible refine HP.out.mono ?_
        rintro e w2 ⟨hb2, ⟨hf, rfl⟩ | ⟨hf, A2, c2, rfl, hown2⟩⟩
        · have hs2 := hs.below hb2
          obtain ⟨z0, z1, z2, z3, z4, z5⟩ := hs2.cells
          have f0 := thawed hs2.b0
          have f1 := thawed hs2.b1
          have R1 := Lib.hid ((hs2.one (.slice none 0 0)).res (.bool false) (.slice none 0 0) (.slice none 0 0))
          have HF : Hid (cOk zs true c = false) := by show _ = _; rw [Hok'.out, hf]
          clear hs2 hb2 hs hf Hok' HP hBd
          unfold gmV
          go_wp2
          exact bodyPost_ret (v := .tuple #[cmV0, .int .i64 2]) (results_two2 Tryd.results29 _ _ w.heap.size 37 _ (0, 0) _ rfl rfl R1.out.b0 Tryd.underlying37 rfl SI.out) rfl ⟨R1.out.bel, .inl ⟨HF.out, rfl⟩⟩
        · have hs2 := hs.below hb2
          obtain ⟨z0, z1, z2, z3, z4, z5⟩ := hs2.cells
          have f0 := thawed hs2.b0
          have f1 := thawed hs2.b1
          have HM : Hid (CMap ((((w2.setCell ⟨w.heap.size + 1, 1, none⟩ (.slice A2 (gN (zs.drop c)) c2)).setCell ⟨w.heap.size, 0, none⟩ (.bool true)).setCell ⟨w.heap.size, 1, none⟩ (.slice A2 (gN (zs.drop c)) c2)).setCell ⟨w.heap.size, 2, none⟩ (.slice none 0 0)) true (zs.drop c) A2 0) := by
            have hgn : gN (zs.drop c) ≤ 1000000 := by
              have hl2 := hf
              unfold gRight at hl2
              simp [gFront] at hl2
              have h12 := n4at_lt hBd 12
              have hlen := HLn.out
              unfold gN
              omega
            refine ⟨GMap.of hBd hf (hown2.keep (fun q e => ?_)), hgn⟩
            have hq := (hown2.from_ q e).1
            simp at hq
            have h0 : q ≠ w.heap.size := by omega
            have h1 : q ≠ w.heap.size + 1 := by omega
            exact (Below.heap_setCell _ _ _ _ h0).trans ((Below.heap_setCell _ _ _ _ h0).trans ((Below.heap_setCell _ _ _ _ h0).trans (Below.heap_setCell _ _ _ _ h1)))
          have R1 := Lib.hid ((hs2.one (.slice A2 (gN (zs.drop c)) c2)).res (.bool true) (.slice A2 (gN (zs.drop c)) c2) (.slice none 0 0))
          have HF : Hid (cOk zs true c = true) := by show _ = _; rw [Hok'.out, hf]
          clear hs2 hb2 hs hf Hok' HP hBd hown2
          unfold gmV
          go_wp2
          exact bodyPost_ret (v := .tuple #[cmV true A2 (gN (zs.drop c)) c2, .int .i64 0]) (results_two2 Tryd.results29 _ _ w.heap.size 37 _ (0, 0) _ rfl rfl R1.out.b0 Tryd.underlying37 rfl SI.out) rfl ⟨R1.out.bel, .inr ⟨HF.out, A2, c2, 0, rfl, HM.out⟩⟩
      · skip
        have HP := Lib.hid (gparse_any _ (n - v) (c - v) (zs.drop v) _ hrd hBd (by omega) (by omega))
        clear hrd
        have Hok' : Hid (cOk zs true v = gRight (zs.drop v)) := Hok.out
        have HLn := Lib.hid hl
        clear hl Hok
        go_enter Tryd.func29, Tryd.ntmps29
        go_wp2_with fail
        with_reducible refine HP.out.mono ?_
        rintro e w2 ⟨hb2, ⟨hf, rfl⟩ | ⟨hf, A2, c2, rfl, hown2⟩⟩
        · have hs2 := hs.below hb2
          obtain ⟨z0, z1, z2, z3, z4, z5⟩ := hs2.cells
          have f0 := thawed hs2.b0
          have f1 := thawed hs2.b1
          have R1 := Lib.hid ((hs2.one (.slice none 0 0)).res (.bool false) (.slice none 0 0) (.slice none 0 0))
          have HF : Hid (cOk zs true v = false) := by show _ = _; rw [Hok'.out, hf]
          clear hs2 hb2 hs hf Hok' HP hBd
          unfold gmV
          go_wp2
          exact bodyPost_ret (v := .tuple #[cmV0, .int .i64 2]) (results_two2 Tryd.results29 _ _ w.heap.size 37 _ (0, 0) _ rfl rfl R1.out.b0 Tryd.underlying37 rfl SI.out) rfl ⟨R1.out.bel, .inl ⟨HF.out, rfl⟩⟩
        · have hs2 := hs.below hb2
          obtain ⟨z0, z1, z2, z3, z4, z5⟩ := hs2.cells
          have f0 := thawed hs2.b0
          have f1 := thawed hs2.b1
          have HM : Hid (CMap ((((w2.setCell ⟨w.heap.size + 1, 1, none⟩ (.slice A2 (gN (zs.drop v)) c2)).setCell ⟨w.heap.size, 0, none⟩ (.bool true)).setCell ⟨w.heap.size, 1, none⟩ (.slice A2 (gN (zs.drop v)) c2)).setCell ⟨w.heap.size, 2, none⟩ (.slice none 0 0)) true (zs.drop v) A2 0) := by
            have hgn : gN (zs.drop v) ≤ 1000000 := by
              have hl2 := hf
              unfold gRight at hl2
              simp [gFront] at hl2
              have h12 := n4at_lt hBd 12
              have hlen := HLn.out
              unfold gN
              omega
            refine ⟨GMap.of hBd hf (hown2.keep (fun q e => ?_)), hgn⟩
            have hq := (hown2.from_ q e).1
            simp at hq
            have h0 : q ≠ w.heap.size := by omega
            have h1 : q ≠ w.heap.size + 1 := by omega
            exact (Below.heap_setCell _ _ _ _ h0).trans ((Below.heap_setCell _ _ _ _ h0).trans ((Below.heap_setCell _ _ _ _ h0).trans (Below.heap_setCell _ _ _ _ h1)))
          have R1 := Lib.hid ((hs2.one (.slice A2 (gN (zs.drop v)) c2)).res (.bool true) (.slice A2 (gN (zs.drop v)) c2) (.slice none 0 0))
          have HF : Hid (cOk zs true v = true) := by show _ = _; rw [Hok'.out, hf]
          clear hs2 hb2 hs hf Hok' HP hBd hown2
          unfold gmV
          go_wp2
          exact bodyPost_ret (v := .tuple #[cmV true A2 (gN (zs.drop v)) c2, .int .i64 0]) (results_two2 Tryd.results29 _ _ w.heap.size 37 _ (0, 0) _ rfl rfl R1.out.b0 Tryd.underlying37 rfl SI.out) rfl ⟨R1.out.bel, .inr ⟨HF.out, A2, c2, 0, rfl, HM.out⟩⟩
    | false =>
      by_cases hcv : c = v
      · skip
        subst hcv
        obtain rfl : c = n := by omega
        have hrd' : Row ((w.alloc (.cells #[.bool false, .slice none 0 0, .slice none 0 0] 37)).alloc (.cells #[.bool false, .slice none 0 0, .slice none 0 0] 37)) A 0 (cellsOf .u8 (zs.drop c)) := by
          rw [List.drop_of_length_le (by omega)]
          exact ⟨rfl, fun h => absurd h (by omega)⟩
        have HP := Lib.hid (sparse_any A 0 0 (zs.drop c) _ hrd' hBd (by omega) (by omega))
        clear hrd hrd'
        have Hok' : Hid (cOk zs false c = sRight (zs.drop c)) := Hok.out
        have HLn := Lib.hid hl
        clear hl Hok
        go_enter Tryd.func29, Tryd.ntmps29
        go_wp2_with fail
        with_reducible refine HP.out.mono ?_
        rintro e w2 ⟨hb2, ⟨hf, rfl⟩ | ⟨hf, A2, c2, g2, rfl, hown2, hnum2⟩⟩
        · have hs2 := hs.below hb2
          obtain ⟨z0, z1, z2, z3, z4, z5⟩ := hs2.cells
          have f0 := thawed hs2.b0
          have f1 := thawed hs2.b1
          have R1 := Lib.hid ((hs2.two (.slice none 0 0)).res (.bool false) (.slice none 0 0) (.slice none 0 0))
          have HF : Hid (cOk zs false c = false) := by show _ = _; rw [Hok'.out, hf]
          clear hs2 hb2 hs hf Hok' HP hBd
          unfold smV
          go_wp2
          exact bodyPost_ret (v := .tuple #[cmV0, .int .i64 2]) (results_two2 Tryd.results29 _ _ w.heap.size 37 _ (0, 0) _ rfl rfl R1.out.b0 Tryd.underlying37 rfl SI.out) rfl ⟨R1.out.bel, .inl ⟨HF.out, rfl⟩⟩
        · have hs2 := hs.below hb2
          obtain ⟨z0, z1, z2, z3, z4, z5⟩ := hs2.cells
          have f0 := thawed hs2.b0
          have f1 := thawed hs2.b1
          have HM : Hid (CMap ((((w2.setCell ⟨w.heap.size + 1, 2, none⟩ (.slice A2 (sN (zs.drop c)) c2)).setCell ⟨w.heap.size, 0, none⟩ (.bool false)).setCell ⟨w.heap.size, 1, none⟩ (.slice none 0 0)).setCell ⟨w.heap.size, 2, none⟩ (.slice A2 (sN (zs.drop c)) c2)) false (zs.drop c) A2 g2) := by
            have hsf := sRight_facts hBd hf
            refine ⟨SMap.of hBd hf (hown2.keep (fun q e => ?_)) (hnum2.keep (by simp [World.setCell]) (fun q e hq => ?_)), by omega⟩
            · have hq := (hown2.from_ q e).1
              simp at hq
              have h0 : q ≠ w.heap.size := by omega
              have h1 : q ≠ w.heap.size + 1 := by omega
              exact (Below.heap_setCell _ _ _ _ h0).trans ((Below.heap_setCell _ _ _ _ h0).trans ((Below.heap_setCell _ _ _ _ h0).trans (Below.heap_setCell _ _ _ _ h1)))
            · have hcn := num_cell hnum2 (i := 0) (by omega)
              simp [blockOf] at e
              subst e
              have h0 : g2 ≠ w.heap.size := fun h => by rw [h, z0] at hcn; cases hcn
              have h1 : g2 ≠ w.heap.size + 1 := fun h => by rw [h, z3] at hcn; cases hcn
              exact (Below.heap_setCell _ _ _ _ h0).trans ((Below.heap_setCell _ _ _ _ h0).trans ((Below.heap_setCell _ _ _ _ h0).trans (Below.heap_setCell _ _ _ _ h1)))
          have R1 := Lib.hid ((hs2.two (.slice A2 (sN (zs.drop c)) c2)).res (.bool false) (.slice none 0 0) (.slice A2 (sN (zs.drop c)) c2))
          have HF : Hid (cOk zs false c = true) := by show _ = _; rw [Hok'.out, hf]
          clear hs2 hb2 hs hf Hok' HP hBd hown2 hnum2
          unfold smV
          go_wp2
          exact bodyPost_ret (v := .tuple #[cmV false A2 (sN (zs.drop c)) c2, .int .i64 0]) (results_two2 Tryd.results29 _ _ w.heap.size 37 _ (0, 0) _ rfl rfl R1.out.b0 Tryd.underlying37 rfl SI.out) rfl ⟨R1.out.bel, .inr ⟨HF.out, A2, c2, g2, rfl, HM.out⟩⟩
      · skip
        have HP := Lib.hid (sparse_any _ (n - v) (c - v) (zs.drop v) _ hrd hBd (by omega) (by omega))
        clear hrd
        have Hok' : Hid (cOk zs false v = sRight (zs.drop v)) := Hok.out
        have HLn := Lib.hid hl
        clear hl Hok
        go_enter Tryd.func29, Tryd.ntmps29
        go_wp2_with fail
        with_reducible refine HP.out.mono ?_
        rintro e w2 ⟨hb2, ⟨hf, rfl⟩ | ⟨hf, A2, c2, g2, rfl, hown2, hnum2⟩⟩
        · have hs2 := hs.below hb2
          obtain ⟨z0, z1, z2, z3, z4, z5⟩ := hs2.cells
          have f0 := thawed hs2.b0
          have f1 := thawed hs2.b1
          have R1 := Lib.hid ((hs2.two (.slice none 0 0)).res (.bool false) (.slice none 0 0) (.slice none 0 0))
          have HF : Hid (cOk zs false v = false) := by show _ = _; rw [Hok'.out, hf]
          clear hs2 hb2 hs hf Hok' HP hBd
          unfold smV
          go_wp2
          exact bodyPost_ret (v := .tuple #[cmV0, .int .i64 2]) (results_two2 Tryd.results29 _ _ w.heap.size 37 _ (0, 0) _ rfl rfl R1.out.b0 Tryd.underlying37 rfl SI.out) rfl ⟨R1.out.bel, .inl ⟨HF.out, rfl⟩⟩
        · have hs2 := hs.below hb2
          obtain ⟨z0, z1, z2, z3, z4, z5⟩ := hs2.cells
          have f0 := thawed hs2.b0
          have f1 := thawed hs2.b1
          have HM : Hid (CMap ((((w2.setCell ⟨w.heap.size + 1, 2, none⟩ (.slice A2 (sN (zs.drop v)) c2)).setCell ⟨w.heap.size, 0, none⟩ (.bool false)).setCell ⟨w.heap.size, 1, none⟩ (.slice none 0 0)).setCell ⟨w.heap.size, 2, none⟩ (.slice A2 (sN (zs.drop v)) c2)) false (zs.drop v) A2 g2) := by
            have hsf := sRight_facts hBd hf
            refine ⟨SMap.of hBd hf (hown2.keep (fun q e => ?_)) (hnum2.keep (by simp [World.setCell]) (fun q e hq => ?_)), by omega⟩
            · have hq := (hown2.from_ q e).1
              simp at hq
              have h0 : q ≠ w.heap.size := by omega
              have h1 : q ≠ w.heap.size + 1 := by omega
              exact (Below.heap_setCell _ _ _ _ h0).trans ((Below.heap_setCell _ _ _ _ h0).trans ((Below.heap_setCell _ _ _ _ h0).trans (Below.heap_setCell _ _ _ _ h1)))
            · have hcn := num_cell hnum2 (i := 0) (by omega)
              simp [blockOf] at e
              subst e
              have h0 : g2 ≠ w.heap.size := fun h => by rw [h, z0] at hcn; cases hcn
              have h1 : g2 ≠ w.heap.size + 1 := fun h => by rw [h, z3] at hcn; cases hcn
              exact (Below.heap_setCell _ _ _ _ h0).trans ((Below.heap_setCell _ _ _ _ h0).trans ((Below.heap_setCell _ _ _ _ h0).trans (Below.heap_setCell _ _ _ _ h1)))
          have R1 := Lib.hid ((hs2.two (.slice A2 (sN (zs.drop v)) c2)).res (.bool false) (.slice none 0 0) (.slice A2 (sN (zs.drop v)) c2))
          have HF : Hid (cOk zs false v = true) := by show _ = _; rw [Hok'.out, hf]
          clear hs2 hb2 hs hf Hok' HP hBd hown2 hnum2
          unfold smV
          go_wp2
          exact bodyPost_ret (v := .tuple #[cmV false A2 (sN (zs.drop v)) c2, .int .i64 0]) (results_two2 Tryd.results29 _ _ w.heap.size 37 _ (0, 0) _ rfl rfl R1.out.b0 Tryd.underlying37 rfl SI.out) rfl ⟨R1.out.bel, .inr ⟨HF.out, A2, c2, g2, rfl, HM.out⟩⟩
  · have hs : (w.alloc (.cells #[.bool false, .slice none 0 0, .slice none 0 0] 37)).heap[w.heap.size]? = some (.cells #[.bool false, .slice none 0 0, .slice none 0 0] 37 (0, 0)) := heap_alloc_new w _
    have HNo : Hid (cOk zs wd v = false) := by show _ = _; unfold cOk; rw [hr.len, decide_eq_false (by omega)]; rfl
    have S3 := Lib.hid hs
    have HB := Lib.hid hA1
    clear hs hA1 hr hB
    go_enter Tryd.func29, Tryd.ntmps29
    go_wp2
    exact bodyPost_ret (v := .tuple #[cmV0, .int .i64 2]) (results_two2 Tryd.results29 _ _ w.heap.size 37 _ (0, 0) _ rfl rfl S3.out Tryd.underlying37 rfl SI.out) rfl ⟨HB.out, .inl ⟨HNo.out, rfl⟩⟩

end Go.Proofs.YthkaeimpflggjaaDoor
