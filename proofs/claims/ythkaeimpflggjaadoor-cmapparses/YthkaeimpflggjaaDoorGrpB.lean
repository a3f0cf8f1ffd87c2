/- group.runs, as a contract over this seat's translation. -/
import Derived.Test.YthkaeimpflggjaaDoorGrpQ
namespace Go.Proofs.YthkaeimpflggjaaDoor
open Go.RowKit
set_option linter.unusedVariables false

theorem flat_end (s : List Rn) (x : Rn) (c : Int) : flat encG (s ++ [⟨x.a, c, x.g⟩]) = (flat encG (s ++ [x])).set (s.length * 3 + 1) (.int .i32 c) := by
  rw [← flat_append, ← flat_append, List.set_append_right _ _ (by rw [flat_length encG_len]; omega), flat_length encG_len, Nat.add_sub_cancel_left]
  rfl

/-- What is asked of pairs. -/
def OkP (l : List Pr) : Prop := ∀ p ∈ l, 0 ≤ p.code ∧ p.code ≤ 2000000000 ∧ 0 ≤ p.glyph ∧ p.glyph ≤ 65535

theorem atP {w : World} {A : Option Addr} {n : Nat} {l : List Pr} {j : Nat} {p : Pr} (h : RowS encP 2 w A n l) (hj : l[j]? = some p) :
    ∃ g off, A = some ⟨g, off, none⟩ ∧ g < w.heap.size ∧ w.cell? ⟨g, off + j * 2, none⟩ = some (.int .i32 p.code) ∧ w.cell? ⟨g, off + j * 2 + 1, none⟩ = some (.int .u16 p.glyph) := by
  obtain ⟨g, off, e, hg, hc⟩ := h.at encP_len (by omega) hj
  exact ⟨g, off, e, hg, hc 0 _ rfl, hc 1 _ rfl⟩

set_option maxRecDepth 100000 in
set_option maxHeartbeats 4000000 in
theorem gruns_any (A : Option Addr) (n c : Nat) (l : List Pr) (w : World) (hr : RowS encP 2 w A n l) (hn : n ≤ 1000000) (hok : OkP l) :
    Calls Tryd.prog 44 #[.slice A n c] w (RetS 94 encG 3 w (runsF folG l)) := by
  obtain ⟨i0, hi, hz0, hz1, hz2⟩ := info_parts Tryd.grpinfo
  have Hn := Lib.hid hr.len
  have Hok := Lib.hid hok
  clear hok
  go_enter Tryd.func44, Tryd.ntmps44
  go_wp2
  go_loopw [3, 8] (fun s i wr => ∃ (k m : Nat) (Ar : Option Addr) (cr : Nat), k ≤ n ∧ i = .int .i64 k ∧ s = .slice Ar m cr ∧ OwnS 94 encG 3 wr w.heap.size Ar m cr (runsF folG (l.take k)) ∧ Below w.heap.size w wr) (fun _ i _ => n - (intOf i).toNat)
  case atStart => exact ⟨0, 0, none, 0, Nat.zero_le _, rfl, rfl, OwnS.nil _ _ _ _ _, Below.refl _ _⟩
  case round =>
    obtain ⟨k, m, Ar, cr, hk, rfl, rfl, hown, hb⟩ := hrel
    by_cases hlt : k < n
    · obtain ⟨p, hp⟩ := getP (l := l) (j := k) (by have := Hn.out; omega)
      obtain ⟨g, off, rfl, hg, q0, q1⟩ := atP (hr.below hb) hp
      have hpo := Hok.out p (List.mem_of_getElem? hp)
      have hm : m ≤ k := by have := hown.len; have h2 := runsF_len folG (l.take k); rw [List.length_take] at h2; omega
      have hA := (Below.refl wr.heap.size wr).alloc (Nat.le_refl _) (.cells #[.int .i32 p.code, .int .u16 p.glyph] 45)
      have hown1 := hown.below hA
      have hb1 := hb.trans (hA.mono hb.size)
      have x0 : (wr.alloc (.cells #[.int .i32 p.code, .int .u16 p.glyph] 45)).cell? ⟨wr.heap.size, 0, none⟩ = some (.int .i32 p.code) := cell_of_row _ _ 0 _ _ _ (heap_alloc_new wr _)
      have x1 : (wr.alloc (.cells #[.int .i32 p.code, .int .u16 p.glyph] 45)).cell? ⟨wr.heap.size, 1, none⟩ = some (.int .u16 p.glyph) := cell_of_row _ _ 1 _ _ _ (heap_alloc_new wr _)
      have hr1 := hr.below hb1
      by_cases h0 : 0 < k
      · obtain ⟨j, rfl⟩ : ∃ j, k = j + 1 := ⟨k - 1, by omega⟩
        obtain ⟨q, hq⟩ := getP (l := l) (j := j) (by have := Hn.out; omega)
        have hqo := Hok.out q (List.mem_of_getElem? hq)
        obtain ⟨g', off', e', _, r0, r1⟩ := atP hr1 hq
        simp only [Option.some.injEq, Addr.mk.injEq, and_true] at e'
        obtain ⟨rfl, rfl⟩ := e'
        obtain ⟨st1, st2⟩ := runs_step folG hq hp
        have HF := Lib.hid (fun W => gfol_any q p W (by omega) (by omega) hqo.2.2.1 hqo.2.2.2 hpo.2.2.1 hpo.2.2.2)
        have ST1 := Lib.hid st1
        have ST2 := Lib.hid st2
        clear st1 st2 hq hp hr1 hown hA
        obtain ⟨pc, pg⟩ := p
        obtain ⟨qc, qg⟩ := q
        simp only [pV] at *
        generalize hfv : folG ⟨qc, qg⟩ ⟨pc, pg⟩ = fv at *
        clear hfv
        have ej : ((j : Int) + 1 - 1) = (j : Int) := by omega
        have ej2 : (((j + 1 : Nat) : Int) - 1) = (j : Int) := by omega
        go_wp2_with fail
        generalize wr.alloc (.cells #[.int .i32 pc, .int .u16 pg] 45) = V at *
        generalize wr.heap.size = bx at *
        have L0 := gw_cell r0
        have L1 := gw_cell r1
        have B0 := gw_cell x0
        have B1 := gw_cell x1
        refine region_below (by kernel_rfl) (by kernel_rfl) ?_
        repeat (first | go_big_quiet_step (first | (go_at_call 67; exact calls_gw (HF.out _))) | quiet_step (first | (go_at_call 67; exact calls_gw (HF.out _))))
        refine wpQuiet_nil ?_
        rintro _ ⟨z, rfl⟩
        have b0 := B0 z.n z.os
        have b1 := B1 z.n z.os
        have hb2 := hb1.trans ((gw_below V z.n z.os).mono hb1.size)
        have hown2 := hown1.below (gw_below V z.n z.os)
        clear L0 L1 B0 B1 HF hown1 hb1 r0 r1 q0 q1 x0 x1
        generalize gw V z.n z.os = U at *
        have hsU := hb2.size
        cases fv with
        | false =>
          have E3 := Lib.hid (ST1.out rfl)
          clear ST1 ST2
          go_wp2_with (at_builtin; refine wpList_append_rowS rfl (.tmp 32) (.tmp 40) _ rfl 94 encG 3 encG_len (by omega) encG_one w.heap.size i0 _ 12 Tryd.underlying30 hi hz0 hz1 rfl hz2 _ m cr _ rfl (hown2.alloc _) (some ⟨U.heap.size, 0, none⟩) 1 1 [⟨pc, pc, pg⟩] rfl (rowS_vals encG_len U 94 [⟨pc, pc, pg⟩] _ rfl 1 rfl) (by omega) (by omega) (by simp; omega) ?_; intro A6 c6 w6 ho6 hg6)
          go_roundw
          case rel => exact ⟨j + 1 + 1, m + 1, A6, c6, by omega, by go_num, rfl, by rw [E3.out]; exact ho6, (hb2.alloc hb2.size _).grown hg6 (hb2.alloc hb2.size _).size (fun q e => (hown2.from_ q e).1)⟩
          case measure => simp [intOf]; omega
        | true =>
          obtain ⟨s, x, e4, e5⟩ := ST2.out rfl
          rw [e4] at hown2
          have hlm : s.length + 1 = m := by have := hown2.len; simpa using this
          subst hlm
          obtain ⟨gr, _, e6, _, d0, d1, d2⟩ := atG (hown2.row encG_len) (j := s.length) (x := x) (by simp)
          rcases hown2.shape with ⟨e7, _⟩ | ⟨g2, _, e7, hg2, _⟩
          · rw [e7] at e6; cases e6
          · rw [e7] at e6
            simp only [Option.some.injEq, Addr.mk.injEq, and_true] at e6
            obtain ⟨rfl, rfl⟩ := e6
            subst e7
            rw [Nat.zero_add] at d0 d1 d2
            have f0 := hown2.thaw
            have E5 := Lib.hid e5
            have O6 : Hid (OwnS 94 encG 3 (U.setCell ⟨g2, s.length * 3 + 1, none⟩ (.int .i32 pc)) w.heap.size (some ⟨g2, 0, none⟩) (s.length + 1) cr (s ++ [⟨x.a, pc, x.g⟩])) := ownS_setCell hown2 (by simp) (flat_end s x pc)
            have B6 := Lib.hid (below_set hg2 (s.length * 3 + 1) (.int .i32 pc) hb2)
            have es : (((s.length + 1 : Nat) : Int) - 1) = (s.length : Int) := by omega
            have es2 : ((s.length : Int) + 1 - 1) = (s.length : Int) := by omega
            clear ST1 ST2 e4 e5 hown2 hb2
            generalize s.length = m at *
            go_wp2
            go_roundw
            case rel => exact ⟨j + 1 + 1, m + 1, some ⟨g2, 0, none⟩, cr, by omega, by go_num, rfl, by rw [E5.out]; exact O6.out, B6.out⟩
            case measure => simp [intOf]; omega
      · obtain rfl : k = 0 := by omega
        have E3 := Lib.hid (runs_first folG hp)
        have hd0 : ¬ (0 : Int) < 0 := by omega
        have hdf : decide ((0 : Int) < 0) = false := by decide
        have er : runsF folG (l.take 0) = [] := by rw [List.take_zero]; rfl
        rw [er] at hown1
        clear hown hA hr1 hp er
        obtain ⟨pc, pg⟩ := p
        simp only at *
        rw [Nat.zero_mul, Nat.add_zero] at q0 q1
        go_wp2_with fail
        generalize wr.alloc (.cells #[.int .i32 pc, .int .u16 pg] 45) = V at *
        generalize wr.heap.size = bx at *
        go_quiet (fail)
        have hb2 := below_drewN hb1 nq
        have hown2 := hown1.drewN nq
        have b0 : (V.drewN nq).cell? ⟨bx, 0, none⟩ = some (.int .i32 pc) := x0
        have b1 : (V.drewN nq).cell? ⟨bx, 1, none⟩ = some (.int .u16 pg) := x1
        clear x0 x1 hown1 hb1 q0 q1
        generalize V.drewN nq = U at *
        have hsU := hb2.size
        go_wp2_with (at_builtin; refine wpList_append_rowS rfl (.tmp 32) (.tmp 40) _ rfl 94 encG 3 encG_len (by omega) encG_one w.heap.size i0 _ 12 Tryd.underlying30 hi hz0 hz1 rfl hz2 _ m cr _ rfl (hown2.alloc _) (some ⟨U.heap.size, 0, none⟩) 1 1 [⟨pc, pc, pg⟩] rfl (rowS_vals encG_len U 94 [⟨pc, pc, pg⟩] _ rfl 1 rfl) (by omega) (by omega) (by simp; omega) ?_; intro A6 c6 w6 ho6 hg6)
        go_roundw
        case rel => exact ⟨0 + 1, m + 1, A6, c6, by omega, by go_num, rfl, by rw [E3.out]; exact ho6, (hb2.alloc hb2.size _).grown hg6 (hb2.alloc hb2.size _).size (fun q e => (hown2.from_ q e).1)⟩
        case measure => simp [intOf]; omega
    · obtain rfl : k = n := by omega
      have E3 : Hid (runsF folG (l.take k) = runsF folG l) := by show _ = _; rw [List.take_of_length_le (by have := Hn.out; omega)]
      go_wp2
      go_ret
      exact ⟨Ar, m, cr, rfl, by rw [← E3.out]; exact hown, hb⟩

end Go.Proofs.YthkaeimpflggjaaDoor
