/- The document's number of runs, as a contract over this seat's translation. -/
import Derived.Test.YthkaeimpflggjaaSegD
namespace Go.Proofs.Ythkaeimpflggjaa
open Go.RowKit
set_option linter.unusedVariables false

set_option maxRecDepth 100000 in
set_option maxHeartbeats 8000000 in
theorem rruns9_any (A : Option Addr) (n c : Nat) (l : List Pr) (w : World) (hr : RowS encQ 2 w A n l) (hn : n ≤ 7000) (hok : OkQ5 l) :
    Calls Try.prog 29 #[.slice A n c] w (Ret w (.int .i64 (runsF folS l).length)) := by
  have Hn := Lib.hid hr.len
  have Hok := Lib.hid hok
  clear hok
  go_enter Try.func29, Try.ntmps29
  go_wp2
  go_loopw [3, 8] (fun s i wr => ∃ (k m : Nat), k ≤ n ∧ m ≤ k ∧ i = .int .i64 k ∧ s = .int .i64 m ∧ Hid ((runsF folS (l.take k)).length = m) ∧ Below w.heap.size w wr) (fun _ i _ => n - (intOf i).toNat)
  case atStart => exact ⟨0, 0, Nat.zero_le _, Nat.le_refl _, rfl, rfl, Lib.hid rfl, Below.refl _ _⟩
  case round =>
    obtain ⟨k, m, hk, hmk, rfl, rfl, hM, hb⟩ := hrel
    by_cases hlt : k < n
    · obtain ⟨p, hp⟩ := getP (l := l) (j := k) (by have := Hn.out; omega)
      obtain ⟨g, off, rfl, hg, q0, q1⟩ := atQ (hr.below hb) hp
      have hpo := Hok.out p (List.mem_of_getElem? hp)
      have hA := (Below.refl wr.heap.size wr).alloc (Nat.le_refl _) (.cells #[.int .i64 p.code, .int .i64 p.glyph] 117)
      have hb1 := hb.trans (hA.mono hb.size)
      have x0 : (wr.alloc (.cells #[.int .i64 p.code, .int .i64 p.glyph] 117)).cell? ⟨wr.heap.size, 0, none⟩ = some (.int .i64 p.code) := cell_of_row _ _ 0 _ _ _ (heap_alloc_new wr _)
      have x1 : (wr.alloc (.cells #[.int .i64 p.code, .int .i64 p.glyph] 117)).cell? ⟨wr.heap.size, 1, none⟩ = some (.int .i64 p.glyph) := cell_of_row _ _ 1 _ _ _ (heap_alloc_new wr _)
      have hr1 := hr.below hb1
      by_cases h0 : 0 < k
      · obtain ⟨j, rfl⟩ : ∃ j, k = j + 1 := ⟨k - 1, by omega⟩
        obtain ⟨q, hq⟩ := getP (l := l) (j := j) (by have := Hn.out; omega)
        have hqo := Hok.out q (List.mem_of_getElem? hq)
        obtain ⟨g', off', e', _, r0, r1⟩ := atQ hr1 hq
        simp only [Option.some.injEq, Addr.mk.injEq, and_true] at e'
        obtain ⟨rfl, rfl⟩ := e'
        obtain ⟨st1, st2⟩ := runs_step folS hq hp
        have ST1 := Lib.hid st1
        have ST2 := Lib.hid st2
        have HFo : Hid (folS q p = decide (p.code = q.code + 1 ∧ p.glyph = (q.glyph + 1) % 65536)) := rfl
        clear st1 st2 hq hp hr1 hA
        obtain ⟨pc, pg⟩ := p
        obtain ⟨qc, qg⟩ := q
        simp only at *
        have ej : ((j : Int) + 1 - 1) = (j : Int) := by omega
        have ej2 : (((j + 1 : Nat) : Int) - 1) = (j : Int) := by omega
        have W2 : IntKind.i64.wrap (qc + 1) = qc + 1 := IntWalk.i64_in _ (by omega)
        have W3 : IntKind.i64.wrap (qg + 1) = qg + 1 := IntWalk.i64_in _ (by omega)
        have m3 : (qg + 1).tmod 65536 = (qg + 1) % 65536 := Int.tmod_eq_emod_of_nonneg (by omega)
        have d0 : ((j : Int) + 1 == 0) = false := by simp; omega
        go_wp2_with fail
        generalize wr.alloc (.cells #[.int .i64 pc, .int .i64 pg] 117) = V at *
        generalize wr.heap.size = bx at *
        by_cases h1 : pc = qc + 1
        · have b1 : (pc != qc + 1) = false := by simp [h1]
          by_cases h2 : pg = (qg + 1) % 65536
          · have e2 : (pg != (qg + 1) % 65536) = false := by simp [h2]
            have E3 : Hid ((runsF folS (l.take (j + 1 + 1))).length = m) := by
              obtain ⟨s, x, e4, e5⟩ := ST2.out (by rw [HFo.out]; exact decide_eq_true ⟨h1, h2⟩)
              show _ = _
              rw [e5, ← hM.out, e4]
              simp
            clear ST1 ST2 HFo h1 h2 hM
            go_quiet (fail)
            have hb2 := below_drewN hb1 nq
            go_wp2
            go_roundw
            case rel => exact ⟨j + 1 + 1, m, by omega, by omega, by go_num, rfl, E3, hb2⟩
            case measure => simp [intOf]; omega
          · have e2 : (pg != (qg + 1) % 65536) = true := by simp [h2]
            have E3 : Hid ((runsF folS (l.take (j + 1 + 1))).length = m + 1) := by
              show _ = _
              rw [ST1.out (by rw [HFo.out]; exact decide_eq_false (fun h => h2 h.2)), List.length_append, hM.out]
              rfl
            clear ST1 ST2 HFo h1 h2 hM
            go_quiet (fail)
            have hb2 := below_drewN hb1 nq
            go_wp2
            go_roundw
            case rel => exact ⟨j + 1 + 1, m + 1, by omega, by omega, by go_num, by go_num, E3, hb2⟩
            case measure => simp [intOf]; omega
        · have b1 : (pc != qc + 1) = true := by simp [h1]
          have E3 : Hid ((runsF folS (l.take (j + 1 + 1))).length = m + 1) := by
            show _ = _
            rw [ST1.out (by rw [HFo.out]; exact decide_eq_false (fun h => h1 h.1)), List.length_append, hM.out]
            rfl
          clear ST1 ST2 HFo h1 hM
          go_quiet (fail)
          have hb2 := below_drewN hb1 nq
          go_wp2
          go_roundw
          case rel => exact ⟨j + 1 + 1, m + 1, by omega, by omega, by go_num, by go_num, E3, hb2⟩
          case measure => simp [intOf]; omega
      · obtain rfl : k = 0 := by omega
        have E3 : Hid ((runsF folS (l.take (0 + 1))).length = 1) := by show _ = _; rw [runs_first folS hp]; rfl
        obtain rfl : m = 0 := by omega
        clear hA hr1 hp hM
        obtain ⟨pc, pg⟩ := p
        simp only at *
        rw [Nat.zero_mul, Nat.add_zero] at q0 q1
        go_wp2_with fail
        generalize wr.alloc (.cells #[.int .i64 pc, .int .i64 pg] 117) = V at *
        generalize wr.heap.size = bx at *
        go_quiet (fail)
        have hb2 := below_drewN hb1 nq
        go_wp2
        go_roundw
        case rel => exact ⟨0 + 1, 0 + 1, by omega, by omega, by go_num, by go_num, E3, hb2⟩
        case measure => simp [intOf]; omega
    · obtain rfl : k = n := by omega
      have E3 : Hid (runsF folS (l.take k) = runsF folS l) := by show _ = _; rw [List.take_of_length_le (by have := Hn.out; omega)]
      go_wp2
      go_ret
      exact ⟨by rw [← E3.out, hM.out]; rfl, hb⟩

end Go.Proofs.Ythkaeimpflggjaa
