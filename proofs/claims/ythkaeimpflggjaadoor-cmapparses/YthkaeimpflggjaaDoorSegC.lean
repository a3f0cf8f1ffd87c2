/- seg: how many segments: a contract over this seat's translation. -/
import Derived.Test.YthkaeimpflggjaaDoorSegP
import Derived.Test.YthkaeimpflggjaaDoorJoinN
import Derived.Test.YthkaeimpflggjaaDoorGrow
namespace Go.Proofs.YthkaeimpflggjaaDoor
open Go.RowKit
set_option linter.unusedVariables false

/-- What counting leaves. -/
def RetCn (w : World) (zs : List Int) (e : Ending) (w' : World) : Prop :=
  ∃ v : Int, e = .returned (.tuple #[.int .i64 v, .bool (sCnt zs)]) ∧ (sCnt zs = true → v = (sN zs : Int)) ∧ Below w.heap.size w w'

set_option maxRecDepth 100000 in
set_option maxHeartbeats 4000000 in
theorem scount_any (g M : Nat) (zs : List Int) (w : World) (hr : Row w (some ⟨g, 0, none⟩) M (cellsOf .u16 (nums zs M))) (hB : Bytes zs) (hM : 12 ≤ M) (hM2 : n2at zs 2 = 2 * (M : Int)) (hM3 : M ≤ 32767) :
    Calls Tryd.prog 72 #[.slice (some ⟨g, 0, none⟩) M M] w (RetCn w zs) := by
  have hat : ∀ i, i < M → w.cell? ⟨g, i, none⟩ = some (.int .u16 (n2at zs (2 * i))) := fun i hi => by
    obtain ⟨g', off', e', _, hc⟩ := hr.at (cellsOf_get (nums_get zs hi))
    simp only [Option.some.injEq, Addr.mk.injEq, and_true] at e'
    obtain ⟨rfl, rfl⟩ := e'
    rw [Nat.zero_add] at hc
    exact hc
  have hgl : g < w.heap.size := by
    obtain ⟨g', off', e', h', _⟩ := hr.2 (by omega)
    simp only [Option.some.injEq, Addr.mk.injEq, and_true] at e'
    omega
  have hgn : g ≠ w.heap.size := by omega
  have hgn' : w.heap.size ≠ g := by omega
  have c3 : w.cell? ⟨g, 3, none⟩ = some (.int .u16 (n2at zs 6)) := hat 3 (by omega)
  have c4 : w.cell? ⟨g, 4, none⟩ = some (.int .u16 (n2at zs 8)) := hat 4 (by omega)
  have c5 : w.cell? ⟨g, 5, none⟩ = some (.int .u16 (n2at zs 10)) := hat 5 (by omega)
  have c6 : w.cell? ⟨g, 6, none⟩ = some (.int .u16 (n2at zs 12)) := hat 6 (by omega)
  have k6 := n2at_lt hB 6
  have k8 := n2at_lt hB 8
  have k10 := n2at_lt hB 10
  have k12 := n2at_lt hB 12
  have HC : Hid (sCnt zs = (decide (n2at zs 6 % 2 = 0) && decide (n2at zs 6 / 2 ≠ 0) && decide (16 + 8 * (n2at zs 6 / 2) ≤ 2 * (M : Int)) && decide ([n2at zs 8, n2at zs 10, n2at zs 12] = srL (sN zs)))) := by show _ = _; unfold sCnt sCnt0 sTold; rw [hM2]
  obtain ⟨N, hN⟩ : ∃ N : Nat, n2at zs 6 / 2 = (N : Int) := ⟨(n2at zs 6 / 2).toNat, by omega⟩
  have hsN : sN zs = N := by unfold sN; omega
  rw [hN, hsN] at HC
  have HSN := Lib.hid hsN
  have HNo : Hid (∀ w' v, sCnt zs = false → Below w.heap.size w w' → RetCn w zs (.returned (.tuple #[.int .i64 v, .bool false])) w') := fun w' v h1 h2 => ⟨v, (by rw [h1]), (fun h => by rw [h1] at h; cases h), h2⟩
  clear hat hr hB hM2 hsN
  generalize n2at zs 6 = t at *
  generalize n2at zs 8 = x1 at *
  generalize n2at zs 10 = x2 at *
  generalize n2at zs 12 = x3 at *
  have hM8 : (8 : Int) ≤ (M : Int) := by omega
  have hM4 : (4 : Int) < (M : Int) := by omega
  have hM5 : (5 : Int) < (M : Int) := by omega
  have hM6 : (6 : Int) < (M : Int) := by omega
  by_cases h1 : t % 2 = 0
  · have b1 : (t % 2 != 0) = false := by simp [h1]
    by_cases h2 : N = 0
    · have HT : Hid (sCnt zs = false) := by show _ = _; rw [HC.out]; simp [h2]
      have b2 : ((N : Int) == 0) = true := by simp [h2]
      clear HC h1 h2
      go_enter Tryd.func72, Tryd.ntmps72
      go_wp2
      go_ret2
      exact HNo.out _ _ HT.out (Below.refl _ _)
    · have b2 : ((N : Int) == 0) = false := by simp [h2]
      by_cases h3 : 8 + 4 * N ≤ M
      · have HT : Hid (sCnt zs = decide ([x1, x2, x3] = srL N)) := by
          show _ = _
          rw [HC.out]
          have e1 : decide ((N : Int) ≠ 0) = true := decide_eq_true (by omega)
          have e2 : decide (16 + 8 * (N : Int) ≤ 2 * (M : Int)) = true := decide_eq_true (by omega)
          rw [e1, e2, decide_eq_true h1]
          rfl
        have HS := Lib.hid (fun W => ssearch_any N W (by omega) (by omega))
        have hA := (Below.refl w.heap.size w).alloc (Nat.le_refl _) (.cells #[.int .u16 x1, .int .u16 x2, .int .u16 x3] 117)
        obtain ⟨s1, s2, s3, hsr⟩ : ∃ s1 s2 s3, srL N = [s1, s2, s3] := ⟨_, _, _, rfl⟩
        rw [hsr] at HT HS
        have heq := fun W : World => run_equalIn_ints (P := Tryd.prog) W 9998 117 43 3 .u16 .u16 [x1, x2, x3] [s1, s2, s3] Tryd.underlying117 Tryd.underlying43 (by simp [go_sem]) (by simp [go_sem]) rfl rfl
        simp only [cellsOf, List.map_cons, List.map_nil] at heq
        unfold arrV at HS
        simp only [cellsOf, List.map_cons, List.map_nil] at HS
        clear hsr
        clear HC h1 h2
        go_enter Tryd.func72, Tryd.ntmps72
        go_wp2_with fail
        go_region
        all_goals
          go_wp2_with fail
          try rw [hN]
          have x0 : (w.alloc (.cells #[.int .u16 x1, .int .u16 x2, .int .u16 x3] 117)).drew.cell? ⟨w.heap.size, 0, none⟩ = some (.int .u16 x1) := cell_of_row (w.alloc (.cells #[.int .u16 x1, .int .u16 x2, .int .u16 x3] 117)) _ 0 _ _ _ (heap_alloc_new w _)
          have x1' : (w.alloc (.cells #[.int .u16 x1, .int .u16 x2, .int .u16 x3] 117)).drew.cell? ⟨w.heap.size, 1, none⟩ = some (.int .u16 x2) := cell_of_row (w.alloc (.cells #[.int .u16 x1, .int .u16 x2, .int .u16 x3] 117)) _ 1 _ _ _ (heap_alloc_new w _)
          have x2' : (w.alloc (.cells #[.int .u16 x1, .int .u16 x2, .int .u16 x3] 117)).drew.cell? ⟨w.heap.size, 2, none⟩ = some (.int .u16 x3) := cell_of_row (w.alloc (.cells #[.int .u16 x1, .int .u16 x2, .int .u16 x3] 117)) _ 2 _ _ _ (heap_alloc_new w _)
          have hB := hA.drew
          generalize (w.alloc (.cells #[.int .u16 x1, .int .u16 x2, .int .u16 x3] 117)).drew = V at *
          have X0 := gw_cell x0
          have X1 := gw_cell x1'
          have X2 := gw_cell x2'
          clear hA x0 x1' x2' c3 c4 c5 c6
          refine region_below (by kernel_rfl) (by kernel_rfl) ?_
          repeat (first | go_big_quiet_step (first | (go_at_call 61; exact calls_gw (HS.out _))) | quiet_step (first | (go_at_call 61; exact calls_gw (HS.out _))))
          refine wpQuiet_nil ?_
          rintro _ ⟨z, rfl⟩
          go_wp2
          go_ret2
          refine ⟨(N : Int), ?_, ?_, hB.trans ((gw_below V z.n z.os).mono hB.size)⟩
          · have hdec : decide ([x1, x2, x3] = [s1, s2, s3]) = (decide (x1 = s1) && (decide (x2 = s2) && decide (x3 = s3))) := by rw [Bool.eq_iff_iff]; simp
            rw [HT.out, hdec]
            rfl
          · intro _
            rw [HSN.out]
      · have HT : Hid (sCnt zs = false) := by
          show _ = _
          rw [HC.out]
          have e2 : decide (16 + 8 * (N : Int) ≤ 2 * (M : Int)) = false := decide_eq_false (by omega)
          rw [e2]
          simp
        clear HC h1 h2
        go_enter Tryd.func72, Tryd.ntmps72
        go_wp2
        go_ret2
        exact HNo.out _ _ HT.out (Below.refl _ _)
  · have b1 : (t % 2 != 0) = true := by simp [h1]
    have HT : Hid (sCnt zs = false) := by show _ = _; rw [HC.out]; simp [h1]
    clear HC h1
    go_enter Tryd.func72, Tryd.ntmps72
    go_wp2
    go_ret2
    exact HNo.out _ _ HT.out (Below.refl _ _)

end Go.Proofs.YthkaeimpflggjaaDoor
