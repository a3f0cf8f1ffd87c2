/- What the laws of this seat lean on: SegC SegQ SegS SegT SegB SegW Got SegR SegX. -/
import Derived.Test.YthkaeimpflggjaaDoorBase2
import Derived.Test.YthkaeimpflggjaaDoorBase3

/- seg: how many segments: a contract over this seat's translation. -/
namespace Go.Proofs.YthkaeimpflggjaaDoor
open Go.RowKit
set_option linter.unusedVariables false

/-- What counting leaves. -/
def RetCn (w : World) (zs : List Int) (e : Ending) (w' : World) : Prop :=
  ∃ v : Int, e = .returned (.tuple #[.int .i64 v, .bool (sCnt zs)]) ∧ (sCnt zs = true → v = (sN zs : Int)) ∧ Below w.heap.size w w'

set_option maxRecDepth 100000 in
set_option maxHeartbeats 4000000 in
theorem scount_any (g M : Nat) (zs : List Int) (w : World) (hr : Row w (some ⟨g, 0, none⟩) M (cellsOf .u16 (nums zs M))) (hB : Bytes zs) (hM : 12 ≤ M) (hM2 : n2at zs 2 = 2 * (M : Int)) (hM3 : M ≤ 32767) :
    Calls Tryd.prog 72 #[.slice (some ⟨g, 0, none⟩) M M] w (RetCn w zs) := by
  have hat : ∀ i, i < M → w.cell? ⟨g, i, none⟩ = some (.int .u16 (n2at zs (2 * i))) := fun i hi => by
    obtain ⟨g', off', e', _, hc⟩ := hr.at (cellsOf_get (nums_get zs hi))
    simp only [Option.some.injEq, Addr.mk.injEq, and_true] at e'
    obtain ⟨rfl, rfl⟩ := e'
    rw [Nat.zero_add] at hc
    exact hc
  have hgl : g < w.heap.size := by
    obtain ⟨g', off', e', h', _⟩ := hr.2 (by omega)
    simp only [Option.some.injEq, Addr.mk.injEq, and_true] at e'
    omega
  have hgn : g ≠ w.heap.size := by omega
  have hgn' : w.heap.size ≠ g := by omega
  have c3 : w.cell? ⟨g, 3, none⟩ = some (.int .u16 (n2at zs 6)) := hat 3 (by omega)
  have c4 : w.cell? ⟨g, 4, none⟩ = some (.int .u16 (n2at zs 8)) := hat 4 (by omega)
  have c5 : w.cell? ⟨g, 5, none⟩ = some (.int .u16 (n2at zs 10)) := hat 5 (by omega)
  have c6 : w.cell? ⟨g, 6, none⟩ = some (.int .u16 (n2at zs 12)) := hat 6 (by omega)
  have k6 := n2at_lt hB 6
  have k8 := n2at_lt hB 8
  have k10 := n2at_lt hB 10
  have k12 := n2at_lt hB 12
  have HC : Hid (sCnt zs = (decide (n2at zs 6 % 2 = 0) && decide (n2at zs 6 / 2 ≠ 0) && decide (16 + 8 * (n2at zs 6 / 2) ≤ 2 * (M : Int)) && decide ([n2at zs 8, n2at zs 10, n2at zs 12] = srL (sN zs)))) := by show _ = _; unfold sCnt sCnt0 sTold; rw [hM2]
  obtain ⟨N, hN⟩ : ∃ N : Nat, n2at zs 6 / 2 = (N : Int) := ⟨(n2at zs 6 / 2).toNat, by omega⟩
  have hsN : sN zs = N := by unfold sN; omega
  rw [hN, hsN] at HC
  have HSN := Lib.hid hsN
  have HNo : Hid (∀ w' v, sCnt zs = false → Below w.heap.size w w' → RetCn w zs (.returned (.tuple #[.int .i64 v, .bool false])) w') := fun w' v h1 h2 => ⟨v, (by rw [h1]), (fun h => by rw [h1] at h; cases h), h2⟩
  clear hat hr hB hM2 hsN
  generalize n2at zs 6 = t at *
  generalize n2at zs 8 = x1 at *
  generalize n2at zs 10 = x2 at *
  generalize n2at zs 12 = x3 at *
  have hM8 : (8 : Int) ≤ (M : Int) := by omega
  have hM4 : (4 : Int) < (M : Int) := by omega
  have hM5 : (5 : Int) < (M : Int) := by omega
  have hM6 : (6 : Int) < (M : Int) := by omega
  by_cases h1 : t % 2 = 0
  · have b1 : (t % 2 != 0) = false := by simp [h1]
    by_cases h2 : N = 0
    · have HT : Hid (sCnt zs = false) := by show _ = _; rw [HC.out]; simp [h2]
      have b2 : ((N : Int) == 0) = true := by simp [h2]
      clear HC h1 h2
      go_enter Tryd.func72, Tryd.ntmps72
      go_wp2
      go_ret2
      exact HNo.out _ _ HT.out (Below.refl _ _)
    · have b2 : ((N : Int) == 0) = false := by simp [h2]
      by_cases h3 : 8 + 4 * N ≤ M
      · have HT : Hid (sCnt zs = decide ([x1, x2, x3] = srL N)) := by
          show _ = _
          rw [HC.out]
          have e1 : decide ((N : Int) ≠ 0) = true := decide_eq_true (by omega)
          have e2 : decide (16 + 8 * (N : Int) ≤ 2 * (M : Int)) = true := decide_eq_true (by omega)
          rw [e1, e2, decide_eq_true h1]
          rfl
        have HS := Lib.hid (fun W => ssearch_any N W (by omega) (by omega))
        have hA := (Below.refl w.heap.size w).alloc (Nat.le_refl _) (.cells #[.int .u16 x1, .int .u16 x2, .int .u16 x3] 117)
        obtain ⟨s1, s2, s3, hsr⟩ : ∃ s1 s2 s3, srL N = [s1, s2, s3] := ⟨_, _, _, rfl⟩
        rw [hsr] at HT HS
        have heq := fun W : World => run_equalIn_ints (P := Tryd.prog) W 9998 117 43 3 .u16 .u16 [x1, x2, x3] [s1, s2, s3] Tryd.underlying117 Tryd.underlying43 (by simp [go_sem]) (by simp [go_sem]) rfl rfl
        simp only [cellsOf, List.map_cons, List.map_nil] at heq
        unfold arrV at HS
        simp only [cellsOf, List.map_cons, List.map_nil] at HS
        clear hsr
        clear HC h1 h2
        go_enter Tryd.func72, Tryd.ntmps72
        go_wp2_with fail
        go_region
        all_goals
          go_wp2_with fail
          try rw [hN]
          have x0 : (w.alloc (.cells #[.int .u16 x1, .int .u16 x2, .int .u16 x3] 117)).drew.cell? ⟨w.heap.size, 0, none⟩ = some (.int .u16 x1) := cell_of_row (w.alloc (.cells #[.int .u16 x1, .int .u16 x2, .int .u16 x3] 117)) _ 0 _ _ _ (heap_alloc_new w _)
          have x1' : (w.alloc (.cells #[.int .u16 x1, .int .u16 x2, .int .u16 x3] 117)).drew.cell? ⟨w.heap.size, 1, none⟩ = some (.int .u16 x2) := cell_of_row (w.alloc (.cells #[.int .u16 x1, .int .u16 x2, .int .u16 x3] 117)) _ 1 _ _ _ (heap_alloc_new w _)
          have x2' : (w.alloc (.cells #[.int .u16 x1, .int .u16 x2, .int .u16 x3] 117)).drew.cell? ⟨w.heap.size, 2, none⟩ = some (.int .u16 x3) := cell_of_row (w.alloc (.cells #[.int .u16 x1, .int .u16 x2, .int .u16 x3] 117)) _ 2 _ _ _ (heap_alloc_new w _)
          have hB := hA.drew
          generalize (w.alloc (.cells #[.int .u16 x1, .int .u16 x2, .int .u16 x3] 117)).drew = V at *
          have X0 := gw_cell x0
          have X1 := gw_cell x1'
          have X2 := gw_cell x2'
          clear hA x0 x1' x2' c3 c4 c5 c6
          refine region_below (by kernel_rfl) (by kernel_rfl) ?_
          repeat (first | go_big_quiet_step (first | (go_at_call 61; exact calls_gw (HS.out _))) | quiet_step (first | (go_at_call 61; exact calls_gw (HS.out _))))
          refine wpQuiet_nil ?_
          rintro _ ⟨z, rfl⟩
          go_wp2
          go_ret2
          refine ⟨(N : Int), ?_, ?_, hB.trans ((gw_below V z.n z.os).mono hB.size)⟩
          · have hdec : decide ([x1, x2, x3] = [s1, s2, s3]) = (decide (x1 = s1) && (decide (x2 = s2) && decide (x3 = s3))) := by rw [Bool.eq_iff_iff]; simp
            rw [HT.out, hdec]
            rfl
          · intro _
            rw [HSN.out]
      · have HT : Hid (sCnt zs = false) := by
          show _ = _
          rw [HC.out]
          have e2 : decide (16 + 8 * (N : Int) ≤ 2 * (M : Int)) = false := decide_eq_false (by omega)
          rw [e2]
          simp
        clear HC h1 h2
        go_enter Tryd.func72, Tryd.ntmps72
        go_wp2
        go_ret2
        exact HNo.out _ _ HT.out (Below.refl _ _)
  · have b1 : (t % 2 != 0) = true := by simp [h1]
    have HT : Hid (sCnt zs = false) := by show _ = _; rw [HC.out]; simp [h1]
    clear HC h1
    go_enter Tryd.func72, Tryd.ntmps72
    go_wp2
    go_ret2
    exact HNo.out _ _ HT.out (Below.refl _ _)

end Go.Proofs.YthkaeimpflggjaaDoor

/- seg: the segments of a table: contracts over this seat's translation. -/
namespace Go.Proofs.YthkaeimpflggjaaDoor
open Go.RowKit
set_option linter.unusedVariables false

/-- A segment in memory. -/
structure Sg where
  a : Int
  b : Int
  d : Int
  A : Option Addr
  n : Nat
deriving Inhabited
def encS (x : Sg) : List Value := [.int .u16 x.a, .int .u16 x.b, .int .u16 x.d, .slice x.A x.n x.n]
theorem encS_len (x : Sg) : (encS x).length = 4 := rfl
theorem encS_one (x : Sg) : ∀ u ∈ encS x, u.oneCell' = true := by intro u hu; simp [encS] at hu; rcases hu with rfl | rfl | rfl | rfl <;> rfl
theorem Tryd.sginfo : (Tryd.prog.info? 90).map (fun i => (i.zero, i.size, i.bytes)) = some (some (.agg #[.int .u16 0, .int .u16 0, .int .u16 0, .slice none 0 0]), 4, 32) := by kernel_rfl

/-- Where a segment's glyphs stand. -/
def sgA (zs : List Int) (n g i : Nat) : Option Addr := if (sqAt zs n i).o = 0 then none else some ⟨g, 8 + 3 * n + i + ((sqAt zs n i).o / 2).toNat, none⟩
def sgn_ (zs : List Int) (n i : Nat) : Nat := if (sqAt zs n i).o = 0 then 0 else ((sqAt zs n i).b - (sqAt zs n i).a + 1).toNat
def sgAt (zs : List Int) (n g i : Nat) : Sg := ⟨(sqAt zs n i).a, (sqAt zs n i).b, (sqAt zs n i).d, sgA zs n g i, sgn_ zs n i⟩

/-- What looking for the glyphs leaves. -/
def RetGl (w : World) (zs : List Int) (n g i : Nat) (e : Ending) (w' : World) : Prop :=
  Below w.heap.size w w' ∧ ((sOff zs n i (sqAt zs n i) = false ∧ e = .returned (.tuple #[.slice none 0 0, .bool false])) ∨
    (sOff zs n i (sqAt zs n i) = true ∧ e = .returned (.tuple #[.slice (sgA zs n g i) (sgn_ zs n i) (sgn_ zs n i), .bool true])))

theorem num_cell {w : World} {g M : Nat} {zs : List Int} (hr : Row w (some ⟨g, 0, none⟩) M (cellsOf .u16 (nums zs M))) {i : Nat} (hi : i < M) : w.cell? ⟨g, i, none⟩ = some (.int .u16 (n2at zs (2 * i))) := by
  obtain ⟨g', off', e', _, hc⟩ := hr.at (cellsOf_get (nums_get zs hi))
  simp only [Option.some.injEq, Addr.mk.injEq, and_true] at e'
  obtain ⟨rfl, rfl⟩ := e'
  rw [Nat.zero_add] at hc
  exact hc

set_option maxRecDepth 100000 in
set_option maxHeartbeats 4000000 in
theorem sglyphs_any (g M : Nat) (zs : List Int) (n i : Nat) (w : World) (hr : Row w (some ⟨g, 0, none⟩) M (cellsOf .u16 (nums zs M))) (hB : Bytes zs) (hM2 : n2at zs 2 = 2 * (M : Int)) (hM3 : M ≤ 32767) (hn : 8 + 4 * n ≤ M) (hi : i < n) (hab : (sqAt zs n i).a ≤ (sqAt zs n i).b) :
    Calls Tryd.prog 76 #[.agg #[.int .u16 (sqAt zs n i).a, .int .u16 (sqAt zs n i).b, .int .u16 (sqAt zs n i).d, .slice none 0 0], .slice (some ⟨g, 0, none⟩) M M, .int .i64 (8 + 3 * (n : Int) + i)] w (RetGl w zs n g i) := by
  have hc := num_cell hr (i := 8 + 3 * n + i) (by omega)
  rw [show 2 * (8 + 3 * n + i) = 16 + 6 * n + 2 * i by omega] at hc
  have ho : (sqAt zs n i).o = n2at zs (16 + 6 * n + 2 * i) := rfl
  have HOff : Hid (sOff zs n i (sqAt zs n i) = (decide ((sqAt zs n i).o = 0) || (decide ((sqAt zs n i).o % 2 = 0) && decide (16 + 6 * (n : Int) + 2 * i + (sqAt zs n i).o + 2 * ((sqAt zs n i).b - (sqAt zs n i).a) + 2 ≤ 2 * (M : Int))))) := by show _ = _; unfold sOff; rw [hM2]
  have HA : Hid (sgA zs n g i = if (sqAt zs n i).o = 0 then none else some ⟨g, 8 + 3 * n + i + ((sqAt zs n i).o / 2).toNat, none⟩) := rfl
  have HN : Hid (sgn_ zs n i = if (sqAt zs n i).o = 0 then 0 else ((sqAt zs n i).b - (sqAt zs n i).a + 1).toNat) := rfl
  have HNo : Hid (∀ w', sOff zs n i (sqAt zs n i) = false → Below w.heap.size w w' → RetGl w zs n g i (.returned (.tuple #[.slice none 0 0, .bool false])) w') := fun w' h1 h2 => ⟨h2, .inl ⟨h1, rfl⟩⟩
  have HYes : Hid (∀ w', sOff zs n i (sqAt zs n i) = true → Below w.heap.size w w' → RetGl w zs n g i (.returned (.tuple #[.slice (sgA zs n g i) (sgn_ zs n i) (sgn_ zs n i), .bool true])) w') := fun w' h1 h2 => ⟨h2, .inr ⟨h1, rfl⟩⟩
  rw [← ho] at hc
  have k0 : 0 ≤ (sqAt zs n i).o ∧ (sqAt zs n i).o < 65536 := n2at_lt hB _
  have k1 : 0 ≤ (sqAt zs n i).a ∧ (sqAt zs n i).a < 65536 := n2at_lt hB _
  have k2 : 0 ≤ (sqAt zs n i).b ∧ (sqAt zs n i).b < 65536 := n2at_lt hB _
  clear hr hB hM2 ho
  generalize sqAt zs n i = x at *
  generalize sOff zs n i x = F at *
  generalize sgA zs n g i = SA at *
  generalize sgn_ zs n i = SN at *
  obtain ⟨xa, xb, xd, xo⟩ := x
  simp only at *
  have hA := (Below.refl w.heap.size w).alloc (Nat.le_refl _) (.cells #[.int .u16 xa, .int .u16 xb, .int .u16 xd, .slice none 0 0] 90)
  obtain ⟨p, hp⟩ : ∃ p : Nat, 8 + 3 * n + i = p := ⟨_, rfl⟩
  have hpI : 8 + 3 * (n : Int) + (i : Int) = (p : Int) := by omega
  have hpM : p < M := by omega
  have hgl : g < w.heap.size := World.block_lt_of_cell? _ _ hc
  have hgn : g ≠ w.heap.size := by omega
  have hgn' : w.heap.size ≠ g := by omega
  rw [hp] at hc HA
  rw [hpI]
  by_cases h0 : xo = 0
  · have HT : Hid (F = true ∧ SA = none ∧ SN = 0) := by
      refine ⟨?_, ?_, ?_⟩
      · rw [HOff.out, h0]; rfl
      · rw [HA.out, if_pos h0]
      · rw [HN.out, if_pos h0]
    have b0 : (xo == 0) = true := by simp [h0]
    clear h0 HOff HA HN
    go_enter Tryd.func76, Tryd.ntmps76
    go_wp2
    go_ret2
    have := HYes.out _ HT.out.1 hA
    rw [HT.out.2.1, HT.out.2.2] at this
    exact this
  · have b0 : (xo == 0) = false := by simp [h0]
    have hxo : 0 < xo := by omega
    by_cases h2 : xo % 2 = 0
    · have b2 : (xo % 2 != 0) = false := by simp [h2]
      obtain ⟨q, hq⟩ : ∃ q : Nat, xo / 2 = (q : Int) := ⟨(xo / 2).toNat, by omega⟩
      obtain ⟨r, hr⟩ : ∃ r : Nat, xb - xa + 1 = (r : Int) := ⟨(xb - xa + 1).toNat, by omega⟩
      have hto : (p : Int) + (q : Int) + xb - xa + 1 = (p : Int) + (q : Int) + (r : Int) := by omega
      by_cases h3 : p + q + r ≤ M
      · have HT : Hid (F = true ∧ SA = some ⟨g, p + q, none⟩ ∧ SN = r) := by
          refine ⟨?_, ?_, ?_⟩
          · rw [HOff.out, decide_eq_false h0, decide_eq_true h2, decide_eq_true (by omega)]; rfl
          · rw [HA.out, if_neg h0, hq]; rfl
          · rw [HN.out, if_neg h0, hr]; rfl
        have hr1 : 1 ≤ r := by omega
        clear h0 h2 HOff HA HN HNo
        go_enter Tryd.func76, Tryd.ntmps76
        go_wp2
        go_ret2
        have e1 : p + q + r - (p + q) = r := by omega
        rw [e1]
        have := HYes.out _ HT.out.1 hA
        rw [HT.out.2.1, HT.out.2.2] at this
        exact this
      · have HT : Hid (F = false) := by show _ = _; rw [HOff.out, decide_eq_false h0, decide_eq_true h2, decide_eq_false (by omega)]; rfl
        clear h0 h2 HOff HA HN
        go_enter Tryd.func76, Tryd.ntmps76
        go_wp2
        go_ret2
        exact HNo.out _ HT.out hA
    · have b2 : (xo % 2 != 0) = true := by simp [h2]
      have HT : Hid (F = false) := by show _ = _; rw [HOff.out, decide_eq_false h0, decide_eq_false h2]; rfl
      clear h0 h2 HOff HA HN
      go_enter Tryd.func76, Tryd.ntmps76
      go_wp2
      go_ret2
      exact HNo.out _ HT.out hA

end Go.Proofs.YthkaeimpflggjaaDoor

/- seg: the segments of a table: segmentsOf and Parse. -/
namespace Go.Proofs.YthkaeimpflggjaaDoor
open Go.RowKit
set_option linter.unusedVariables false

def segs (zs : List Int) (n g k : Nat) : List Sg := (List.range k).map (sgAt zs n g)
def sg0 : Sg := ⟨0, 0, 0, none, 0⟩
theorem segs_len (zs : List Int) (n g k : Nat) : (segs zs n g k).length = k := by simp [segs]
theorem segs_succ (zs : List Int) (n g k : Nat) : segs zs n g (k + 1) = segs zs n g k ++ [sgAt zs n g k] := by simp [segs, List.range_succ]
theorem segs_get (zs : List Int) (n g : Nat) {k i : Nat} (h : i < k) : (segs zs n g k)[i]? = some (sgAt zs n g i) := by simp [segs, h]
theorem segs_set (zs : List Int) (n g k : Nat) (h : k < n) : (segs zs n g k ++ List.replicate (n - k) sg0).set k (sgAt zs n g k) = segs zs n g (k + 1) ++ List.replicate (n - (k + 1)) sg0 := by
  rw [List.set_append_right _ _ (by rw [segs_len]; exact Nat.le_refl _), segs_len, Nat.sub_self, segs_succ, List.append_assoc, show n - k = (n - (k + 1)) + 1 by omega, List.replicate_succ]
  rfl

theorem atS {w : World} {A : Option Addr} {n : Nat} {l : List Sg} {j : Nat} {x : Sg} (h : RowS encS 4 w A n l) (hj : l[j]? = some x) :
    ∃ g off, A = some ⟨g, off, none⟩ ∧ g < w.heap.size ∧ w.cell? ⟨g, off + j * 4, none⟩ = some (.int .u16 x.a) ∧ w.cell? ⟨g, off + j * 4 + 1, none⟩ = some (.int .u16 x.b) ∧ w.cell? ⟨g, off + j * 4 + 2, none⟩ = some (.int .u16 x.d) ∧ w.cell? ⟨g, off + j * 4 + 3, none⟩ = some (.slice x.A x.n x.n) := by
  obtain ⟨g, off, e, hg, hc⟩ := h.at encS_len (by omega) hj
  exact ⟨g, off, e, hg, hc 0 _ rfl, hc 1 _ rfl, hc 2 _ rfl, hc 3 _ rfl⟩

/-- What telling segments leaves. -/
def RetSs (w : World) (zs : List Int) (n g : Nat) (e : Ending) (w' : World) : Prop :=
  ∃ A m c, e = .returned (.tuple #[.slice A m c, .bool (sOkK zs n n && sEnd zs n)]) ∧ ((sOkK zs n n && sEnd zs n) = true → m = n ∧ OwnS 90 encS 4 w' w.heap.size A n c (segs zs n g n)) ∧ Below w.heap.size w w'

/-- A fresh row of segments. -/
structure SP (w wr : World) (gp n : Nat) (l : List Sg) : Prop where
  own : OwnS 90 encS 4 wr w.heap.size (some ⟨gp, 0, none⟩) n n l
  bel : Below w.heap.size w wr
theorem SP.below {w wr w' : World} {gp n : Nat} {l : List Sg} (h : SP w wr gp n l) (hb : Below wr.heap.size wr w') : SP w w' gp n l := ⟨h.own.below hb, h.bel.trans (hb.mono h.bel.size)⟩
theorem SP.drew {w wr : World} {gp n : Nat} {l : List Sg} (h : SP w wr gp n l) : SP w wr.drew gp n l := ⟨h.own.drew, h.bel.drew⟩
theorem SP.other {w wr : World} {gp n : Nat} {l : List Sg} (h : SP w wr gp n l) {k : Nat} (hk : k ≠ gp) (hw : w.heap.size ≤ k) (j : Nat) (v : Value) : SP w (wr.setCell ⟨k, j, none⟩ v) gp n l :=
  ⟨h.own.keep (fun q e => by simp [blockOf] at e; subst e; exact Below.heap_setCell wr _ v gp (fun e => hk e.symm)), below_set hw j v h.bel⟩
theorem SP.set {w wr : World} {gp n : Nat} {l : List Sg} (h : SP w wr gp n l) (k : Nat) (hk : k < n) (x : Sg) : SP w (setCells wr gp (k * 4) (encS x)) gp n (l.set k x) :=
  ⟨ownS_store encS_len h.own hk x, setCells_below (h.own.from_ gp rfl).1 _ _ _ h.bel⟩

set_option maxRecDepth 100000 in
set_option maxHeartbeats 8000000 in
theorem ssegs_any (g M : Nat) (zs : List Int) (n : Nat) (w : World) (hr : Row w (some ⟨g, 0, none⟩) M (cellsOf .u16 (nums zs M))) (hB : Bytes zs) (hM2 : n2at zs 2 = 2 * (M : Int)) (hM3 : M ≤ 32767) (hn : 8 + 4 * n ≤ M) (hn0 : 1 ≤ n) :
    Calls Tryd.prog 73 #[.slice (some ⟨g, 0, none⟩) M M, .int .i64 n] w (RetSs w zs n g) := by
  obtain ⟨i0, hi, hz0, hz1, hz2⟩ := info_parts Tryd.sginfo
  obtain ⟨pb, hpb⟩ : ∃ p : Nat, 7 + (n : Int) = (p : Int) := ⟨7 + n, by omega⟩
  obtain ⟨p1, hp1⟩ : ∃ p : Nat, (pb : Int) + 1 = (p : Int) := ⟨pb + 1, by omega⟩
  obtain ⟨p2, hp2⟩ : ∃ p : Nat, (p1 : Int) + (n : Int) = (p : Int) := ⟨p1 + n, by omega⟩
  obtain ⟨p3, hp3⟩ : ∃ p : Nat, (p2 : Int) + (n : Int) = (p : Int) := ⟨p2 + n, by omega⟩
  have HNo : Hid (∀ w', (sOkK zs n n && sEnd zs n) = false → Below w.heap.size w w' → RetSs w zs n g (.returned (.tuple #[.slice none 0 0, .bool false])) w') := fun w' h1 h2 => ⟨none, 0, 0, (by rw [h1]), (fun h => by rw [h1] at h; cases h), h2⟩
  have Hr := Lib.hid hr
  have HB := Lib.hid hB
  have hgl : g < w.heap.size := World.block_lt_of_cell? _ _ (num_cell hr (i := 0) (by omega))
  clear hr hB
  go_enter Tryd.func73, Tryd.ntmps73
  go_wp2_with (at_make; refine wpList_make_S rfl (.tmp 25) (.tmp 25) _ rfl 90 encS 4 encS_len (by omega) w.heap.size i0 _ sg0 32 Tryd.underlying33 hi hz0 hz1 rfl hz2 _ _ n rfl rfl rfl rfl (by omega) (by omega) (Nat.le_refl _) ?_; intro w1 hown1 hg1)
  have hs : SP w w1 w.heap.size n (segs zs n g 0 ++ List.replicate (n - 0) sg0) := ⟨hown1, (Below.refl _ _).grown hg1 (Nat.le_refl _) (fun k e => by cases e)⟩
  clear hown1 hg1 hi hz0 hz1 hz2
  have Hpb := Lib.hid hpb
  have Hp1 := Lib.hid hp1
  have Hp2 := Lib.hid hp2
  have Hp3 := Lib.hid hp3
  clear hpb hp1 hp2 hp3
  have hgw : g ≠ w.heap.size := by omega
  generalize hgp : w.heap.size = gp at hs hgl hgw ⊢
  go_loopw [11, 29] (fun a i wr => ∃ k : Nat, k ≤ n ∧ i = .int .i64 k ∧ a = .int .i64 (sLeast zs k) ∧ Hid (sOkK zs n k = true) ∧ SP w wr gp n (segs zs n g k ++ List.replicate (n - k) sg0)) (fun _ i _ => n - (intOf i).toNat)
  case atStart => exact ⟨0, Nat.zero_le _, rfl, rfl, Lib.hid rfl, hs⟩
  case round =>
    clear hs
    obtain ⟨k, hk, rfl, rfl, hok, hs⟩ := hrel
    have hrw := Hr.out.below hs.bel
    have hgs : gp ≤ wr.heap.size := by have := hs.bel.size; omega
    by_cases hlt : k < n
    · obtain ⟨q0, hq0⟩ : ∃ p : Nat, 7 + (k : Int) = (p : Int) := ⟨7 + k, by omega⟩
      obtain ⟨q1, hq1⟩ : ∃ p : Nat, (p1 : Int) + (k : Int) = (p : Int) := ⟨p1 + k, by omega⟩
      obtain ⟨q2, hq2⟩ : ∃ p : Nat, (p2 : Int) + (k : Int) = (p : Int) := ⟨p2 + k, by omega⟩
      obtain ⟨q3, hq3⟩ : ∃ p : Nat, (p3 : Int) + (k : Int) = (p : Int) := ⟨p3 + k, by omega⟩
      have a1 := Hpb.out
      have a2 := Hp1.out
      have a3 := Hp2.out
      have a4 := Hp3.out
      have c0 : wr.cell? ⟨g, q0, none⟩ = some (.int .u16 (sqAt zs n k).b) := by have := num_cell hrw (i := q0) (by omega); rw [show 2 * q0 = 14 + 2 * k by omega] at this; exact this
      have c1 : wr.cell? ⟨g, q1, none⟩ = some (.int .u16 (sqAt zs n k).a) := by have := num_cell hrw (i := q1) (by omega); rw [show 2 * q1 = 16 + 2 * n + 2 * k by omega] at this; exact this
      have c2 : wr.cell? ⟨g, q2, none⟩ = some (.int .u16 (sqAt zs n k).d) := by have := num_cell hrw (i := q2) (by omega); rw [show 2 * q2 = 16 + 4 * n + 2 * k by omega] at this; exact this
      have ka : 0 ≤ (sqAt zs n k).a ∧ (sqAt zs n k).a < 65536 := n2at_lt HB.out _
      have kb : 0 ≤ (sqAt zs n k).b ∧ (sqAt zs n k).b < 65536 := n2at_lt HB.out _
      have HG : Hid (∀ W, Below w.heap.size w W → (sqAt zs n k).a ≤ (sqAt zs n k).b → Calls Tryd.prog 76 #[.agg #[.int .u16 (sqAt zs n k).a, .int .u16 (sqAt zs n k).b, .int .u16 (sqAt zs n k).d, .slice none 0 0], .slice (some ⟨g, 0, none⟩) M M, .int .i64 (q3 : Int)] W (RetGl W zs n g k)) := fun W hW hab => by
        have := sglyphs_any g M zs n k W (Hr.out.below hW) HB.out hM2 hM3 hn hlt hab
        rwa [show 8 + 3 * (n : Int) + (k : Int) = (q3 : Int) by omega] at this
      have HOk : Hid (sOkAt zs n k = (decide (sLeast zs k ≤ (sqAt zs n k).a) && decide ((sqAt zs n k).a ≤ (sqAt zs n k).b) && sOff zs n k (sqAt zs n k))) := rfl
      have HBad : Hid (sOkAt zs n k = false → (sOkK zs n n && sEnd zs n) = false) := fun h => by rw [sOkK_not hlt h]; rfl
      have HLs : Hid (sLeast zs (k + 1) = (sqAt zs n k).b + 1) := by show _ = _; unfold sLeast sqAt; rw [if_neg (by omega), show 12 + 2 * (k + 1) = 14 + 2 * k by omega]
      have HSet := Lib.hid (segs_set zs n g k hlt)
      have HSg : Hid (sgAt zs n g k = ⟨(sqAt zs n k).a, (sqAt zs n k).b, (sqAt zs n k).d, sgA zs n g k, sgn_ zs n k⟩) := rfl
      have d0 : q0 < M := by omega
      have d1 : q1 < M := by omega
      have d2 : q2 < M := by omega
      have d3 : q3 < M := by omega
      have hgl2 : g < wr.heap.size := by omega
      have hgn : g ≠ wr.heap.size := by omega
      have hgn' : wr.heap.size ≠ g := by omega
      clear a1 a2 a3 a4 hrw
      generalize hx : sqAt zs n k = x at *
      obtain ⟨xa, xb, xd, xo⟩ := x
      have HX := Lib.hid hx
      clear hx
      simp only at *
      have hA := (Below.refl wr.heap.size wr).alloc (Nat.le_refl _) (.cells #[.int .u16 xa, .int .u16 xb, .int .u16 xd, .slice none 0 0] 90)
      have hs1 := (hs.below hA).drew
      have hkb := heap_alloc_new wr (.cells #[.int .u16 xa, .int .u16 xb, .int .u16 xd, .slice none 0 0] 90)
      go_wp2_with fail
      go_region
      all_goals
        have hkb' : (wr.alloc (.cells #[.int .u16 xa, .int .u16 xb, .int .u16 xd, .slice none 0 0] 90)).drew.heap[wr.heap.size]? = some (.cells #[.int .u16 xa, .int .u16 xb, .int .u16 xd, .slice none 0 0] 90 (0, 0)) := hkb
        clear hkb c0 c1 c2 hA d0 d1 d2 hgn hgn' hgl2
        have hgpb : wr.heap.size ≠ gp := by have := (hs.own.from_ gp rfl).2; omega
        clear hs
        generalize (wr.alloc (.cells #[.int .u16 xa, .int .u16 xb, .int .u16 xd, .slice none 0 0] 90)).drew = V at *
        generalize wr.heap.size = bx at *
        have x0 : V.cell? ⟨bx, 0, none⟩ = some (.int .u16 xa) := cell_of_row V _ 0 _ _ _ hkb'
        have x1 : V.cell? ⟨bx, 1, none⟩ = some (.int .u16 xb) := cell_of_row V _ 1 _ _ _ hkb'
        have x2 : V.cell? ⟨bx, 2, none⟩ = some (.int .u16 xd) := cell_of_row V _ 2 _ _ _ hkb'
        have x3 : V.cell? ⟨bx, 3, none⟩ = some (.slice none 0 0) := cell_of_row V _ 3 _ _ _ hkb'
        by_cases h1 : sLeast zs k ≤ xa
        · by_cases h2 : xa ≤ xb
          · have HC := Lib.hid (HG.out V hs1.bel h2)
            clear HG
            go_wp2_with fail
            with_reducible refine HC.out.mono ?_
            rintro e w5 ⟨hb5, ⟨hf, rfl⟩ | ⟨hf, rfl⟩⟩
            · rw [HX.out] at hf
              have HT := Lib.hid (HBad.out (by rw [HOk.out, hf]; simp))
              have hs5 := hs1.below hb5
              have hk5 := kept_block hkb' hb5
              have y3 : w5.cell? ⟨bx, 3, none⟩ = some (.slice none 0 0) := cell_of_row w5 _ 3 _ _ _ hk5
              have f3 := thawed hk5
              have hs6 := Lib.hid (hs5.other hgpb (by omega) 3 (.slice none 0 0))
              clear HOk HBad HC hf hs1 hs5 hk5 hb5 x0 x1 x2 x3 hkb'
              go_wp2
              go_ret2
              exact HNo.out _ HT.out hs6.out.bel
            · rw [HX.out] at hf
              have HT : Hid (sOkK zs n (k + 1) = true) := by show _ = _; rw [sOkK_succ, hok.out, HOk.out, hf, decide_eq_true h1, decide_eq_true h2]; rfl
              have hs5 := hs1.below hb5
              have hk5 := kept_block hkb' hb5
              have y3 : w5.cell? ⟨bx, 3, none⟩ = some (.slice none 0 0) := cell_of_row w5 _ 3 _ _ _ hk5
              have f3 := thawed hk5
              have hs6 := hs5.other hgpb (by omega) 3 (.slice (sgA zs n g k) (sgn_ zs n k) (sgn_ zs n k))
              have hk6 := set_block hk5 3 (.slice (sgA zs n g k) (sgn_ zs n k) (sgn_ zs n k))
              have hs7 := hs6.set k hlt (sgAt zs n g k)
              rw [HSet.out, HSg.out] at hs7
              clear HOk HBad HC hf hs1 hs5 hk5 hb5 x0 x1 x2 x3 hkb' HSet HSg
              generalize sgA zs n g k = SA at *
              generalize sgn_ zs n k = SN at *
              go_wp2_with fail
              clear y3 f3
              generalize w5.setCell ⟨bx, 3, none⟩ (.slice SA SN SN) = U at *
              have y0 : U.cell? ⟨bx, 0, none⟩ = some (.int .u16 xa) := cell_of_row U _ 0 _ _ _ hk6
              have y1 : U.cell? ⟨bx, 1, none⟩ = some (.int .u16 xb) := cell_of_row U _ 1 _ _ _ hk6
              have y2 : U.cell? ⟨bx, 2, none⟩ = some (.int .u16 xd) := cell_of_row U _ 2 _ _ _ hk6
              have y3 : U.cell? ⟨bx, 3, none⟩ = some (.slice SA SN SN) := cell_of_row U _ 3 _ _ _ hk6
              obtain ⟨z, hz⟩ : ∃ z, (segs zs n g k ++ List.replicate (n - k) sg0)[k]? = some z := ⟨_, List.getElem?_eq_getElem (by simp [segs_len]; omega)⟩
              obtain ⟨gg, off', e', _, t0, t1, t2, t3⟩ := atS (hs6.own.row encS_len) hz
              simp only [Option.some.injEq, Addr.mk.injEq, and_true] at e'
              obtain ⟨rfl, rfl⟩ := e'
              rw [Nat.zero_add] at t0 t1 t2 t3
              have f0 := hs6.own.thaw
              have H7 := Lib.hid hs7.drew
              unfold encS setCells setCells setCells setCells setCells at H7
              have hgpb' : gp ≠ bx := fun e => hgpb e.symm
              clear hs7 hs6 hz hk6
              go_region
              all_goals
                go_wp2
                go_roundw
                case rel => exact ⟨k + 1, by omega, by go_num, by rw [HLs.out], HT, H7.out⟩
                case measure => simp [intOf]; omega
          · have HT := Lib.hid (HBad.out (by rw [HOk.out, decide_eq_false h2]; simp))
            clear HG HOk HBad hok HSet HSg HLs
            go_wp2
            go_ret2
            exact HNo.out _ HT.out hs1.bel
        · have HT := Lib.hid (HBad.out (by rw [HOk.out, decide_eq_false h1]; simp))
          clear HG HOk HBad hok HSet HSg HLs
          go_wp2
          go_ret2
          exact HNo.out _ HT.out hs1.bel
    · obtain rfl : k = n := by omega
      obtain ⟨m, rfl⟩ : ∃ m, k = m + 1 := ⟨k - 1, by omega⟩
      have ho := hs.own
      rw [Nat.sub_self, List.replicate_zero, List.append_nil] at ho
      obtain ⟨gg, off', e', _, t0, t1, t2, t3⟩ := atS (ho.row encS_len) (segs_get zs (m + 1) g (i := m) (by omega))
      simp only [Option.some.injEq, Addr.mk.injEq, and_true] at e'
      obtain ⟨rfl, rfl⟩ := e'
      rw [Nat.zero_add] at t0 t1 t2 t3
      have a1 := Hpb.out
      have cb : wr.cell? ⟨g, pb, none⟩ = some (.int .u16 (n2at zs (14 + 2 * (m + 1)))) := by have := num_cell hrw (i := pb) (by omega); rw [show 2 * pb = 14 + 2 * (m + 1) by omega] at this; exact this
      have hen : (sgAt zs (m + 1) g m).b = n2at zs (12 + 2 * (m + 1)) := by show n2at zs (14 + 2 * m) = _; rw [show 14 + 2 * m = 12 + 2 * (m + 1) by omega]
      rw [hen] at t1
      have HE : Hid ((sOkK zs (m + 1) (m + 1) && sEnd zs (m + 1)) = (decide (n2at zs (12 + 2 * (m + 1)) = 65535) && decide (n2at zs (14 + 2 * (m + 1)) = 0))) := by show _ = _; rw [hok.out]; rfl
      have ho2 := Lib.hid ho
      have hbw := Lib.hid hs.bel
      have e1 : (((m + 1 : Nat) : Int) - 1) = (m : Int) := by omega
      have e2 : ((m : Int) + 1 - 1) = (m : Int) := by omega
      have dpb : pb < M := by omega
      have HR : Hid (∀ (b : Bool) q, (sOkK zs (m + 1) (m + 1) && sEnd zs (m + 1)) = b → RetSs w zs (m + 1) g (.returned (.tuple #[.slice (some ⟨gp, 0, none⟩) (m + 1) (m + 1), .bool b])) (wr.drewN q)) := by
        show ∀ _ _, _
        intro b q hb
        exact ⟨_, _, _, (by rw [hb]), (fun _ => ⟨rfl, ho2.out.drewN q⟩), below_drewN hbw.out q⟩
      clear t0 t2 t3 hen ho hs hrw hok HNo ho2 hbw a1
      generalize n2at zs (12 + 2 * (m + 1)) = v1 at *
      generalize n2at zs (14 + 2 * (m + 1)) = v2 at *
      by_cases h1 : v1 = 65535
      · have b1 : (v1 == 65535) = true := by simp [h1]
        by_cases h2 : v2 = 0
        · have b2 : (v2 == 0) = true := by simp [h2]
          have HT : Hid ((sOkK zs (m + 1) (m + 1) && sEnd zs (m + 1)) = true) := by show _ = _; rw [HE.out, decide_eq_true h1, decide_eq_true h2]; rfl
          clear HE h1 h2
          go_wp2_with fail
          go_quiet (fail)
          go_wp2
          go_ret2
          exact HR.out _ _ HT.out
        · have b2 : (v2 == 0) = false := by simp [h2]
          have HT : Hid ((sOkK zs (m + 1) (m + 1) && sEnd zs (m + 1)) = false) := by show _ = _; rw [HE.out, decide_eq_false h2]; simp
          clear HE h1 h2
          go_wp2_with fail
          go_quiet (fail)
          go_wp2
          go_ret2
          exact HR.out _ _ HT.out
      · have b1 : (v1 == 65535) = false := by simp [h1]
        have HT : Hid ((sOkK zs (m + 1) (m + 1) && sEnd zs (m + 1)) = false) := by show _ = _; rw [HE.out, decide_eq_false h1]; rfl
        clear HE h1
        go_wp2_with fail
        go_quiet (fail)
        go_wp2
        go_ret2
        exact HR.out _ _ HT.out

end Go.Proofs.YthkaeimpflggjaaDoor

/- seg: Parse, Segments and Look, as contracts over this seat's translation. -/
namespace Go.Proofs.YthkaeimpflggjaaDoor
open Go.RowKit
set_option linter.unusedVariables false

def smV (A : Option Addr) (n c : Nat) : Value := .agg #[.slice A n c]

/-- What Parse leaves. -/
def RetSP (w : World) (zs : List Int) (e : Ending) (w' : World) : Prop :=
  Below w.heap.size w w' ∧ ((sRight zs = false ∧ e = .returned (.tuple #[smV none 0 0, .int .i64 2])) ∨
    (sRight zs = true ∧ ∃ A c g, e = .returned (.tuple #[smV A (sN zs) c, .int .i64 0]) ∧ OwnS 90 encS 4 w' w.heap.size A (sN zs) c (segs zs (sN zs) g (sN zs)) ∧ Row w' (some ⟨g, 0, none⟩) (sM zs) (cellsOf .u16 (nums zs (sM zs)))))

set_option maxRecDepth 100000 in
set_option maxHeartbeats 4000000 in
theorem sparse_any (A : Option Addr) (n c : Nat) (zs : List Int) (w : World) (hr : Row w A n (cellsOf .u8 zs)) (hB : Bytes zs) (hn : n ≤ 1000000) (hc : n ≤ c) :
    Calls Tryd.prog 52 #[.slice A n c] w (RetSP w zs) := by
  have SI : Hid ((Tryd.prog.info? 35).map (·.size) = some 1) := by show _ = _; kernel_rfl
  have hA : Below w.heap.size w (w.alloc (.cells #[.slice none 0 0] 35)) := (Below.refl _ _).alloc (Nat.le_refl _) _
  have hk := heap_alloc_new w (.cells #[.slice none 0 0] 35)
  have HC := Lib.hid (snumbers_any A n c zs _ (hr.below hA) hB hn hc)
  have HE : Hid (∀ (W : World) (v : Value), W.heap[w.heap.size]? = some (.cells #[.slice none 0 0] 35 (0, 0)) → Below w.heap.size w W → (W.setCell ⟨w.heap.size, 0, none⟩ v).heap[w.heap.size]? = some (.cells #[v] 35 (0, 0)) ∧ Below w.heap.size w (W.setCell ⟨w.heap.size, 0, none⟩ v)) := by
    show ∀ _ _, _
    intro W v h1 h2
    exact ⟨set_block h1 0 v, below_set (Nat.le_refl _) _ _ h2⟩
  have HB := Lib.hid hB
  have kk := n2at_lt hB 2
  go_enter Tryd.func52, Tryd.ntmps52
  go_wp2_with fail
  with_reducible refine HC.out.mono ?_
  rintro e w1 ⟨hb1, ⟨hf, rfl⟩ | ⟨hf, g, rfl, hown⟩⟩
  · have HF : Hid (sRight zs = false) := by show _ = _; unfold sRight; rw [hf]; rfl
    have hk1 := kept_block hk hb1
    have hbw := hA.trans (hb1.mono hA.size)
    have c0 : w1.cell? ⟨w.heap.size, 0, none⟩ = some (.slice none 0 0) := cell_of_row w1 _ 0 _ _ _ hk1
    have f0 := thawed hk1
    obtain ⟨s1, s2⟩ := HE.out w1 (.slice none 0 0) hk1 hbw
    have S1 := Lib.hid s1
    have S2 := Lib.hid s2
    clear s1 s2 hk hk1 hf HC hA hb1 hbw hr hB
    go_wp2
    exact bodyPost_ret (v := .tuple #[smV none 0 0, .int .i64 2]) (results_two2 Tryd.results52 _ _ w.heap.size 35 _ (0, 0) _ rfl rfl S1.out Tryd.underlying35 rfl SI.out) rfl ⟨S2.out, .inl ⟨HF.out, rfl⟩⟩
  · have hk1 := kept_block hk hb1
    have hbw := hA.trans (hb1.mono hA.size)
    have hM : n2at zs 2 = 2 * (sM zs : Int) ∧ 12 ≤ sM zs ∧ sM zs ≤ 32767 := by
      simp [sFront] at hf
      unfold sM
      omega
    have HCn := Lib.hid (scount_any g (sM zs) zs w1 hown.row hB hM.2.1 hM.1 hM.2.2)
    have hrow := hown.row
    have hgw : w.heap.size < g := by have := (hown.from_ g rfl).1; simp at this; omega
    have Hf := Lib.hid hf
    have HM := Lib.hid hM
    clear HC hA hb1 hk hr hB hown hM hf
    go_wp2_with fail
    with_reducible refine HCn.out.mono ?_
    rintro e w2 ⟨v, rfl, hv, hb2⟩
    have hk2 := kept_block hk1 hb2
    have hbw2 := hbw.trans (hb2.mono hbw.size)
    have hrow2 := hrow.below hb2
    clear hk1 hbw hb2 HCn hrow
    cases hcn : sCnt zs with
    | false =>
      have HF : Hid (sRight zs = false) := by show _ = _; unfold sRight; rw [hcn]; simp
      have c0 : w2.cell? ⟨w.heap.size, 0, none⟩ = some (.slice none 0 0) := cell_of_row w2 _ 0 _ _ _ hk2
      have f0 := thawed hk2
      obtain ⟨s1, s2⟩ := HE.out w2 (.slice none 0 0) hk2 hbw2
      have S1 := Lib.hid s1
      have S2 := Lib.hid s2
      clear s1 s2 hk2 hbw2 hv hcn
      go_wp2
      exact bodyPost_ret (v := .tuple #[smV none 0 0, .int .i64 2]) (results_two2 Tryd.results52 _ _ w.heap.size 35 _ (0, 0) _ rfl rfl S1.out Tryd.underlying35 rfl SI.out) rfl ⟨S2.out, .inl ⟨HF.out, rfl⟩⟩
    | true =>
      obtain rfl := hv hcn
      have hN : 8 + 4 * sN zs ≤ sM zs ∧ 1 ≤ sN zs := by
        have h1 := HM.out.1
        have h6 := n2at_lt HB.out 6
        unfold sCnt sCnt0 at hcn
        simp at hcn
        unfold sN
        omega
      have HS := Lib.hid (ssegs_any g (sM zs) zs (sN zs) w2 hrow2 HB.out HM.out.1 HM.out.2.2 hN.1 hN.2)
      have HRt : Hid (sRight zs = (sOkK zs (sN zs) (sN zs) && sEnd zs (sN zs))) := by show _ = _; unfold sRight; rw [hcn, Hf.out]; rfl
      clear hv hcn hN
      go_wp2_with fail
      with_reducible refine HS.out.mono ?_
      rintro e w3 ⟨A3, m3, c3, rfl, h3, hb3⟩
      have hk3 := kept_block hk2 hb3
      have hbw3 := hbw2.trans (hb3.mono hbw2.size)
      have hrow3 := hrow2.below hb3
      have hsz2 := hbw2.size
      rw [← HRt.out] at h3 ⊢
      have c0 : w3.cell? ⟨w.heap.size, 0, none⟩ = some (.slice none 0 0) := cell_of_row w3 _ 0 _ _ _ hk3
      have f0 := thawed hk3
      clear hk2 hbw2 hrow2 HS hb3
      cases hrt : sRight zs with
      | false =>
        obtain ⟨s1, s2⟩ := HE.out w3 (.slice none 0 0) hk3 hbw3
        have S1 := Lib.hid s1
        have S2 := Lib.hid s2
        have HF := Lib.hid hrt
        clear s1 s2 hk3 hbw3 h3 hrt
        go_wp2
        exact bodyPost_ret (v := .tuple #[smV none 0 0, .int .i64 2]) (results_two2 Tryd.results52 _ _ w.heap.size 35 _ (0, 0) _ rfl rfl S1.out Tryd.underlying35 rfl SI.out) rfl ⟨S2.out, .inl ⟨HF.out, rfl⟩⟩
      | true =>
        obtain ⟨rfl, hown3⟩ := h3 hrt
        have HF := Lib.hid hrt
        obtain ⟨s1, s2⟩ := HE.out w3 (.slice A3 (sN zs) c3) hk3 hbw3
        have S1 := Lib.hid s1
        have S2 := Lib.hid s2
        have hne : ∀ q, blockOf A3 = some q → q ≠ w.heap.size := fun q e he => by
          have := (hown3.from_ q e).1
          have := lt_of_block hk3
          rcases hown3.shape with ⟨h, _⟩ | ⟨g', cur, h, _, _, hh, _⟩
          · rw [h] at e; simp [blockOf] at e
          · rw [h] at e
            simp [blockOf] at e
            subst e
            rw [he, hk3] at hh
            simp at hh
        have O3 : Hid (OwnS 90 encS 4 (w3.setCell ⟨w.heap.size, 0, none⟩ (.slice A3 (sN zs) c3)) w.heap.size A3 (sN zs) c3 (segs zs (sN zs) g (sN zs))) := (hown3.keep (fun q e => Below.heap_setCell w3 _ _ q (hne q e))).mono hsz2
        have R3 : Hid (Row (w3.setCell ⟨w.heap.size, 0, none⟩ (.slice A3 (sN zs) c3)) (some ⟨g, 0, none⟩) (sM zs) (cellsOf .u16 (nums zs (sM zs)))) := by
          refine hrow3.keep (by simp [World.setCell]) (fun q e hq => Below.heap_setCell w3 _ _ q ?_)
          simp [blockOf] at e
          subst e
          intro e
          have e' : g = w.heap.size := e
          omega
        clear s1 s2 hk3 hbw3 h3 hrt hown3 hne hrow3
        go_wp2
        exact bodyPost_ret (v := .tuple #[smV A3 (sN zs) c3, .int .i64 0]) (results_two2 Tryd.results52 _ _ w.heap.size 35 _ (0, 0) _ rfl rfl S1.out Tryd.underlying35 rfl SI.out) rfl ⟨S2.out, .inr ⟨HF.out, A3, c3, g, rfl, O3.out, R3.out⟩⟩

/-- A map of segments in memory. -/
structure SMap (w : World) (A : Option Addr) (n : Nat) (zs : List Int) (g : Nat) : Prop where
  row : RowS encS 4 w A n (segs zs n g n)
  num : n = 0 ∨ Row w (some ⟨g, 0, none⟩) (sM zs) (cellsOf .u16 (nums zs (sM zs)))
  ok : n = 0 ∨ (sOkK zs n n = true ∧ 8 + 4 * n ≤ sM zs ∧ sM zs ≤ 32767 ∧ n2at zs 2 = 2 * (sM zs : Int))
  byt : Bytes zs
theorem SMap.below {w w' : World} {A : Option Addr} {n : Nat} {zs : List Int} {g : Nat} (h : SMap w A n zs g) (hb : Below w.heap.size w w') : SMap w' A n zs g := ⟨h.row.below hb, h.num.imp id (fun h => h.below hb), h.ok, h.byt⟩
theorem SMap.nil (w : World) (zs : List Int) (hB : Bytes zs) : SMap w none 0 zs 0 := ⟨RowS.empty _ _, .inl rfl, .inl rfl, hB⟩
theorem sRight_facts {zs : List Int} (hB : Bytes zs) (hR : sRight zs = true) : sOkK zs (sN zs) (sN zs) = true ∧ 8 + 4 * sN zs ≤ sM zs ∧ sM zs ≤ 32767 ∧ n2at zs 2 = 2 * (sM zs : Int) ∧ 1 ≤ sN zs := by
  unfold sRight at hR
  simp only [Bool.and_eq_true] at hR
  obtain ⟨⟨h1, h2⟩, h3, _⟩ := hR
  have k2 := n2at_lt hB 2
  have k6 := n2at_lt hB 6
  unfold sFront at h1
  unfold sCnt sCnt0 at h2
  simp at h1 h2
  refine ⟨h3, ?_⟩
  unfold sM sN
  omega
theorem SMap.of {w : World} {zs : List Int} {A : Option Addr} {B c g : Nat} (hB : Bytes zs) (hR : sRight zs = true) (h : OwnS 90 encS 4 w B A (sN zs) c (segs zs (sN zs) g (sN zs))) (hn : Row w (some ⟨g, 0, none⟩) (sM zs) (cellsOf .u16 (nums zs (sM zs)))) : SMap w A (sN zs) zs g := by
  obtain ⟨h1, h2, h3, h4, h5⟩ := sRight_facts hB hR
  exact ⟨h.row encS_len, .inr hn, .inr ⟨h1, h2, h3, h4⟩, hB⟩

def pS (zs : List Int) (code : Int) (i : Nat) : Bool := decide (code ≤ n2at zs (14 + 2 * i))

set_option maxRecDepth 100000 in
set_option maxHeartbeats 1000000 in
theorem spred_any (A : Option Addr) (n c : Nat) (zs : List Int) (g : Nat) (code : Int) (B1 B2 : Nat) (w : World) (hr : RowS encS 4 w A n (segs zs n g n)) (hB : Bytes zs) (hn : n ≤ 1000000) (k1 : w.cell? ⟨B1, 0, none⟩ = some (.slice A n c)) (k2 : w.cell? ⟨B2, 0, none⟩ = some (.int .i32 code)) (i : Nat) (hi : i < n) :
    Calls Tryd.prog 56 (#[.int .i64 i] ++ #[.pointer (some ⟨B1, 0, none⟩), .pointer (some ⟨B2, 0, none⟩)]) w (Ret w (.bool (pS zs code i))) := by
  obtain ⟨gg, off, rfl, hg, d0, d1, d2, d3⟩ := atS hr (segs_get zs n g hi)
  have hb : (sgAt zs n g i).b = n2at zs (14 + 2 * i) := rfl
  rw [hb] at d1
  have kb := n2at_lt hB (14 + 2 * i)
  have HP : Hid (pS zs code i = decide (code ≤ n2at zs (14 + 2 * i))) := rfl
  clear hr d0 d2 d3 hb hB
  generalize n2at zs (14 + 2 * i) = xb at *
  have F1 : IntKind.i32.wrap xb = xb := IntWalk.i32_in _ (by omega)
  show Calls Tryd.prog 56 #[.int .i64 i, .pointer (some ⟨B1, 0, none⟩), .pointer (some ⟨B2, 0, none⟩)] w _
  go_enter Tryd.func56, Tryd.ntmps56
  go_wp2
  go_quiet (fail)
  go_wp2
  go_ret
  rw [HP.out]
  exact ⟨rfl, below_drewN (Below.refl _ _) _⟩

set_option maxRecDepth 100000 in
set_option maxHeartbeats 4000000 in
theorem slook1_any (zs : List Int) (n g i : Nat) (code : Int) (w : World) (hm : Row w (some ⟨g, 0, none⟩) (sM zs) (cellsOf .u16 (nums zs (sM zs)))) (hok : sOkK zs n n = true) (hM : 8 + 4 * n ≤ sM zs) (hM3 : sM zs ≤ 32767) (hM2 : n2at zs 2 = 2 * (sM zs : Int)) (hB : Bytes zs) (hi : i < n) (h1 : (sqAt zs n i).a ≤ code) (h2 : code ≤ (sqAt zs n i).b) :
    Calls Tryd.prog 57 #[.agg #[.int .u16 (sqAt zs n i).a, .int .u16 (sqAt zs n i).b, .int .u16 (sqAt zs n i).d, .slice (sgA zs n g i) (sgn_ zs n i) (sgn_ zs n i)], .int .u16 code] w (Ret w (.int .u16 (valS zs n i code))) := by
  have k0 : 0 ≤ (sqAt zs n i).o ∧ (sqAt zs n i).o < 65536 := n2at_lt hB _
  have k1 : 0 ≤ (sqAt zs n i).a ∧ (sqAt zs n i).a < 65536 := n2at_lt hB _
  have k2 : 0 ≤ (sqAt zs n i).b ∧ (sqAt zs n i).b < 65536 := n2at_lt hB _
  have k3 : 0 ≤ (sqAt zs n i).d ∧ (sqAt zs n i).d < 65536 := n2at_lt hB _
  have hoff := sOk_at hok hi
  unfold sOkAt at hoff
  rw [Bool.and_eq_true] at hoff
  have hoff := hoff.2
  unfold sOff at hoff
  rw [hM2] at hoff
  have HV : Hid (valS zs n i code = if (sqAt zs n i).o = 0 then (code + (sqAt zs n i).d) % 65536 else if n2at zs (16 + 6 * n + 2 * i + (sqAt zs n i).o.toNat + 2 * (code - (sqAt zs n i).a).toNat) = 0 then 0 else (n2at zs (16 + 6 * n + 2 * i + (sqAt zs n i).o.toNat + 2 * (code - (sqAt zs n i).a).toNat) + (sqAt zs n i).d) % 65536) := by show _ = _; unfold valS; rw [if_pos h1]
  have HA : Hid (sgA zs n g i = if (sqAt zs n i).o = 0 then none else some ⟨g, 8 + 3 * n + i + ((sqAt zs n i).o / 2).toNat, none⟩) := rfl
  have HN : Hid (sgn_ zs n i = if (sqAt zs n i).o = 0 then 0 else ((sqAt zs n i).b - (sqAt zs n i).a + 1).toNat) := rfl
  generalize sqAt zs n i = x at *
  generalize sgA zs n g i = SA at *
  generalize sgn_ zs n i = SN at *
  generalize valS zs n i code = V at *
  obtain ⟨xa, xb, xd, xo⟩ := x
  simp only at *
  by_cases h0 : xo = 0
  · have e1 : SA = none := by rw [HA.out, if_pos h0]
    have e2 : SN = 0 := by rw [HN.out, if_pos h0]
    have HV2 : Hid (V = (code + xd) % 65536) := by show _ = _; rw [HV.out, if_pos h0]
    subst e1 e2
    have F : IntKind.u16.wrap (code + xd) = (code + xd) % 65536 := IntKind.wrap_u16 _
    have hA := (Below.refl w.heap.size w).alloc (Nat.le_refl _) (.cells #[.int .u16 xa, .int .u16 xb, .int .u16 xd, .slice none 0 0] 90)
    clear HA HN HV hoff h0 hm
    go_enter Tryd.func57, Tryd.ntmps57
    go_wp2
    go_ret
    rw [HV2.out]
    first
      | exact ⟨rfl, hA⟩
      | exact ⟨by rw [← F]; rfl, hA⟩
  · simp only [decide_eq_false h0, Bool.false_or, Bool.and_eq_true, decide_eq_true_eq] at hoff
    obtain ⟨p, hp⟩ : ∃ p : Nat, 8 + 3 * n + i = p := ⟨_, rfl⟩
    obtain ⟨q, hq⟩ : ∃ q : Nat, xo / 2 = (q : Int) := ⟨(xo / 2).toNat, by omega⟩
    obtain ⟨r, hr⟩ : ∃ r : Nat, xb - xa + 1 = (r : Int) := ⟨(xb - xa + 1).toNat, by omega⟩
    obtain ⟨t, ht⟩ : ∃ t : Nat, code - xa = (t : Int) := ⟨(code - xa).toNat, by omega⟩
    have e1 : SA = some ⟨g, p + q, none⟩ := by rw [HA.out, if_neg h0, hp, hq]; rfl
    have e2 : SN = r := by rw [HN.out, if_neg h0, hr]; rfl
    have hc := num_cell hm (i := p + q + t) (by omega)
    have ei : 16 + 6 * n + 2 * i + xo.toNat + 2 * (code - xa).toNat = 2 * (p + q + t) := by omega
    have HV2 : Hid (V = if n2at zs (2 * (p + q + t)) = 0 then 0 else (n2at zs (2 * (p + q + t)) + xd) % 65536) := by show _ = _; rw [HV.out, if_neg h0, ei]
    have kv := n2at_lt hB (2 * (p + q + t))
    have hgl : g < w.heap.size := World.block_lt_of_cell? _ _ hc
    have hgn : g ≠ w.heap.size := by omega
    have htr : t < r := by omega
    have hr0 : ((r : Int) == 0) = false := by simp; omega
    subst e1 e2
    have hA := (Below.refl w.heap.size w).alloc (Nat.le_refl _) (.cells #[.int .u16 xa, .int .u16 xb, .int .u16 xd, .slice (some ⟨g, p + q, none⟩) SN SN] 90)
    clear HA HN HV hoff h0 hm hp hq hr ei hok hM hM3 hM2 hB
    generalize n2at zs (2 * (p + q + t)) = v at *
    by_cases hv : v = 0
    · have bv : (v == 0) = true := by simp [hv]
      have HV3 : Hid (V = 0) := by show _ = _; rw [HV2.out, if_pos hv]
      clear HV2 hv
      go_enter Tryd.func57, Tryd.ntmps57
      go_wp2
      go_ret
      rw [HV3.out]
      exact ⟨rfl, hA⟩
    · have bv : (v == 0) = false := by simp [hv]
      have HV3 : Hid (V = (v + xd) % 65536) := by show _ = _; rw [HV2.out, if_neg hv]
      have F : IntKind.u16.wrap (v + xd) = (v + xd) % 65536 := IntKind.wrap_u16 _
      clear HV2 hv
      go_enter Tryd.func57, Tryd.ntmps57
      go_wp2
      go_ret
      rw [HV3.out]
      first
        | exact ⟨rfl, hA⟩
        | exact ⟨by rw [← F]; rfl, hA⟩

set_option maxRecDepth 100000 in
set_option maxHeartbeats 4000000 in
theorem slook_any (A : Option Addr) (n c : Nat) (zs : List Int) (g : Nat) (code : Int) (w : World) (hm : SMap w A n zs g) (hn : n ≤ 1000000) (c0 : -2147483648 ≤ code) (c1 : code ≤ 2147483647) :
    Calls Tryd.prog 34 #[smV A n c, .int .i32 code] w (Ret w (.int .u16 (lookS zs n code 0 n))) := by
  have hA : Below w.heap.size w ((w.alloc (.cells #[.slice A n c] 35)).alloc (.cells #[.int .i32 code] 21)) := ((Below.refl w.heap.size w).alloc (Nat.le_refl _) _).alloc (by simp) _
  have hB1 : ((w.alloc (.cells #[.slice A n c] 35)).alloc (.cells #[.int .i32 code] 21)).heap[w.heap.size]? = some (.cells #[.slice A n c] 35 (0, 0)) := kept_alloc (heap_alloc_new w _) _
  have hB2 : ((w.alloc (.cells #[.slice A n c] 35)).alloc (.cells #[.int .i32 code] 21)).heap[w.heap.size + 1]? = some (.cells #[.int .i32 code] 21 (0, 0)) := by
    have := heap_alloc_new (w.alloc (.cells #[.slice A n c] 35)) (.cells #[.int .i32 code] 21)
    rwa [show (w.alloc (.cells #[.slice A n c] 35)).heap.size = w.heap.size + 1 by simp] at this
  have eg : ∀ args w, (callFunc 56 args).run Tryd.prog w = .ok (.enter 56 args) w := enters_of Tryd.func56 (by kernel_rfl) rfl
  have hS := search_any 56 #[.pointer (some ⟨w.heap.size, 0, none⟩), .pointer (some ⟨w.heap.size + 1, 0, none⟩)] n (pS zs code) ((w.alloc (.cells #[.slice A n c] 35)).alloc (.cells #[.int .i32 code] 21)) eg hn (fun W i hi hb =>
    spred_any A n c zs g code _ _ W ((hm.row.below hA).below hb) hm.byt hn (cell_of_row W _ 0 _ _ _ (kept_block hB1 hb)) (cell_of_row W _ 0 _ _ _ (kept_block hB2 hb)) i hi)
  have HS := Lib.hid hS
  clear hS eg
  unfold smV
  go_enter Tryd.func34, Tryd.ntmps34
  go_wp2_with fail
  refine HS.out.mono ?_
  rintro e w1 ⟨r, hrn, rfl, hlo, hhi, hb1⟩
  have k1 : w1.cell? ⟨w.heap.size, 0, none⟩ = some (.slice A n c) := cell_of_row w1 _ 0 _ _ _ (kept_block hB1 hb1)
  have k2 : w1.cell? ⟨w.heap.size + 1, 0, none⟩ = some (.int .i32 code) := cell_of_row w1 _ 0 _ _ _ (kept_block hB2 hb1)
  have hbw := hA.trans (hb1.mono hA.size)
  have hmw := hm.below hbw
  have hlow : ∀ j, j < r → n2at zs (14 + 2 * j) < code := fun j hj => by
    have h := hlo (by omega)
    unfold pS at h
    rw [decide_eq_false_iff_not] at h
    rcases hm.ok with h0 | ⟨hok, _⟩
    · omega
    · exact sEnds_le hok (r := r - 1) (by omega) (by omega) j (by omega)
  clear HS hA hB1 hB2 hb1 hlo hm
  by_cases hlt : r < n
  · have hne : ((r : Int) == (n : Int)) = false := by simp; omega
    have hcb : code ≤ n2at zs (14 + 2 * r) := by have := hhi hlt; unfold pS at this; exact of_decide_eq_true this
    have HL : Hid (lookS zs n code 0 n = valS zs n r code) := lookS_at hlt hlow hcb
    obtain ⟨gg, off, rfl, hg, d0, d1, d2, d3⟩ := atS hmw.row (segs_get zs n g hlt)
    rcases hmw.ok with h0 | ⟨hok, hM, hM3, hM2⟩
    · omega
    rcases hmw.num with h0 | hnum
    · omega
    have ka : 0 ≤ (sqAt zs n r).a ∧ (sqAt zs n r).a < 65536 := n2at_lt hmw.byt _
    have kb : 0 ≤ (sqAt zs n r).b ∧ (sqAt zs n r).b < 65536 := n2at_lt hmw.byt _
    have hcb' : code ≤ (sqAt zs n r).b := hcb
    have HC : Hid ((sqAt zs n r).a ≤ code → ∀ W, Below w1.heap.size w1 W → Calls Tryd.prog 57 #[.agg #[.int .u16 (sqAt zs n r).a, .int .u16 (sqAt zs n r).b, .int .u16 (sqAt zs n r).d, .slice (sgA zs n g r) (sgn_ zs n r) (sgn_ zs n r)], .int .u16 code] W (Ret W (.int .u16 (valS zs n r code)))) := fun h W hW => slook1_any zs n g r code W (hnum.below hW) hok hM hM3 hM2 hmw.byt hlt h hcb'
    have HL0 : Hid (¬ (sqAt zs n r).a ≤ code → valS zs n r code = 0) := fun h => by unfold valS; rw [if_neg h]
    unfold sgAt at d0 d1 d2 d3
    clear hlow hhi hmw hnum hok hM2 hcb
    generalize sqAt zs n r = x at *
    generalize sgA zs n g r = SA at *
    generalize sgn_ zs n r = SN at *
    generalize valS zs n r code = vv at *
    obtain ⟨xa, xb, xd, xo⟩ := x
    simp only at *
    have F1 : IntKind.i32.wrap xa = xa := IntWalk.i32_in _ (by omega)
    by_cases hac : xa ≤ code
    · have HC2 := Lib.hid (HC.out hac)
      have F2 : IntKind.u16.wrap code = code := IntWalk.u16_in _ (by omega)
      clear HC HL0
      go_wp2
      go_quiet (fail)
      go_wp2_with fail
      have hbn := below_drewN (Below.refl w1.heap.size w1) nq
      have hbw2 := hbw.trans (hbn.mono hbw.size)
      replace k1 : (w1.drewN nq).cell? ⟨w.heap.size, 0, none⟩ = some (.slice (some ⟨gg, off, none⟩) n c) := k1
      replace k2 : (w1.drewN nq).cell? ⟨w.heap.size + 1, 0, none⟩ = some (.int .i32 code) := k2
      replace d0 : (w1.drewN nq).cell? ⟨gg, off + r * 4, none⟩ = some (.int .u16 xa) := d0
      replace d1 : (w1.drewN nq).cell? ⟨gg, off + r * 4 + 1, none⟩ = some (.int .u16 xb) := d1
      replace d2 : (w1.drewN nq).cell? ⟨gg, off + r * 4 + 2, none⟩ = some (.int .u16 xd) := d2
      replace d3 : (w1.drewN nq).cell? ⟨gg, off + r * 4 + 3, none⟩ = some (.slice SA SN SN) := d3
      have HC3 : Hid (∀ p os, Calls Tryd.prog 57 #[.agg #[.int .u16 xa, .int .u16 xb, .int .u16 xd, .slice SA SN SN], .int .u16 code] (gw (w1.drewN nq) p os) (Ret (gw (w1.drewN nq) p os) (.int .u16 vv))) := fun p os => HC2.out _ (hbn.trans ((gw_below _ p os).mono hbn.size))
      clear HC2 hbn
      generalize w1.drewN nq = V at *
      have K1 := gw_cell k1
      have K2 := gw_cell k2
      have D0 := gw_cell d0
      have D1 := gw_cell d1
      have D2 := gw_cell d2
      have D3 := gw_cell d3
      refine region_below (by kernel_rfl) (by kernel_rfl) ?_
      repeat (first | go_big_quiet_step (first | (go_at_call 57; exact calls_gw (HC3.out _ _))) | quiet_step (first | (go_at_call 57; exact calls_gw (HC3.out _ _))))
      refine wpQuiet_nil ?_
      rintro _ ⟨z, rfl⟩
      go_wp2
      go_ret
      rw [HL.out]
      exact ⟨rfl, hbw2.trans ((gw_below V z.n z.os).mono hbw2.size)⟩
    · have HL2 : Hid (vv = 0) := HL0.out hac
      clear HC HL0
      go_wp2
      go_quiet (fail)
      go_wp2
      go_ret
      rw [HL.out, HL2.out]
      exact ⟨rfl, below_drewN hbw _⟩
  · obtain rfl : r = n := by omega
    have hne : ((r : Int) == (r : Int)) = true := by simp
    have HL2 : Hid (lookS zs r code 0 r = 0) := lookS_none hlow
    clear hlow hhi hmw
    go_wp2
    go_quiet (fail)
    go_wp2
    go_ret
    rw [HL2.out]
    exact ⟨rfl, below_drewN hbw _⟩

end Go.Proofs.YthkaeimpflggjaaDoor

/- seg.runs, as a contract over this seat's translation. -/
namespace Go.Proofs.YthkaeimpflggjaaDoor
open Go.RowKit
set_option linter.unusedVariables false

/-- A run as a segment. -/
def sgR (x : Rn) : Sg := ⟨x.a, x.b, (x.g - x.a) % 65536, none, 0⟩

theorem flat_endS (s : List Rn) (x : Rn) (c : Int) : flat encS ((s ++ [(⟨x.a, c, x.g⟩ : Rn)]).map sgR) = (flat encS (s.map sgR ++ [sgR x])).set (s.length * 4 + 1) (.int .u16 c) := by
  rw [List.map_append, ← flat_append, ← flat_append, List.set_append_right _ _ (by rw [flat_length encS_len, List.length_map]; omega), flat_length encS_len, List.length_map, Nat.add_sub_cancel_left]
  rfl

/-- What is asked of pairs. -/
def OkP5 (l : List Pr) : Prop := ∀ p ∈ l, 0 ≤ p.code ∧ p.code ≤ 65534 ∧ 0 ≤ p.glyph ∧ p.glyph ≤ 65535

theorem atP5 {w : World} {A : Option Addr} {n : Nat} {l : List Pr} {j : Nat} {p : Pr} (h : RowS encP 2 w A n l) (hj : l[j]? = some p) :
    ∃ g off, A = some ⟨g, off, none⟩ ∧ g < w.heap.size ∧ w.cell? ⟨g, off + j * 2, none⟩ = some (.int .i32 p.code) ∧ w.cell? ⟨g, off + j * 2 + 1, none⟩ = some (.int .u16 p.glyph) := by
  obtain ⟨g, off, e, hg, hc⟩ := h.at encP_len (by omega) hj
  exact ⟨g, off, e, hg, hc 0 _ rfl, hc 1 _ rfl⟩

set_option maxRecDepth 100000 in
set_option maxHeartbeats 4000000 in
theorem sruns_any (A : Option Addr) (n c : Nat) (l : List Pr) (w : World) (hr : RowS encP 2 w A n l) (hn : n ≤ 1000000) (hok : OkP5 l) :
    Calls Tryd.prog 42 #[.slice A n c] w (RetS 90 encS 4 w ((runsF folS l).map sgR)) := by
  obtain ⟨i0, hi, hz0, hz1, hz2⟩ := info_parts Tryd.sginfo
  have Hn := Lib.hid hr.len
  have Hok := Lib.hid hok
  clear hok
  go_enter Tryd.func42, Tryd.ntmps42
  go_wp2
  go_loopw [3, 9] (fun s i wr => ∃ (k m : Nat) (Ar : Option Addr) (cr : Nat), k ≤ n ∧ i = .int .i64 k ∧ s = .slice Ar m cr ∧ OwnS 90 encS 4 wr w.heap.size Ar m cr ((runsF folS (l.take k)).map sgR) ∧ Below w.heap.size w wr) (fun _ i _ => n - (intOf i).toNat)
  case atStart => exact ⟨0, 0, none, 0, Nat.zero_le _, rfl, rfl, OwnS.nil _ _ _ _ _, Below.refl _ _⟩
  case round =>
    obtain ⟨k, m, Ar, cr, hk, rfl, rfl, hown, hb⟩ := hrel
    by_cases hlt : k < n
    · obtain ⟨p, hp⟩ := getP (l := l) (j := k) (by have := Hn.out; omega)
      obtain ⟨g, off, rfl, hg, q0, q1⟩ := atP5 (hr.below hb) hp
      have hpo := Hok.out p (List.mem_of_getElem? hp)
      have hm : m ≤ k := by have := hown.len; rw [List.length_map] at this; have h2 := runsF_len folS (l.take k); rw [List.length_take] at h2; omega
      have hA := (Below.refl wr.heap.size wr).alloc (Nat.le_refl _) (.cells #[.int .i32 p.code, .int .u16 p.glyph] 45)
      have hown1 := hown.below hA
      have hb1 := hb.trans (hA.mono hb.size)
      have x0 : (wr.alloc (.cells #[.int .i32 p.code, .int .u16 p.glyph] 45)).cell? ⟨wr.heap.size, 0, none⟩ = some (.int .i32 p.code) := cell_of_row _ _ 0 _ _ _ (heap_alloc_new wr _)
      have x1 : (wr.alloc (.cells #[.int .i32 p.code, .int .u16 p.glyph] 45)).cell? ⟨wr.heap.size, 1, none⟩ = some (.int .u16 p.glyph) := cell_of_row _ _ 1 _ _ _ (heap_alloc_new wr _)
      have hr1 := hr.below hb1
      by_cases h0 : 0 < k
      · obtain ⟨j, rfl⟩ : ∃ j, k = j + 1 := ⟨k - 1, by omega⟩
        obtain ⟨q, hq⟩ := getP (l := l) (j := j) (by have := Hn.out; omega)
        have hqo := Hok.out q (List.mem_of_getElem? hq)
        obtain ⟨g', off', e', _, r0, r1⟩ := atP5 hr1 hq
        simp only [Option.some.injEq, Addr.mk.injEq, and_true] at e'
        obtain ⟨rfl, rfl⟩ := e'
        obtain ⟨st1, st2⟩ := runs_step folS hq hp
        have HF := Lib.hid (fun W => sfol_any q p W (by omega) (by omega) hqo.2.2.1 hqo.2.2.2 hpo.2.2.1 hpo.2.2.2)
        have ST1 := Lib.hid st1
        have ST2 := Lib.hid st2
        clear st1 st2 hq hp hr1 hown hA
        obtain ⟨pc, pg⟩ := p
        obtain ⟨qc, qg⟩ := q
        simp only [pV] at *
        have F1 : IntKind.u16.wrap pc = pc := IntWalk.u16_in _ (by omega)
        have F2 : IntKind.u16.wrap (pg - pc) = (pg - pc) % 65536 := IntKind.wrap_u16 _
        generalize hfv : folS ⟨qc, qg⟩ ⟨pc, pg⟩ = fv at *
        clear hfv
        have ej : ((j : Int) + 1 - 1) = (j : Int) := by omega
        have ej2 : (((j + 1 : Nat) : Int) - 1) = (j : Int) := by omega
        go_wp2_with fail
        generalize wr.alloc (.cells #[.int .i32 pc, .int .u16 pg] 45) = V at *
        generalize wr.heap.size = bx at *
        have L0 := gw_cell r0
        have L1 := gw_cell r1
        have B0 := gw_cell x0
        have B1 := gw_cell x1
        refine region_below (by kernel_rfl) (by kernel_rfl) ?_
        repeat (first | go_big_quiet_step (first | (go_at_call 60; exact calls_gw (HF.out _))) | quiet_step (first | (go_at_call 60; exact calls_gw (HF.out _))))
        refine wpQuiet_nil ?_
        rintro _ ⟨z, rfl⟩
        have b0 := B0 z.n z.os
        have b1 := B1 z.n z.os
        have hb2 := hb1.trans ((gw_below V z.n z.os).mono hb1.size)
        have hown2 := hown1.below (gw_below V z.n z.os)
        clear L0 L1 B0 B1 HF hown1 hb1 r0 r1 q0 q1 x0 x1
        generalize gw V z.n z.os = U at *
        have hsU := hb2.size
        cases fv with
        | false =>
          have E3 := Lib.hid (ST1.out rfl)
          clear ST1 ST2
          go_wp2_with (at_builtin; refine wpList_append_rowS rfl (.tmp 35) (.tmp 43) _ rfl 90 encS 4 encS_len (by omega) encS_one w.heap.size i0 _ 32 Tryd.underlying33 hi hz0 hz1 rfl hz2 _ m cr _ rfl (hown2.alloc _) (some ⟨U.heap.size, 0, none⟩) 1 1 [sgR ⟨pc, pc, pg⟩] rfl (rowS_vals encS_len U 90 [sgR ⟨pc, pc, pg⟩] _ rfl 1 rfl) (by omega) (by omega) (by simp; omega) ?_; intro A6 c6 w6 ho6 hg6)
          go_roundw
          case rel => exact ⟨j + 1 + 1, m + 1, A6, c6, by omega, by go_num, rfl, by rw [E3.out, List.map_append]; exact ho6, (hb2.alloc hb2.size _).grown hg6 (hb2.alloc hb2.size _).size (fun q e => (hown2.from_ q e).1)⟩
          case measure => simp [intOf]; omega
        | true =>
          obtain ⟨s, x, e4, e5⟩ := ST2.out rfl
          rw [e4, List.map_append, List.map_cons, List.map_nil] at hown2
          have hlm : s.length + 1 = m := by have := hown2.len; simpa using this
          subst hlm
          obtain ⟨gr, _, e6, _, d0, d1, d2, d3⟩ := atS (hown2.row encS_len) (j := s.length) (x := sgR x) (by simp)
          rcases hown2.shape with ⟨e7, _⟩ | ⟨g2, _, e7, hg2, _⟩
          · rw [e7] at e6; cases e6
          · rw [e7] at e6
            simp only [Option.some.injEq, Addr.mk.injEq, and_true] at e6
            obtain ⟨rfl, rfl⟩ := e6
            subst e7
            rw [Nat.zero_add] at d0 d1 d2 d3
            have f0 := hown2.thaw
            have E5 := Lib.hid e5
            have O6 : Hid (OwnS 90 encS 4 (U.setCell ⟨g2, s.length * 4 + 1, none⟩ (.int .u16 pc)) w.heap.size (some ⟨g2, 0, none⟩) (s.length + 1) cr ((s ++ [(⟨x.a, pc, x.g⟩ : Rn)]).map sgR)) := ownS_setCell hown2 (by simp) (flat_endS s x pc)
            have B6 := Lib.hid (below_set hg2 (s.length * 4 + 1) (.int .u16 pc) hb2)
            have es : (((s.length + 1 : Nat) : Int) - 1) = (s.length : Int) := by omega
            have es2 : ((s.length : Int) + 1 - 1) = (s.length : Int) := by omega
            clear ST1 ST2 e4 e5 hown2 hb2
            generalize s.length = m at *
            go_wp2
            go_roundw
            case rel => exact ⟨j + 1 + 1, m + 1, some ⟨g2, 0, none⟩, cr, by omega, by go_num, rfl, by rw [E5.out]; exact O6.out, B6.out⟩
            case measure => simp [intOf]; omega
      · obtain rfl : k = 0 := by omega
        have E3 := Lib.hid (runs_first folS hp)
        have hd0 : ¬ (0 : Int) < 0 := by omega
        have hdf : decide ((0 : Int) < 0) = false := by decide
        have er : (runsF folS (l.take 0)).map sgR = [] := by rw [List.take_zero]; rfl
        rw [er] at hown1
        clear hown hA hr1 hp er
        obtain ⟨pc, pg⟩ := p
        simp only at *
        have F1 : IntKind.u16.wrap pc = pc := IntWalk.u16_in _ (by omega)
        have F2 : IntKind.u16.wrap (pg - pc) = (pg - pc) % 65536 := IntKind.wrap_u16 _
        rw [Nat.zero_mul, Nat.add_zero] at q0 q1
        go_wp2_with fail
        generalize wr.alloc (.cells #[.int .i32 pc, .int .u16 pg] 45) = V at *
        generalize wr.heap.size = bx at *
        go_quiet (fail)
        have hb2 := below_drewN hb1 nq
        have hown2 := hown1.drewN nq
        have b0 : (V.drewN nq).cell? ⟨bx, 0, none⟩ = some (.int .i32 pc) := x0
        have b1 : (V.drewN nq).cell? ⟨bx, 1, none⟩ = some (.int .u16 pg) := x1
        clear x0 x1 hown1 hb1 q0 q1
        generalize V.drewN nq = U at *
        have hsU := hb2.size
        go_wp2_with (at_builtin; refine wpList_append_rowS rfl (.tmp 35) (.tmp 43) _ rfl 90 encS 4 encS_len (by omega) encS_one w.heap.size i0 _ 32 Tryd.underlying33 hi hz0 hz1 rfl hz2 _ m cr _ rfl (hown2.alloc _) (some ⟨U.heap.size, 0, none⟩) 1 1 [sgR ⟨pc, pc, pg⟩] rfl (rowS_vals encS_len U 90 [sgR ⟨pc, pc, pg⟩] _ rfl 1 rfl) (by omega) (by omega) (by simp; omega) ?_; intro A6 c6 w6 ho6 hg6)
        go_roundw
        case rel => exact ⟨0 + 1, m + 1, A6, c6, by omega, by go_num, rfl, by rw [E3.out]; exact ho6, (hb2.alloc hb2.size _).grown hg6 (hb2.alloc hb2.size _).size (fun q e => (hown2.from_ q e).1)⟩
        case measure => simp [intOf]; omega
    · obtain rfl : k = n := by omega
      have E3 : Hid (runsF folS (l.take k) = runsF folS l) := by show _ = _; rw [List.take_of_length_le (by have := Hn.out; omega)]
      go_wp2
      go_ret
      exact ⟨Ar, m, cr, rfl, by rw [← E3.out]; exact hown, hb⟩

end Go.Proofs.YthkaeimpflggjaaDoor

/- seg.write and Build, as contracts over this seat's translation. -/
namespace Go.Proofs.YthkaeimpflggjaaDoor
open Go.RowKit
set_option linter.unusedVariables false

def sgV (x : Sg) : Value := .agg #[.int .u16 x.a, .int .u16 x.b, .int .u16 x.d, .slice x.A x.n x.n]

theorem send_any (x : Sg) (w : World) : Calls Tryd.prog 63 #[sgV x] w (Ret w (.int .u16 x.b)) := by
  have hA := (Below.refl w.heap.size w).alloc (Nat.le_refl _) (.cells #[.int .u16 x.a, .int .u16 x.b, .int .u16 x.d, .slice x.A x.n x.n] 90)
  unfold sgV
  go_enter Tryd.func63, Tryd.ntmps63
  go_wp2
  go_ret
  exact ⟨rfl, hA⟩
theorem sstart_any (x : Sg) (w : World) : Calls Tryd.prog 64 #[sgV x] w (Ret w (.int .u16 x.a)) := by
  have hA := (Below.refl w.heap.size w).alloc (Nat.le_refl _) (.cells #[.int .u16 x.a, .int .u16 x.b, .int .u16 x.d, .slice x.A x.n x.n] 90)
  unfold sgV
  go_enter Tryd.func64, Tryd.ntmps64
  go_wp2
  go_ret
  exact ⟨rfl, hA⟩
theorem sdelta_any (x : Sg) (w : World) : Calls Tryd.prog 65 #[sgV x] w (Ret w (.int .u16 x.d)) := by
  have hA := (Below.refl w.heap.size w).alloc (Nat.le_refl _) (.cells #[.int .u16 x.a, .int .u16 x.b, .int .u16 x.d, .slice x.A x.n x.n] 90)
  unfold sgV
  go_enter Tryd.func65, Tryd.ntmps65
  go_wp2
  go_ret
  exact ⟨rfl, hA⟩
theorem szero_any (x : Sg) (w : World) : Calls Tryd.prog 66 #[sgV x] w (Ret w (.int .u16 0)) := by
  have hA := (Below.refl w.heap.size w).alloc (Nat.le_refl _) (.cells #[.int .u16 x.a, .int .u16 x.b, .int .u16 x.d, .slice x.A x.n x.n] 90)
  unfold sgV
  go_enter Tryd.func66, Tryd.ntmps66
  go_wp2
  go_ret
  exact ⟨rfl, hA⟩

/-- A Writer that is younger than w0. -/
structure WS (w0 wr : World) (bw : Nat) (zs : List Int) : Prop where
  wr_ : Wr wr w0.heap.size bw zs
  bel : Below w0.heap.size w0 wr
theorem WS.below {w0 wr w' : World} {bw : Nat} {zs : List Int} (h : WS w0 wr bw zs) (hb : Below wr.heap.size wr w') : WS w0 w' bw zs := ⟨h.wr_.below hb, h.bel.trans (hb.mono h.bel.size)⟩
theorem WS.turned {w0 wr w' : World} {bw : Nat} {zs ys : List Int} (h : WS w0 wr bw zs) (h1 : Wr w' w0.heap.size bw ys) (ht : Turned wr w' (WrS wr bw)) : WS w0 w' bw ys := ⟨h1, h.wr_.older h.bel (Nat.le_refl _) ht⟩

def colB (val : Sg → Int) (l : List Sg) : List Int := l.flatMap fun x => b2 (val x)
theorem colB_len (val : Sg → Int) : ∀ l : List Sg, (colB val l).length = 2 * l.length
  | [] => rfl
  | x :: r => by unfold colB; rw [List.flatMap_cons, List.length_append]; have := colB_len val r; unfold colB at this; rw [this]; simp [b2]; omega
theorem colB_snoc (val : Sg → Int) {l : List Sg} {k : Nat} {x : Sg} (h : l[k]? = some x) : colB val (l.take (k + 1)) = colB val (l.take k) ++ b2 (val x) := by
  unfold colB
  rw [List.take_add_one, h]
  simp

set_option maxRecDepth 100000 in
set_option maxHeartbeats 4000000 in
theorem scol_any (f : Nat) (val : Sg → Int) (eg : ∀ args w, (callFunc f args).run Tryd.prog w = .ok (.enter f args) w) (hf : ∀ x W, Calls Tryd.prog f #[sgV x] W (Ret W (.int .u16 (val x)))) (bs bw : Nat) (A : Option Addr) (n c : Nat) (l : List Sg) (zs : List Int) (w0 w : World) (hs : WS w0 w bw zs) (hr : RowS encS 4 w0 A n l) (hk : w0.cell? ⟨bs, 0, none⟩ = some (.slice A n c)) (hn : n ≤ 10000) (hv : ∀ x ∈ l, 0 ≤ val x ∧ val x < 65536) (hz : zs.length ≤ 1000000) :
    Calls Tryd.prog 62 #[.func (.func f) #[] #[], .pointer (some ⟨bs, 0, none⟩), .pointer (some ⟨bw, 0, none⟩)] w (fun e w' => e = .returned (.tuple #[]) ∧ WS w0 w' bw (zs ++ colB val l)) := by
  have Hn := Lib.hid hr.len
  have HF := Lib.hid hf
  have HV := Lib.hid hv
  have hbs := World.block_lt_of_cell? _ _ hk
  have kc : w.cell? ⟨bs, 0, none⟩ = some (.slice A n c) := (hs.bel.cell (p := ⟨bs, 0, none⟩) hbs).trans hk
  clear hf hv
  go_enter Tryd.func62, Tryd.ntmps62
  go_wp2
  go_loopw [8] (fun i wr => ∃ k : Nat, k ≤ n ∧ i = .int .i64 k ∧ WS w0 wr bw (zs ++ colB val (l.take k))) (fun i _ => n - (intOf i).toNat)
  case atStart => exact ⟨0, Nat.zero_le _, rfl, by simpa [colB] using hs⟩
  case round =>
    clear hs kc
    obtain ⟨k, hkn, rfl, hs⟩ := hrel
    have hzl : (zs ++ colB val (l.take k)).length ≤ 1000000 + 2 * n := by rw [List.length_append, colB_len, List.length_take]; omega
    by_cases hlt : k < n
    · obtain ⟨x, hx⟩ := getP (l := l) (j := k) (by have := Hn.out; omega)
      obtain ⟨g, off, rfl, hg, q0, q1, q2, q3⟩ := atS (hr.below hs.bel) hx
      have hvx := HV.out x (List.mem_of_getElem? hx)
      have HX := Lib.hid (colB_snoc val hx)
      have HC := Lib.hid (HF.out x)
      clear hx
      unfold sgV at HC
      generalize val x = vx at *
      obtain ⟨xa, xb, xd, xA, xn⟩ := x
      simp only at *
      have hal : Below wr.heap.size wr (wr.alloc (.cells #[.int .u16 xa, .int .u16 xb, .int .u16 xd, .slice xA xn xn] 90)) := (Below.refl _ _).alloc (Nat.le_refl _) _
      have hs1 := hs.below hal
      clear hs hal
      go_wp2_with fail
      refine (HC.out _).mono ?_
      rintro e w1 ⟨rfl, hb1⟩
      have hs2 := hs1.below hb1
      clear hs1 hb1 HC
      go_wp2_with fail
      with_reducible refine (wu16_any _ _ _ vx _ hs2.wr_ (by omega) (by omega) (by omega)).mono ?_
      rintro e w2 ⟨rfl, hw2, ht2⟩
      have hs3 := hs2.turned hw2 ht2
      rw [List.append_assoc, ← HX.out] at hs3
      clear hs2 hw2 ht2
      go_wp2
      go_roundw
      case rel => exact ⟨k + 1, by omega, by go_num, hs3⟩
      case measure => simp [intOf]; omega
    · have HE : Hid (l.take k = l) := List.take_of_length_le (by have := Hn.out; omega)
      rw [HE.out] at hs
      go_wp2
      go_end0
      exact ⟨rfl, hs⟩

end Go.Proofs.YthkaeimpflggjaaDoor

/- Slices of bytes that were gathered one by one, to be joined. -/
namespace Go.Proofs.YthkaeimpflggjaaDoor
open Go.RowKit
set_option linter.unusedVariables false

/-- All of them read as they were told. -/
def Got (w : World) (l : List BsV) : Prop := ∀ p ∈ l, p.ok w

section
variable {w w' : World} {l : List BsV}
theorem Got.nil (w : World) : Got w [] := fun p hp => by cases hp
theorem Got.below (h : Got w l) (hb : Below w.heap.size w w') : Got w' l := fun p hp => Row.below (h p hp) hb
theorem Got.drew (h : Got w l) : Got w.drew l := h
theorem Got.add {B : Nat} {A : Option Addr} {n c : Nat} {ys : List Int} (h : Got w l) (hb : Below w.heap.size w w') (ho : OwnB w' B A n c ys) : Got w' (l ++ [⟨A, n, c, ys⟩]) := fun p hp => by
  rcases List.mem_append.1 hp with hp | hp
  · exact Row.below (h p hp) hb
  · simp only [List.mem_cons, List.not_mem_nil, or_false] at hp
    subst hp
    exact ho.row
theorem Got.put {A : Option Addr} {n c : Nat} {ys : List Int} (h : Got w l) (hr : Row w A n (cellsOf .u8 ys)) : Got w (l ++ [⟨A, n, c, ys⟩]) := fun p hp => by
  rcases List.mem_append.1 hp with hp | hp
  · exact h p hp
  · simp only [List.mem_cons, List.not_mem_nil, or_false] at hp
    subst hp
    exact hr
end

end Go.Proofs.YthkaeimpflggjaaDoor

/- The document's Search and Look of segments, as contracts over this seat's translation. -/
namespace Go.Proofs.YthkaeimpflggjaaDoor
open Go.RowKit
set_option linter.unusedVariables false

set_option maxRecDepth 100000 in
theorem rat9_any (A : Option Addr) (n c : Nat) (zs : List Int) (a : Int) (i : Nat) (w : World) (hr : Row w A n (cellsOf .u8 zs)) (hB : Bytes zs) (hn : n ≤ 140737488351232) (ha : a = i) (hi : i ≤ 140737488351232) :
    Calls Tryd.prog 59 #[.slice A n c, .int .i64 a] w (Ret w (.int .i64 (n2at zs i))) := by
  subst ha
  have H := Lib.hid (n2_any A n c zs i w hr hB hn hi)
  rw [n2v_at] at H
  clear hr hB
  generalize n2at zs i = v at *
  go_enter Tryd.func59, Tryd.ntmps59
  go_wp2_with fail
  refine H.out.mono ?_
  rintro e w1 ⟨rfl, q, rfl⟩
  go_wp2
  go_ret
  exact ⟨rfl, below_drewN (Below.refl _ _) _⟩

/-- The three numbers, written out. -/
def srB (n : Nat) : List Int := b2 (2 * ((2 ^ expoS n : Nat) : Int)) ++ (b2 (expoS n : Int) ++ b2 (2 * (n : Int) - 2 * ((2 ^ expoS n : Nat) : Int)))
theorem srB_len (n : Nat) : (srB n).length = 6 := rfl

set_option maxRecDepth 100000 in
set_option maxHeartbeats 2000000 in
theorem rsearch9_any (n : Nat) (w : World) (h0 : 1 ≤ n) (h1 : n < 32768) : Calls Tryd.prog 53 #[.int .i64 n] w (RetB w (srB n)) := by
  go_enter Tryd.func53, Tryd.ntmps53
  go_wp2
  go_loopw [3, 4] (fun t x wr => ∃ e q : Nat, Hid (q = 2 ^ e) ∧ e < 16 ∧ q ≤ n ∧ x = .int .i64 e ∧ t = .int .i64 q ∧ Below w.heap.size w wr) (fun t _ _ => 32768 - (intOf t).toNat)
  case atStart => exact ⟨0, 1, Lib.hid rfl, by omega, h0, rfl, rfl, Below.refl _ _⟩
  case round =>
    obtain ⟨e, q, HQ, he, hqn, rfl, rfl, hb⟩ := hrel
    have hp : 1 ≤ q := by have := HQ.out; rw [this]; exact Nat.one_le_two_pow
    by_cases hlt : 2 * q ≤ n
    · go_wp2
      go_roundw
      case rel => exact ⟨e + 1, q * 2, Lib.hid (by rw [HQ.out, Nat.pow_succ]), by
        rcases Nat.lt_or_ge e 15 with h | h
        · omega
        · have : 2 ^ 15 ≤ 2 ^ e := Nat.pow_le_pow_right (by omega) h
          have := HQ.out
          omega, by omega, by go_num, by go_num, hb⟩
      case measure => simp [intOf]; omega
    · have hu := expoS_uniq n e h0 (by rw [← HQ.out]; exact hqn) (by rw [Nat.pow_succ, ← HQ.out]; omega)
      have HS : Hid (srB n = b2 (2 * (q : Int)) ++ (b2 (e : Int) ++ b2 (2 * (n : Int) - 2 * (q : Int)))) := by show _ = _; unfold srB; rw [← hu, ← HQ.out]
      have hsz := hb.size
      clear hu HQ
      go_wp2_with fail
      refine (b2_any (2 * (q : Int)) _ (by omega) (by omega)).mono ?_
      rintro e1 w1 ⟨A1, n1, c1, rfl, o1, hb1⟩
      have hgt := (Got.nil wr).add (c := c1) hb1 o1
      have hB := hb.trans (hb1.mono hb.size)
      clear o1 hb1 hb
      go_wp2_with fail
      refine (b2_any (e : Int) _ (by omega) (by omega)).mono ?_
      rintro e2 w2 ⟨A2, n2, c2, rfl, o2, hb2⟩
      replace hgt := hgt.add (c := c2) hb2 o2
      replace hB := hB.trans (hb2.mono hB.size)
      clear o2 hb2
      go_wp2_with fail
      refine (b2_any (2 * (n : Int) - 2 * (q : Int)) _ (by omega) (by omega)).mono ?_
      rintro e3 w3 ⟨A3, n3, c3, rfl, o3, hb3⟩
      replace hgt := hgt.add (c := c3) hb3 o3
      replace hB := hB.trans (hb3.mono hB.size)
      clear o3 hb3
      have HJ := Lib.hid (joinN_any w3 _ _ 3 _ rfl rfl rfl hgt (by omega) (by simp [joined, b2]))
      simp only [joined, List.nil_append, List.cons_append, List.flatMap_cons, List.flatMap_nil, List.append_nil, List.map_cons, List.map_nil, BsV.val] at HJ
      rw [← HS.out] at HJ
      clear hgt
      go_wp2_with fail
      refine HJ.out.mono ?_
      rintro e6 w6 ⟨A6, n6, c6, rfl, o6, hb6⟩
      go_wp2
      go_ret
      exact ⟨A6, n6, c6, rfl, o6.mono hB.size, hB.trans (hb6.mono hB.size)⟩

set_option maxRecDepth 100000 in
set_option maxHeartbeats 4000000 in
theorem rlook9_any (A : Option Addr) (n c : Nat) (zs : List Int) (N : Nat) (code : Int) (w : World) (hr : Row w A n (cellsOf .u8 zs)) (hB : Bytes zs) (hn : n ≤ 1000000) (hN : N ≤ 32767) (c0 : -2147483648 ≤ code) (c1 : code ≤ 2147483647) :
    Calls Tryd.prog 40 #[.slice A n c, .int .i64 N, .int .i64 code] w (Ret w (.int .i64 (lookS zs N code 0 N))) := by
  have HAll : Hid (∀ (i : Nat) (a : Int), a = i → i ≤ 100000000 → ∀ W, Below w.heap.size w W → Calls Tryd.prog 59 #[.slice A n c, .int .i64 a] W (Ret W (.int .i64 (n2at zs i)))) := fun i a ha hi W hW => rat9_any A n c zs a i W (hr.below hW) hB (by omega) ha (by omega)
  have HB := Lib.hid hB
  clear hr hB
  have hb := Below.refl w.heap.size w
  by_cases hc0 : code < 0
  · have HT : Hid (lookS zs N code 0 N = 0) := by
      show _ = _
      cases N with
      | zero => rfl
      | succ N =>
        have k1 := n2at_lt HB.out (14 + 2 * 0)
        have k2 : 0 ≤ (sqAt zs (N + 1) 0).a := (n2at_lt HB.out _).1
        rw [lookS, if_pos (by omega)]
        unfold valS
        rw [if_neg (by omega)]
    clear HAll
    go_enter Tryd.func40, Tryd.ntmps40
    go_wp2
    go_ret
    rw [HT.out]
    exact ⟨rfl, hb⟩
  · by_cases hc1 : 65535 < code
    · have HT : Hid (lookS zs N code 0 N = 0) := lookS_none (fun j _ => by have := n2at_lt HB.out (14 + 2 * j); omega)
      clear HAll
      go_enter Tryd.func40, Tryd.ntmps40
      go_wp2
      go_ret
      rw [HT.out]
      exact ⟨rfl, hb⟩
    · go_enter Tryd.func40, Tryd.ntmps40
      go_wp2
      go_loopw [7] (fun i wr => ∃ k : Nat, k ≤ N ∧ i = .int .i64 k ∧ Hid (lookS zs N code 0 N = lookS zs N code k (N - k)) ∧ Below w.heap.size w wr) (fun i _ => N - (intOf i).toNat)
      case atStart => exact ⟨0, Nat.zero_le _, rfl, Lib.hid rfl, hb⟩
      case round =>
        clear hb
        obtain ⟨k, hk, rfl, hok, hb⟩ := hrel
        by_cases hlt : k < N
        · have hE := Lib.hid (HAll.out (14 + 2 * k) (14 + 2 * (k : Int)) (by omega) (by omega))
          have hSt := Lib.hid (HAll.out (16 + 2 * N + 2 * k) (16 + 2 * (N : Int) + 2 * (k : Int)) (by omega) (by omega))
          have hDe := Lib.hid (HAll.out (16 + 4 * N + 2 * k) (16 + 4 * (N : Int) + 2 * (k : Int)) (by omega) (by omega))
          have hOf := Lib.hid (HAll.out (16 + 6 * N + 2 * k) (16 + 6 * (N : Int) + 2 * (k : Int)) (by omega) (by omega))
          have kS := n2at_lt HB.out (16 + 2 * N + 2 * k)
          have kD := n2at_lt HB.out (16 + 4 * N + 2 * k)
          have kO := n2at_lt HB.out (16 + 6 * N + 2 * k)
          have kE := n2at_lt HB.out (14 + 2 * k)
          have hgo : lookS zs N code 0 N = if code ≤ n2at zs (14 + 2 * k) then valS zs N k code else lookS zs N code (k + 1) (N - (k + 1)) := by
            rw [hok.out]
            obtain ⟨f, hf⟩ : ∃ f, N - k = f + 1 := ⟨N - k - 1, by omega⟩
            rw [hf, lookS, show N - (k + 1) = f by omega]
          have HGO := Lib.hid hgo
          have HV : Hid (valS zs N k code = if n2at zs (16 + 2 * N + 2 * k) ≤ code then (if n2at zs (16 + 6 * N + 2 * k) = 0 then (code + n2at zs (16 + 4 * N + 2 * k)) % 65536 else if n2at zs (16 + 6 * N + 2 * k + (n2at zs (16 + 6 * N + 2 * k)).toNat + 2 * (code - n2at zs (16 + 2 * N + 2 * k)).toNat) = 0 then 0 else (n2at zs (16 + 6 * N + 2 * k + (n2at zs (16 + 6 * N + 2 * k)).toNat + 2 * (code - n2at zs (16 + 2 * N + 2 * k)).toNat) + n2at zs (16 + 4 * N + 2 * k)) % 65536) else 0) := rfl
          have HGl := Lib.hid (fun (o s : Int) (h1 : 0 ≤ o) (h2 : o < 65536) (h3 : 0 ≤ s) (h4 : s ≤ code) => HAll.out (16 + 6 * N + 2 * k + o.toNat + 2 * (code - s).toNat) (16 + 6 * (N : Int) + 2 * (k : Int) + o + 2 * (code - s)) (by omega) (by omega))
          have HGb := Lib.hid (fun (o s : Int) => n2at_lt HB.out (16 + 6 * N + 2 * k + o.toNat + 2 * (code - s).toNat))
          clear hgo HAll hok
          generalize n2at zs (16 + 2 * N + 2 * k) = st at *
          generalize n2at zs (16 + 4 * N + 2 * k) = de at *
          generalize n2at zs (16 + 6 * N + 2 * k) = ofs at *
          generalize n2at zs (14 + 2 * k) = en at *
          by_cases h1 : code ≤ en
          · by_cases h2 : st ≤ code
            · by_cases h3 : ofs = 0
              · have HT : Hid (lookS zs N code 0 N = (code + de) % 65536) := by show _ = _; rw [HGO.out, if_pos h1, HV.out, if_pos h2, if_pos h3]
                have h3' : ¬ 0 < ofs := by omega
                clear HGO HV HGl HGb h3
                go_wp2_with (go_at_call 59; (first | (with_reducible refine (hE.out _ hb).mono ?_) | (with_reducible refine (hSt.out _ hb).mono ?_) | (with_reducible refine (hDe.out _ hb).mono ?_) | (with_reducible refine (hOf.out _ hb).mono ?_)); rintro e wn ⟨rfl, hbn⟩; replace hb := hb.trans (hbn.mono hb.size); clear hbn)
                go_ret
                rw [HT.out]
                exact ⟨rfl, hb⟩
              · have h3' : 0 < ofs := by omega
                have hGx := Lib.hid (HGl.out ofs st (by omega) (by omega) (by omega) h2)
                have kx := HGb.out ofs st
                have HV2 : Hid (lookS zs N code 0 N = if n2at zs (16 + 6 * N + 2 * k + ofs.toNat + 2 * (code - st).toNat) = 0 then 0 else (n2at zs (16 + 6 * N + 2 * k + ofs.toNat + 2 * (code - st).toNat) + de) % 65536) := by show _ = _; rw [HGO.out, if_pos h1, HV.out, if_pos h2, if_neg h3]
                clear HGO HV HGl HGb h3
                generalize n2at zs (16 + 6 * N + 2 * k + ofs.toNat + 2 * (code - st).toNat) = gv at *
                by_cases h4 : gv = 0
                · have HT : Hid (lookS zs N code 0 N = 0) := by show _ = _; rw [HV2.out, if_pos h4]
                  have b4 : (gv == 0) = true := by simp [h4]
                  clear HV2 h4
                  go_wp2_with (go_at_call 59; (first | (with_reducible refine (hE.out _ hb).mono ?_) | (with_reducible refine (hSt.out _ hb).mono ?_) | (with_reducible refine (hDe.out _ hb).mono ?_) | (with_reducible refine (hOf.out _ hb).mono ?_) | (with_reducible refine (hGx.out _ hb).mono ?_)); rintro e wn ⟨rfl, hbn⟩; replace hb := hb.trans (hbn.mono hb.size); clear hbn)
                  go_ret
                  rw [HT.out]
                  exact ⟨rfl, hb⟩
                · have HT : Hid (lookS zs N code 0 N = (gv + de) % 65536) := by show _ = _; rw [HV2.out, if_neg h4]
                  have b4 : (gv == 0) = false := by simp [h4]
                  clear HV2 h4
                  go_wp2_with (go_at_call 59; (first | (with_reducible refine (hE.out _ hb).mono ?_) | (with_reducible refine (hSt.out _ hb).mono ?_) | (with_reducible refine (hDe.out _ hb).mono ?_) | (with_reducible refine (hOf.out _ hb).mono ?_) | (with_reducible refine (hGx.out _ hb).mono ?_)); rintro e wn ⟨rfl, hbn⟩; replace hb := hb.trans (hbn.mono hb.size); clear hbn)
                  go_ret
                  rw [HT.out]
                  exact ⟨rfl, hb⟩
            · have HT : Hid (lookS zs N code 0 N = 0) := by show _ = _; rw [HGO.out, if_pos h1, HV.out, if_neg h2]
              clear HGO HV HGl HGb
              go_wp2_with (go_at_call 59; (first | (with_reducible refine (hE.out _ hb).mono ?_) | (with_reducible refine (hSt.out _ hb).mono ?_) | (with_reducible refine (hDe.out _ hb).mono ?_) | (with_reducible refine (hOf.out _ hb).mono ?_)); rintro e wn ⟨rfl, hbn⟩; replace hb := hb.trans (hbn.mono hb.size); clear hbn)
              go_ret
              rw [HT.out]
              exact ⟨rfl, hb⟩
          · have HT : Hid (lookS zs N code 0 N = lookS zs N code (k + 1) (N - (k + 1))) := by show _ = _; rw [HGO.out, if_neg h1]
            clear HGO HV HGl HGb
            go_wp2_with (go_at_call 59; (with_reducible refine (hE.out _ hb).mono ?_); rintro e wn ⟨rfl, hbn⟩; replace hb := hb.trans (hbn.mono hb.size); clear hbn)
            go_roundw
            case rel => exact ⟨k + 1, by omega, by go_num, HT, hb⟩
            case measure => simp [intOf]; omega
        · obtain rfl : k = N := by omega
          have HT : Hid (lookS zs k code 0 k = 0) := by show _ = _; rw [hok.out, Nat.sub_self]; rfl
          clear HAll
          go_wp2
          go_ret
          rw [HT.out]
          exact ⟨rfl, hb⟩

end Go.Proofs.YthkaeimpflggjaaDoor

/- seg.write and Build, as contracts over this seat's translation. -/
namespace Go.Proofs.YthkaeimpflggjaaDoor
open Go.RowKit
set_option linter.unusedVariables false

def sPre (n : Nat) : List Int := b2 4 ++ (b2 (2 * (8 + 4 * (n : Int))) ++ (b2 0 ++ b2 (2 * (n : Int))))
def sTab (l : List Sg) : List Int := sPre l.length ++ srB l.length ++ colB Sg.b l ++ b2 0 ++ colB Sg.a l ++ colB Sg.d l ++ colB (fun _ => 0) l
theorem srL_flat (n : Nat) : (srL n).flatMap b2 = srB n := by simp [srL, srB]
theorem srL_bound {n : Nat} (h0 : 1 ≤ n) (h1 : n < 32768) : ∀ x ∈ srL n, 0 ≤ x ∧ x < 65536 := by
  have hs := expoS_spec n h0
  have hx := expoS_lt n h0 h1
  rw [Nat.pow_succ] at hs
  intro x hx'
  unfold srL at hx'
  generalize (2 : Nat) ^ expoS n = p at *
  simp at hx'
  omega
theorem flat_b2_snoc {l : List Int} {k : Nat} {x : Int} (h : l[k]? = some x) : (l.take (k + 1)).flatMap b2 = (l.take k).flatMap b2 ++ b2 x := by
  rw [List.take_add_one, h]
  simp

set_option maxRecDepth 100000 in
set_option maxHeartbeats 8000000 in
theorem swrite_any (A : Option Addr) (n c : Nat) (l : List Sg) (w : World) (hr : RowS encS 4 w A n l) (h0 : 1 ≤ n) (hn : n ≤ 8000) (hv : ∀ x ∈ l, (0 ≤ x.a ∧ x.a < 65536) ∧ (0 ≤ x.b ∧ x.b < 65536) ∧ (0 ≤ x.d ∧ x.d < 65536)) :
    Calls Tryd.prog 43 #[.slice A n c] w (RetB w (sTab l)) := by
  have hA0 : Below w.heap.size w (w.alloc (.cells #[.slice A n c] 33)) := (Below.refl _ _).alloc (Nat.le_refl _) _
  have hk0 : (w.alloc (.cells #[.slice A n c] 33)).cell? ⟨w.heap.size, 0, none⟩ = some (.slice A n c) := cell_of_row _ _ 0 _ _ _ (heap_alloc_new w _)
  have hr0 := hr.below hA0
  have hs0 : WS (w.alloc (.cells #[.slice A n c] 33)) ((w.alloc (.cells #[.slice A n c] 33)).alloc (.cells #[.slice none 0 0] 68)) (w.heap.size + 1) [] := by
    have := wr_new (w.alloc (.cells #[.slice A n c] 33))
    rw [show (w.alloc (.cells #[.slice A n c] 33)).heap.size = w.heap.size + 1 by simp] at this
    exact ⟨by rw [show (w.alloc (.cells #[.slice A n c] 33)).heap.size = w.heap.size + 1 by simp]; exact this, (Below.refl _ _).alloc (Nat.le_refl _) _⟩
  have HV := Lib.hid hv
  have HA0 := Lib.hid hA0
  have Hl := Lib.hid hr.len
  have HSr := Lib.hid (fun W => ssearch_any n W h0 (by omega))
  have HSb := Lib.hid (srL_bound h0 (show n < 32768 by omega))
  obtain ⟨s1, s2, s3, hsr⟩ : ∃ s1 s2 s3, srL n = [s1, s2, s3] := ⟨_, _, _, rfl⟩
  have HFl := Lib.hid (srL_flat n)
  rw [hsr] at HSr HSb HFl
  unfold arrV at HSr
  simp only [cellsOf, List.map_cons, List.map_nil] at HSr
  have e1 : ∀ args w, (callFunc 63 args).run Tryd.prog w = .ok (.enter 63 args) w := enters_of Tryd.func63 (by kernel_rfl) rfl
  have e2 : ∀ args w, (callFunc 64 args).run Tryd.prog w = .ok (.enter 64 args) w := enters_of Tryd.func64 (by kernel_rfl) rfl
  have e3 : ∀ args w, (callFunc 65 args).run Tryd.prog w = .ok (.enter 65 args) w := enters_of Tryd.func65 (by kernel_rfl) rfl
  have e4 : ∀ args w, (callFunc 66 args).run Tryd.prog w = .ok (.enter 66 args) w := enters_of Tryd.func66 (by kernel_rfl) rfl
  have HC1 := Lib.hid (fun zs W h hz => scol_any 63 Sg.b e1 send_any w.heap.size (w.heap.size + 1) A n c l zs (w.alloc (.cells #[.slice A n c] 33)) W h hr0 hk0 (by omega) (fun x hx => (HV.out x hx).2.1) hz)
  have HC2 := Lib.hid (fun zs W h hz => scol_any 64 Sg.a e2 sstart_any w.heap.size (w.heap.size + 1) A n c l zs (w.alloc (.cells #[.slice A n c] 33)) W h hr0 hk0 (by omega) (fun x hx => (HV.out x hx).1) hz)
  have HC3 := Lib.hid (fun zs W h hz => scol_any 65 Sg.d e3 sdelta_any w.heap.size (w.heap.size + 1) A n c l zs (w.alloc (.cells #[.slice A n c] 33)) W h hr0 hk0 (by omega) (fun x hx => (HV.out x hx).2.2) hz)
  have HC4 := Lib.hid (fun zs W h hz => scol_any 66 (fun _ => 0) e4 szero_any w.heap.size (w.heap.size + 1) A n c l zs (w.alloc (.cells #[.slice A n c] 33)) W h hr0 hk0 (by omega) (fun x hx => by simp) hz)
  clear e1 e2 e3 e4 hv hr hr0 hk0 hsr
  go_enter Tryd.func43, Tryd.ntmps43
  go_wp2_with fail
  with_reducible refine (wu16_any _ _ _ 4 _ hs0.wr_ (by simp) (by omega) (by omega)).mono ?_
  rintro e w1 ⟨rfl, hw1, ht1⟩
  have hs1 := hs0.turned hw1 ht1
  clear hs0 hw1 ht1
  go_wp2_with fail
  with_reducible refine (wu16_any _ _ _ (2 * (8 + 4 * (n : Int))) _ hs1.wr_ (by simp [b2]) (by omega) (by omega)).mono ?_
  rintro e w2 ⟨rfl, hw2, ht2⟩
  have hs2 := hs1.turned hw2 ht2
  clear hs1 hw2 ht2
  go_wp2_with fail
  with_reducible refine (wu16_any _ _ _ 0 _ hs2.wr_ (by simp [b2]) (by omega) (by omega)).mono ?_
  rintro e w3 ⟨rfl, hw3, ht3⟩
  have hs3 := hs2.turned hw3 ht3
  clear hs2 hw3 ht3
  go_wp2_with fail
  with_reducible refine (wu16_any _ _ _ (2 * (n : Int)) _ hs3.wr_ (by simp [b2]) (by omega) (by omega)).mono ?_
  rintro e w4 ⟨rfl, hw4, ht4⟩
  have hs4 := hs3.turned hw4 ht4
  have HH : Hid ([] ++ b2 4 ++ b2 (2 * (8 + 4 * (n : Int))) ++ b2 0 ++ b2 (2 * (n : Int)) = sPre n) := by show _ = _; unfold sPre; simp
  rw [HH.out] at hs4
  clear hs3 hw4 ht4 HH
  have hpl : (sPre n).length = 8 := rfl
  have HTab : Hid (sPre n ++ srB n ++ colB Sg.b l ++ b2 0 ++ colB Sg.a l ++ colB Sg.d l ++ colB (fun _ => 0) l = sTab l) := by show _ = _; unfold sTab; rw [Hl.out]
  go_wp2_with fail
  refine (HSr.out _).mono ?_
  rintro e w5 ⟨rfl, hb5⟩
  have hs5 := hs4.below hb5
  clear hs4 hb5
  generalize sPre n = P at *
  generalize w.alloc (.cells #[.slice A n c] 33) = W0 at *
  go_wp2
  go_loopw [24] (fun i wr => ∃ k : Nat, k ≤ 3 ∧ i = .int .i64 k ∧ WS W0 wr (w.heap.size + 1) (P ++ ([s1, s2, s3].take k).flatMap b2)) (fun i _ => 3 - (intOf i).toNat)
  case atStart => exact ⟨0, Nat.zero_le _, rfl, by simpa using hs5⟩
  case round =>
    clear hs5
    obtain ⟨k, hk, rfl, hs⟩ := hrel
    by_cases hlt : k < 3
    · obtain ⟨x, hx⟩ := getP (l := [s1, s2, s3]) (j := k) hlt
      have hxb := HSb.out x (List.mem_of_getElem? hx)
      have HX := Lib.hid (flat_b2_snoc hx)
      have hix := run_index_arr (P := Tryd.prog) wr 117 43 3 #[.int .u16 s1, .int .u16 s2, .int .u16 s3] k (.int .u16 x) Tryd.underlying117 (by simp [go_sem]) (by simp [go_sem]) hlt (by
        have h := cellsOf_get (k := .u16) hx
        simpa [cellsOf] using h)
      have hll : (P ++ ([s1, s2, s3].take k).flatMap b2).length ≤ 1000 := by
        rcases (show k = 0 ∨ k = 1 ∨ k = 2 by omega) with rfl | rfl | rfl <;> simp [hpl, b2]
      clear hx
      go_wp2_with fail
      with_reducible refine (wu16_any _ _ _ x _ hs.wr_ (by omega) (by omega) (by omega)).mono ?_
      rintro e w6 ⟨rfl, hw6, ht6⟩
      have hs6 := hs.turned hw6 ht6
      rw [List.append_assoc, ← HX.out] at hs6
      clear hs hw6 ht6 hix
      go_wp2
      go_roundw
      case rel => exact ⟨k + 1, by omega, by go_num, hs6⟩
      case measure => simp [intOf]; omega
    · obtain rfl : k = 3 := by omega
      have HE : Hid (P ++ ([s1, s2, s3].take 3).flatMap b2 = P ++ srB n) := by show _ = _; rw [← HFl.out]; rfl
      rw [HE.out] at hs
      have hl1 : (P ++ srB n).length = 14 := by rw [List.length_append, hpl, srB_len]
      clear HE HFl HSb HSr
      generalize P ++ srB n = Q1 at *
      have hcb := colB_len Sg.b l
      have hca := colB_len Sg.a l
      have hcd := colB_len Sg.d l
      have hcz := colB_len (fun _ => 0) l
      have hln := Hl.out
      have hsw := hs.bel.size
      go_wp2_with fail
      refine (HC1.out _ _ hs (by omega)).mono ?_
      rintro e w6 ⟨rfl, hs6⟩
      clear hs
      go_wp2_with fail
      with_reducible refine (wu16_any _ _ _ 0 _ hs6.wr_ (by simp; omega) (by omega) (by omega)).mono ?_
      rintro e w7 ⟨rfl, hw7, ht7⟩
      have hs7 := hs6.turned hw7 ht7
      clear hs6 hw7 ht7
      go_wp2_with fail
      refine (HC2.out _ _ hs7 (by simp [b2]; omega)).mono ?_
      rintro e w8 ⟨rfl, hs8⟩
      clear hs7
      go_wp2_with fail
      refine (HC3.out _ _ hs8 (by simp [b2]; omega)).mono ?_
      rintro e w9 ⟨rfl, hs9⟩
      clear hs8
      go_wp2_with fail
      refine (HC4.out _ _ hs9 (by simp [b2]; omega)).mono ?_
      rintro e w10 ⟨rfl, hs10⟩
      rw [HTab.out] at hs10
      clear hs9
      have hlt : (sTab l).length ≤ 1000000 := by rw [← HTab.out]; simp [b2]; omega
      go_wp2_with fail
      with_reducible refine (done_any _ _ _ _ hs10.wr_ (by omega)).mono ?_
      rintro e w11 ⟨A3, n3, c3, rfl, hown3, hb3⟩
      have hbb := HA0.out.trans ((hs10.bel.trans (hb3.mono hs10.bel.size)).mono HA0.out.size)
      go_wp2
      go_ret
      exact ⟨A3, n3, c3, rfl, hown3.mono (Nat.le_trans HA0.out.size hs10.bel.size), hbb⟩

def sgL : Rn := ⟨65535, 65535, 0⟩
def sRuns (l : List Pr) : List Rn := runsF folS l ++ [sgL]
def sGood (l : List Pr) : Bool := risesF 65534 (-1) l && decide ((sRuns l).length ≤ 8000)
def sOut (l : List Pr) : List Int := if sGood l then sTab ((sRuns l).map sgR) else []

set_option maxRecDepth 100000 in
set_option maxHeartbeats 4000000 in
theorem sbuild_any (A : Option Addr) (n c : Nat) (l : List Pr) (w : World) (hr : RowS encP 2 w A n l) (hn : n ≤ 1000000) (hg : PrG l) :
    Calls Tryd.prog 22 #[.slice A n c] w (RetB w (sOut l)) := by
  obtain ⟨i0, hi, hz0, hz1, hz2⟩ := info_parts Tryd.sginfo
  have HR := Lib.hid (rises_any A n c l 65534 w hr hn)
  cases hv : risesF 65534 (-1) l with
  | false =>
    have HO : Hid (sOut l = []) := by show _ = _; unfold sOut sGood; rw [hv]; rfl
    rw [hv] at HR
    clear hv hr hg
    go_enter Tryd.func22, Tryd.ntmps22
    go_wp2_with fail
    with_reducible refine HR.out.mono ?_
    rintro e w1 ⟨rfl, hb1⟩
    go_wp2
    go_ret
    exact ⟨none, 0, 0, rfl, by rw [HO.out]; exact Own.nil _ _ _ _, hb1⟩
  | true =>
    have hok : OkP5 l := fun p hp => by
      have h1 := risesF_mem hv p hp
      have h2 := hg p hp
      omega
    have hgs := runsS_g l hg
    have hro := runs_ok folS_code 65534 l (-1) hv
    have hab : ∀ x ∈ runsF folS l, 0 ≤ x.a ∧ x.a ≤ x.b ∧ x.b ≤ 65534 := by
      have key : ∀ (t : List Rn) (ah : Int), -1 ≤ ah → rnOK 65534 ah t → ∀ x ∈ t, 0 ≤ x.a ∧ x.a ≤ x.b ∧ x.b ≤ 65534 := by
        intro t
        induction t with
        | nil => intro _ _ _ x hx; simp at hx
        | cons y t ih =>
          intro ah ha ho x hx
          obtain ⟨o1, o2, o3, o4⟩ := ho
          rcases List.mem_cons.1 hx with rfl | hx
          · omega
          · exact ih y.b (by omega) o4 x hx
      exact key _ _ (by omega) hro
    have hvv : ∀ x ∈ (sRuns l).map sgR, (0 ≤ x.a ∧ x.a < 65536) ∧ (0 ≤ x.b ∧ x.b < 65536) ∧ (0 ≤ x.d ∧ x.d < 65536) := by
      intro x hx
      obtain ⟨y, hy, rfl⟩ := List.mem_map.1 hx
      unfold sRuns at hy
      rcases List.mem_append.1 hy with h | h
      · have a1 := hab y h
        have a2 := hgs y h
        simp only [sgR]
        omega
      · simp at h
        subst h
        simp [sgR, sgL]
    have hlen := runsF_len folS l
    have Hn := Lib.hid hr.len
    rw [hv] at HR
    have HVV := Lib.hid hvv
    have HGd : Hid (sGood l = decide ((runsF folS l).length + 1 ≤ 8000)) := by show _ = _; unfold sGood sRuns; rw [hv, List.length_append]; rfl
    have HOt : Hid (sOut l = if sGood l then sTab ((sRuns l).map sgR) else []) := rfl
    have HRu := Lib.hid (fun (W : World) (h : Below w.heap.size w W) => sruns_any A n c l W (hr.below h) hn hok)
    have HMp : Hid ((runsF folS l).map sgR ++ [⟨65535, 65535, 1, none, 0⟩] = (sRuns l).map sgR) := by show _ = _; unfold sRuns; rw [List.map_append]; rfl
    clear hv hg hok hgs hro hab hr hvv
    go_enter Tryd.func22, Tryd.ntmps22
    go_wp2_with fail
    with_reducible refine HR.out.mono ?_
    rintro e w1 ⟨rfl, hb1⟩
    clear HR
    go_wp2_with fail
    with_reducible refine (HRu.out _ hb1).mono ?_
    rintro e w2 ⟨Ar, m, cr, rfl, hown, hb2'⟩
    have hb2 := hb1.trans (hb2'.mono hb1.size)
    have hml : (runsF folS l).length = m := by have := hown.len; rwa [List.length_map] at this
    rw [hml] at HGd hlen
    have hln := Hn.out
    have hown0 := hown.mono hb1.size
    have hs2 := hb2.size
    clear hown hb2' hb1 HRu
    by_cases hbig : m + 1 ≤ 8000
    · have HO : Hid (sOut l = sTab ((sRuns l).map sgR)) := by show _ = _; rw [HOt.out, HGd.out, decide_eq_true hbig]; rfl
      go_wp2_with (at_builtin; refine wpList_append_rowS rfl (.tmp 8) (.tmp 10) _ rfl 90 encS 4 encS_len (by omega) encS_one w.heap.size i0 _ 32 Tryd.underlying33 hi hz0 hz1 rfl hz2 _ m cr _ rfl (hown0.alloc _) (some ⟨w2.heap.size, 0, none⟩) 1 1 [⟨65535, 65535, 1, none, 0⟩] rfl (rowS_vals encS_len w2 90 [⟨65535, 65535, 1, none, 0⟩] _ rfl 1 rfl) (by omega) (by omega) (by simp; omega) ?_; intro A6 c6 w6 ho6 hg6)
      have hb6 := (hb2.alloc hb2.size _).grown hg6 (hb2.alloc hb2.size _).size (fun q e => (hown0.from_ q e).1)
      rw [HMp.out] at ho6
      have HW := Lib.hid (swrite_any A6 (m + 1) c6 _ w6 (ho6.row encS_len) (by omega) hbig HVV.out)
      clear ho6 hg6 hown0
      refine HW.out.mono ?_
      rintro e w7 ⟨A7, n7, c7, rfl, hown7, hb7⟩
      go_wp2
      go_ret
      exact ⟨A7, n7, c7, rfl, by rw [HO.out]; exact hown7.mono hb6.size, hb6.trans (hb7.mono hb6.size)⟩
    · have HO : Hid (sOut l = []) := by show _ = _; rw [HOt.out, HGd.out, decide_eq_false hbig]; rfl
      go_wp2_with (at_builtin; refine wpList_append_rowS rfl (.tmp 8) (.tmp 10) _ rfl 90 encS 4 encS_len (by omega) encS_one w.heap.size i0 _ 32 Tryd.underlying33 hi hz0 hz1 rfl hz2 _ m cr _ rfl (hown0.alloc _) (some ⟨w2.heap.size, 0, none⟩) 1 1 [⟨65535, 65535, 1, none, 0⟩] rfl (rowS_vals encS_len w2 90 [⟨65535, 65535, 1, none, 0⟩] _ rfl 1 rfl) (by omega) (by omega) (by simp; omega) ?_; intro A6 c6 w6 ho6 hg6)
      have hb6 := (hb2.alloc hb2.size _).grown hg6 (hb2.alloc hb2.size _).size (fun q e => (hown0.from_ q e).1)
      go_ret
      exact ⟨none, 0, 0, rfl, by rw [HO.out]; exact Own.nil _ _ _ _, hb6⟩

end Go.Proofs.YthkaeimpflggjaaDoor
