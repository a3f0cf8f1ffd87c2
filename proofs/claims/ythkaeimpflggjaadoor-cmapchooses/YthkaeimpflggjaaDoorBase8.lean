/- What the laws of this seat lean on: CmF GrpD SegD CmB GlyM. -/
import Derived.Deep.QuietTactic
import Derived.BigQuiet
import Derived.StillTailTactics
import Derived.Test.YthkaeimpflggjaaDoorBase1
import Derived.Test.YthkaeimpflggjaaDoorBase2
import Derived.Test.YthkaeimpflggjaaDoorBase3
import Derived.Test.YthkaeimpflggjaaDoorBase4
import Derived.Test.YthkaeimpflggjaaDoorBase6
import Derived.Test.YthkaeimpflggjaaDoorBase7

/- The document's Find and Look of a table cmap: contracts over this seat's translation. -/
namespace Go.Proofs.YthkaeimpflggjaaDoor
open Go.RowKit
set_option linter.unusedVariables false

def wantL : List (List Int) := [[0, 3, 0, 10], [0, 0, 0, 4], [0, 3, 0, 1], [0, 0, 0, 3]]
theorem want_b2 {k : Nat} {x : Int × Int} {y : List Int} (hx : ksL[k]? = some x) (hy : wantL[k]? = some y) : y = b2 x.1 ++ b2 x.2 := by
  rcases k with _ | _ | _ | _ | k <;> simp [ksL] at hx <;> simp [wantL] at hy <;> subst hx hy <;> rfl
theorem ksL_wd {k : Nat} {x : Int × Int} (hx : ksL[k]? = some x) : decide (x.2 = 10 ∨ x.2 = 4) = decide (k < 2) := by
  rcases k with _ | _ | _ | _ | k <;> simp [ksL] at hx <;> subst hx <;> simp
theorem same_is {zs : List Int} (hB : Bytes zs) {k i : Nat} {x : Int × Int} {y : List Int} (hx : ksL[k]? = some x) (hy : wantL[k]? = some y) (hl : 8 + 8 * i ≤ zs.length) : sameB ((zs.drop (4 + 8 * i)).take 4) y = cIs zs x.1 x.2 i := by
  have e : (zs.drop (4 + 8 * i)).take 4 = b2 (n2at zs (4 + 8 * i)) ++ b2 (n2at zs (6 + 8 * i)) := by
    rw [b2_win hB (i := 4 + 8 * i) (by omega), b2_win hB (i := 6 + 8 * i) (by omega), show 6 + 8 * i = 4 + 8 * i + 2 by omega]
    rw [← win_join zs (4 + 8 * i) 2 2]
  have k4 := n2at_lt hB (4 + 8 * i)
  have k6 := n2at_lt hB (6 + 8 * i)
  have hk := ksL_kind hx
  rw [e, want_b2 hx hy]
  unfold sameB cIs
  rw [Bool.eq_iff_iff, decide_eq_true_iff, decide_eq_true_iff]
  generalize n2at zs (4 + 8 * i) = u at *
  generalize n2at zs (6 + 8 * i) = v at *
  obtain ⟨a, b⟩ := x
  simp only [b2, List.cons_append, List.nil_append, List.cons.injEq, and_true] at hk ⊢
  omega

/-- What Find leaves. -/
def RetFd (w : World) (zs : List Int) (n : Nat) (e : Ending) (w' : World) : Prop :=
  Below w.heap.size w w' ∧ ∃ (As : Option Addr) (ns cs : Nat) (wd : Bool) (N : Int) (ok : Bool), e = .returned (.tuple #[.slice As ns cs, .bool wd, .int .i64 N, .bool ok]) ∧ ok = (cFind zs).isSome ∧
    ∀ wd' v, cFind zs = some (wd', v) → wd = wd' ∧ N = (cCnt wd' (zs.drop v) : Int) ∧ Row w' As ns (cellsOf .u8 (zs.drop v)) ∧ ns ≤ cs ∧ ns ≤ n

/-- The four kinds' bytes in memory. -/
structure FS (w wr : World) (b0 b1 b2 b3 b4 : Nat) : Prop where
  row : Row wr (some ⟨b4, 0, none⟩) 4 [.slice (some ⟨b0, 0, none⟩) 4 4, .slice (some ⟨b1, 0, none⟩) 4 4, .slice (some ⟨b2, 0, none⟩) 4 4, .slice (some ⟨b3, 0, none⟩) 4 4]
  byt : ∀ (k b : Nat) (y : List Int), [b0, b1, b2, b3][k]? = some b → wantL[k]? = some y → Row wr (some ⟨b, 0, none⟩) 4 (cellsOf .u8 y)
  bel : Below w.heap.size w wr
theorem FS.below {w wr w' : World} {b0 b1 b2 b3 b4 : Nat} (h : FS w wr b0 b1 b2 b3 b4) (hb : Below wr.heap.size wr w') : FS w w' b0 b1 b2 b3 b4 := ⟨h.row.below hb, fun k b y hy hx => (h.byt k b y hy hx).below hb, h.bel.trans (hb.mono h.bel.size)⟩
theorem FS.cell {w wr : World} {b0 b1 b2 b3 b4 k b : Nat} (h : FS w wr b0 b1 b2 b3 b4) (hk : [b0, b1, b2, b3][k]? = some b) : wr.cell? ⟨b4, k, none⟩ = some (.slice (some ⟨b, 0, none⟩) 4 4) := by
  have hx : ([.slice (some ⟨b0, 0, none⟩) 4 4, .slice (some ⟨b1, 0, none⟩) 4 4, .slice (some ⟨b2, 0, none⟩) 4 4, .slice (some ⟨b3, 0, none⟩) 4 4] : List Value)[k]? = some (.slice (some ⟨b, 0, none⟩) 4 4) := by
    rcases k with _ | _ | _ | _ | k <;> simp at hk <;> subst hk <;> rfl
  obtain ⟨g', off', e', _, hc⟩ := h.row.at hx
  simp only [Option.some.injEq, Addr.mk.injEq, and_true] at e'
  obtain ⟨rfl, rfl⟩ := e'
  simpa using hc
theorem FS.new (w W : World) (hb : Below w.heap.size w W) : FS w (((((W.alloc (.cells #[.int .u8 0, .int .u8 3, .int .u8 0, .int .u8 10] 5)).alloc (.cells #[.int .u8 0, .int .u8 0, .int .u8 0, .int .u8 4] 5)).alloc (.cells #[.int .u8 0, .int .u8 3, .int .u8 0, .int .u8 1] 5)).alloc (.cells #[.int .u8 0, .int .u8 0, .int .u8 0, .int .u8 3] 5)).alloc (.cells #[.slice (some ⟨W.heap.size, 0, none⟩) 4 4, .slice (some ⟨W.heap.size + 1, 0, none⟩) 4 4, .slice (some ⟨W.heap.size + 1 + 1, 0, none⟩) 4 4, .slice (some ⟨W.heap.size + 1 + 1 + 1, 0, none⟩) 4 4] 28)) W.heap.size (W.heap.size + 1) (W.heap.size + 1 + 1) (W.heap.size + 1 + 1 + 1) (W.heap.size + 1 + 1 + 1 + 1) := by
  have key : ∀ (V : World) (o : Obj), Below V.heap.size V (V.alloc o) := fun V o => (Below.refl _ _).alloc (Nat.le_refl _) _
  have r0 := row_vals W 5 (cellsOf .u8 [0, 3, 0, 10]) 4 rfl
  have r1 := row_vals (W.alloc (.cells #[.int .u8 0, .int .u8 3, .int .u8 0, .int .u8 10] 5)) 5 (cellsOf .u8 [0, 0, 0, 4]) 4 rfl
  have r2 := row_vals ((W.alloc (.cells #[.int .u8 0, .int .u8 3, .int .u8 0, .int .u8 10] 5)).alloc (.cells #[.int .u8 0, .int .u8 0, .int .u8 0, .int .u8 4] 5)) 5 (cellsOf .u8 [0, 3, 0, 1]) 4 rfl
  have r3 := row_vals (((W.alloc (.cells #[.int .u8 0, .int .u8 3, .int .u8 0, .int .u8 10] 5)).alloc (.cells #[.int .u8 0, .int .u8 0, .int .u8 0, .int .u8 4] 5)).alloc (.cells #[.int .u8 0, .int .u8 3, .int .u8 0, .int .u8 1] 5)) 5 (cellsOf .u8 [0, 0, 0, 3]) 4 rfl
  have r4 := row_vals ((((W.alloc (.cells #[.int .u8 0, .int .u8 3, .int .u8 0, .int .u8 10] 5)).alloc (.cells #[.int .u8 0, .int .u8 0, .int .u8 0, .int .u8 4] 5)).alloc (.cells #[.int .u8 0, .int .u8 3, .int .u8 0, .int .u8 1] 5)).alloc (.cells #[.int .u8 0, .int .u8 0, .int .u8 0, .int .u8 3] 5)) 28 [.slice (some ⟨W.heap.size, 0, none⟩) 4 4, .slice (some ⟨W.heap.size + 1, 0, none⟩) 4 4, .slice (some ⟨W.heap.size + 1 + 1, 0, none⟩) 4 4, .slice (some ⟨W.heap.size + 1 + 1 + 1, 0, none⟩) 4 4] 4 rfl
  have s1 : (W.alloc (.cells #[.int .u8 0, .int .u8 3, .int .u8 0, .int .u8 10] 5)).heap.size = W.heap.size + 1 := by simp
  have s2 : ((W.alloc (.cells #[.int .u8 0, .int .u8 3, .int .u8 0, .int .u8 10] 5)).alloc (.cells #[.int .u8 0, .int .u8 0, .int .u8 0, .int .u8 4] 5)).heap.size = W.heap.size + 1 + 1 := by simp
  have s3 : (((W.alloc (.cells #[.int .u8 0, .int .u8 3, .int .u8 0, .int .u8 10] 5)).alloc (.cells #[.int .u8 0, .int .u8 0, .int .u8 0, .int .u8 4] 5)).alloc (.cells #[.int .u8 0, .int .u8 3, .int .u8 0, .int .u8 1] 5)).heap.size = W.heap.size + 1 + 1 + 1 := by simp
  have s4 : ((((W.alloc (.cells #[.int .u8 0, .int .u8 3, .int .u8 0, .int .u8 10] 5)).alloc (.cells #[.int .u8 0, .int .u8 0, .int .u8 0, .int .u8 4] 5)).alloc (.cells #[.int .u8 0, .int .u8 3, .int .u8 0, .int .u8 1] 5)).alloc (.cells #[.int .u8 0, .int .u8 0, .int .u8 0, .int .u8 3] 5)).heap.size = W.heap.size + 1 + 1 + 1 + 1 := by simp
  rw [s1] at r1
  rw [s2] at r2
  rw [s3] at r3
  rw [s4] at r4
  refine ⟨r4, fun k b y hx hy => ?_, ?_⟩
  · rcases k with _ | _ | _ | _ | k <;> simp [wantL] at hy <;> simp at hx <;> subst hy hx
    · exact (((r0.below (key _ _)).below (key _ _)).below (key _ _)).below (key _ _)
    · exact ((r1.below (key _ _)).below (key _ _)).below (key _ _)
    · exact (r2.below (key _ _)).below (key _ _)
    · exact r3.below (key _ _)
  · exact ((((hb.alloc hb.size _).alloc (by have := hb.size; simp; omega) _).alloc (by have := hb.size; simp; omega) _).alloc (by have := hb.size; simp; omega) _).alloc (by have := hb.size; simp; omega) _

/-- Four results. -/
theorem results4 {P : Program} {fn : Func} {a b c d : Tmp} (h : fn.results = #[.tmp a, .tmp b, .tmp c, .tmp d]) (tmps : Array Value) (w : World) {v0 v1 v2 v3 : Value} (h0 : tmps.getD a undef = v0) (h1 : tmps.getD b undef = v1) (h2 : tmps.getD c undef = v2) (h3 : tmps.getD d undef = v3) :
    (results fn tmps).run P w = .ok (.tuple #[v0, v1, v2, v3]) w := by
  subst h0 h1 h2 h3
  simp [results, h]

theorem retFd_no {w w' : World} {zs : List Int} {n : Nat} (h : cFind zs = none) (hb : Below w.heap.size w w') (As : Option Addr) (ns cs : Nat) (wd : Bool) (N : Int) : RetFd w zs n (.returned (.tuple #[.slice As ns cs, .bool wd, .int .i64 N, .bool false])) w' :=
  ⟨hb, As, ns, cs, wd, N, false, rfl, by rw [h]; rfl, fun wd' v hv => by rw [h] at hv; cases hv⟩

set_option maxRecDepth 100000 in
set_option maxHeartbeats 8000000 in
theorem rfind_any (A : Option Addr) (n c : Nat) (zs : List Int) (w : World) (hr : Row w A n (cellsOf .u8 zs)) (hB : Bytes zs) (hn : n ≤ 1000000) (hc : n ≤ c) :
    Calls Tryd.prog 17 #[.slice A n c] w (RetFd w zs n) := by
  have HN2 : Hid (∀ (i : Nat) (a : Int) W, a = i → i ≤ 100000000 → Below w.heap.size w W → Calls Tryd.prog 35 #[.slice A n c, .int .i64 a] W (Quiet W (.tuple #[.int .i64 (n2at zs i), .bool (n2b zs i)]))) := fun i a W ha hi hW => by subst ha; have := n2_any A n c zs i W (hr.below hW) hB (by omega) (by omega); rwa [n2v_at] at this
  have HN4 : Hid (∀ (i : Nat) (a : Int) W, a = i → i ≤ 100000000 → Below w.heap.size w W → Calls Tryd.prog 36 #[.slice A n c, .int .i64 a] W (Quiet W (.tuple #[.int .u32 (n4at zs i), .bool (n4b zs i)]))) := fun i a W ha hi hW => by subst ha; have := n4_any A n c zs i W (hr.below hW) hB (by omega) (by omega); rwa [n4v_at] at this
  have h0 := HN2.out 0 0 w rfl (by omega) (Below.refl _ _)
  have H0 := Lib.hid h0
  clear h0
  have hl := hr.len
  have k2 := n2at_lt hB 2
  have hN : n2at zs 2 = (cN zs : Int) := by unfold cN; omega
  have hf : cFront zs = (decide (4 ≤ n) && decide (n2at zs 0 = 0) && decide (4 + 8 * cN zs ≤ n)) := by unfold cFront; rw [hl]
  have hb0 : n2b zs 0 = decide (2 ≤ n) := by unfold n2b; rw [hl]
  have hb2 : n2b zs 2 = decide (4 ≤ n) := by unfold n2b; rw [hl]
  have HL := Lib.hid hl
  have HB := Lib.hid hB
  have HF := Lib.hid hf
  have H2 := Lib.hid (fun W hW => HN2.out 2 2 W rfl (by omega) hW)
  rw [hb0] at H0
  rw [hb2, hN] at H2
  have hN16 : cN zs ≤ 65535 := by omega
  have RNo : Hid (∀ W, cFront zs = false → Below w.heap.size w W → RetFd w zs n (.returned (.tuple #[.slice none 0 0, .bool false, .int .i64 0, .bool false])) W) := fun W h1 h2 => retFd_no (by unfold cFind; rw [h1]; rfl) h2 _ _ _ _ _
  clear hf hb0 hb2 hN k2 hl hB HN2
  have hbr := Below.refl w.heap.size w
  cases hfr : cFront zs with
  | false =>
    have HT := Lib.hid (fun W hW => RNo.out W hfr hW)
    have hfr' := HF.out
    rw [hfr] at hfr'
    clear RNo HF hr
    generalize n2at zs 0 = v0 at *
    generalize cN zs = N at *
    go_enter Tryd.func17, Tryd.ntmps17
    go_wp2_with fail
    with_reducible refine H0.out.mono ?_
    rintro e w1 ⟨rfl, q1, hw1⟩
    have hb1 : Below w.heap.size w w1 := by rw [hw1]; exact below_drewN hbr q1
    clear hbr H0 hw1
    go_wp2_with fail
    with_reducible refine (H2.out _ hb1).mono ?_
    rintro e w2 ⟨rfl, q2, hw2⟩
    have hb2 : Below w.heap.size w w2 := by rw [hw2]; exact below_drewN hb1 q2
    have HT2 := Lib.hid (HT.out _ hb2)
    clear hb1 H2 hw2 hb2 HT HN4
    by_cases h1 : 2 ≤ n
    · have d1 : decide (2 ≤ n) = true := decide_eq_true h1
      by_cases h2 : 4 ≤ n
      · have d2 : decide (4 ≤ n) = true := decide_eq_true h2
        by_cases h3 : v0 = 0
        · have d3 : (v0 != 0) = false := by simp [h3]
          have d4 : n < 4 + 8 * N := by
            rw [d2, decide_eq_true h3] at hfr'
            simp at hfr'
            omega
          have d5 : (n : Int) < 4 + 8 * (N : Int) := by omega
          clear hfr' h3 h2 h1
          go_wp2
          exact bodyPost_ret (results4 Tryd.results17 _ _ rfl rfl rfl rfl) rfl HT2.out
        · have d3 : (v0 != 0) = true := by simp [h3]
          clear hfr' h3 h2 h1
          go_wp2
          exact bodyPost_ret (results4 Tryd.results17 _ _ rfl rfl rfl rfl) rfl HT2.out
      · have d2 : decide (4 ≤ n) = false := decide_eq_false h2
        clear hfr' h2 h1
        go_wp2
        exact bodyPost_ret (results4 Tryd.results17 _ _ rfl rfl rfl rfl) rfl HT2.out
    · have d1 : decide (2 ≤ n) = false := decide_eq_false h1
      clear hfr' h1
      go_wp2
      exact bodyPost_ret (results4 Tryd.results17 _ _ rfl rfl rfl rfl) rfl HT2.out
  | true =>
    have hfr' := HF.out
    rw [hfr] at hfr'
    have h3 : 4 ≤ n ∧ n2at zs 0 = 0 ∧ 4 + 8 * cN zs ≤ n := by
      have h := hfr'.symm
      simp only [Bool.and_eq_true, decide_eq_true_eq] at h
      exact ⟨h.1.1, h.1.2, h.2⟩
    obtain ⟨h4, h5, h6⟩ := h3
    have HCf : Hid (∀ wd v, cPick zs = some (wd, v) → cFind zs = if cOk zs wd v then some (wd, v.toNat) else none) := fun wd v h => by unfold cFind; rw [hfr, h]; rfl
    have HCn : Hid (cPick zs = none → cFind zs = none) := fun h => by unfold cFind; rw [hfr, h]; rfl
    rw [h5, decide_eq_true (show 2 ≤ n by omega)] at H0
    rw [decide_eq_true h4] at H2
    clear RNo HF hfr' hfr h5
    obtain ⟨fg, foff, rfl, hfg, _⟩ := hr.2 (by omega)
    go_enter Tryd.func17, Tryd.ntmps17
    go_wp2_with fail
    with_reducible refine H0.out.mono ?_
    rintro e w1 ⟨rfl, q1, hw1⟩
    have hb1 : Below w.heap.size w w1 := by rw [hw1]; exact below_drewN hbr q1
    clear hbr H0 hw1
    go_wp2_with fail
    with_reducible refine (H2.out _ hb1).mono ?_
    rintro e w2 ⟨rfl, q2, hw2⟩
    have hb2 : Below w.heap.size w w2 := by rw [hw2]; exact below_drewN hb1 q2
    have hs := FS.new w w2 hb2
    clear hb1 H2 hw2 hb2
    generalize hNN : cN zs = N at *
    have HNN := Lib.hid hNN
    clear hNN
    have hne4 : decide ((n : Int) < 4 + 8 * (N : Int)) = false := decide_eq_false (by omega)
    go_wp2
    clear hne4
    generalize ((((w2.alloc (.cells #[.int .u8 0, .int .u8 3, .int .u8 0, .int .u8 10] 5)).alloc (.cells #[.int .u8 0, .int .u8 0, .int .u8 0, .int .u8 4] 5)).alloc (.cells #[.int .u8 0, .int .u8 3, .int .u8 0, .int .u8 1] 5)).alloc (.cells #[.int .u8 0, .int .u8 0, .int .u8 0, .int .u8 3] 5)).alloc (.cells #[.slice (some ⟨w2.heap.size, 0, none⟩) 4 4, .slice (some ⟨w2.heap.size + 1, 0, none⟩) 4 4, .slice (some ⟨w2.heap.size + 1 + 1, 0, none⟩) 4 4, .slice (some ⟨w2.heap.size + 1 + 1 + 1, 0, none⟩) 4 4] 28) = W0 at hs ⊢
    generalize w2.heap.size + 1 + 1 + 1 + 1 = b4 at hs ⊢
    generalize w2.heap.size + 1 + 1 + 1 = b3 at hs ⊢
    generalize w2.heap.size + 1 + 1 = b2_ at hs ⊢
    generalize w2.heap.size + 1 = b1 at hs ⊢
    generalize w2.heap.size = b0 at hs ⊢
    go_loopw [54] (fun i wr => ∃ k : Nat, k ≤ 4 ∧ i = .int .i64 k ∧ Hid (NoK zs k) ∧ FS w wr b0 b1 b2_ b3 b4) (fun i _ => 4 - (intOf i).toNat)
    case atStart => exact ⟨0, by omega, rfl, Lib.hid (fun j x hj _ => absurd hj (by omega)), hs⟩
    case round =>
      clear hs
      obtain ⟨k, hk, rfl, HNo, hs⟩ := hrel
      by_cases hlt : k < 4
      · obtain ⟨x, hx⟩ := getP (l := ksL) (j := k) hlt
        obtain ⟨y, hy⟩ := getP (l := wantL) (j := k) hlt
        obtain ⟨bk, hbk⟩ := getP (l := [b0, b1, b2_, b3]) (j := k) hlt
        have hcell := hs.cell hbk
        have hwd := ksL_wd hx
        have Hwd := Lib.hid hwd
        have HX := Lib.hid hx
        have HY := Lib.hid hy
        have HBk := Lib.hid hbk
        have d4 : decide ((k : Int) < 4) = true := decide_eq_true (by omega)
        clear hwd hx hy hbk
        go_wp2
        clear hcell
        go_loopw [12] (fun i wr => ∃ i2 : Nat, i2 ≤ N ∧ i = .int .i64 i2 ∧ Hid (∀ j, j < i2 → cIs zs x.1 x.2 j = false) ∧ FS w wr b0 b1 b2_ b3 b4) (fun i _ => N - (intOf i).toNat)
        case atStart => exact ⟨0, by omega, rfl, Lib.hid (fun j hj => absurd hj (by omega)), hs⟩
        case round =>
          clear hs
          obtain ⟨i2, hi2, rfl, HIs, hs⟩ := hrel
          by_cases hlt2 : i2 < N
          · have HSm := Lib.hid (same_is HB.out HX.out HY.out (i := i2) (by have := HL.out; omega))
            have hp8 : Row wr (some ⟨fg, foff + (4 + 8 * i2), none⟩) 4 (cellsOf .u8 ((zs.drop (4 + 8 * i2)).take 4)) := by
              have h := ((hr.below hs.bel).drop (4 + 8 * i2)).take (k := 4) (by omega)
              rw [cellsOf_drop, cellsOf_take] at h
              simpa only [Option.map_some, Addr.add_lit] using h
            have hyr := hs.byt k bk y HBk.out HY.out
            have HSa := Lib.hid (same_any (some ⟨fg, foff + (4 + 8 * i2), none⟩) (some ⟨bk, 0, none⟩) 4 (c - (4 + 8 * i2)) 4 4 _ y wr hp8 hyr (by omega) (by omega))
            rw [HSm.out] at HSa
            have cc : ¬ c = 4 + 8 * i2 := by omega
            clear hp8 hyr HSm
            go_wp2_with fail
            rw [show 8 + 8 * i2 - (4 + 8 * i2) = 4 by omega]
            with_reducible refine HSa.out.mono ?_
            rintro e w3 ⟨rfl, q3, hw3⟩
            have hb3 : Below wr.heap.size wr w3 := by rw [hw3]; exact below_drewN (Below.refl _ _) q3
            have hs3 := hs.below hb3
            clear hs hb3 hw3 HSa cc
            cases hi : cIs zs x.1 x.2 i2 with
            | false =>
              have HI2 : Hid (∀ j, j < i2 + 1 → cIs zs x.1 x.2 j = false) := fun j hj => by
                rcases Nat.lt_or_ge j i2 with h | h
                · exact HIs.out j h
                · obtain rfl : j = i2 := by omega
                  exact hi
              clear hi
              go_wp2
              go_roundw
              case rel => exact ⟨i2 + 1, by omega, by go_num, HI2, hs3⟩
              case measure => simp [intOf]; omega
            | true =>
              have hfst := cFst_at (n := cN zs) (by rw [HNN.out]; exact hlt2) HIs.out hi
              have hpk := noK_pick HNo.out HX.out hfst
              rw [Hwd.out] at hpk
              have hc0 := HCf.out _ _ hpk
              have hvb := cFst_lt HB.out hfst
              have hv4 := HN4.out (8 + 8 * i2) (8 + 8 * (i2 : Int)) w3 (by omega) (by omega) hs3.bel
              have hcv0 : n4at zs (8 + 8 * i2) = cVal zs i2 := rfl
              rw [hcv0] at hv4
              obtain ⟨v, hv⟩ : ∃ v : Nat, cVal zs i2 = (v : Int) := ⟨(cVal zs i2).toNat, by omega⟩
              rw [hv] at hv4 hc0 hvb
              rw [Int.toNat_natCast] at hc0
              have HC := Lib.hid hc0
              have HV4 := Lib.hid hv4
              clear hfst hpk hc0 hv4 hcv0 hv hi HCf HCn HN4 HIs HNo HX HY HBk Hwd
              generalize n4b zs (8 + 8 * i2) = okb at *
              go_wp2_with fail
              with_reducible refine HV4.out.mono ?_
              rintro e w4 ⟨rfl, q4, hw4⟩
              have hb4 : Below w3.heap.size w3 w4 := by rw [hw4]; exact below_drewN (Below.refl _ _) q4
              have hs4 := hs3.below hb4
              clear hs3 hb4 hw4 HV4
              by_cases hvn : v ≤ n
              · by_cases hcv : c = v
                · by_cases hk2 : k < 2
                  · rw [decide_eq_true hk2] at HC
                    have hrw : Row w4 (some ⟨fg, foff, none⟩) (n - v) (cellsOf .u8 (zs.drop v)) := ⟨by rw [cellsOf_length, List.length_drop, HL.out], fun h => absurd h (by omega)⟩
                    have HR := Lib.hid (rright10_any (some ⟨fg, foff, none⟩) (n - v) 0 (zs.drop v) w4 hrw (drop_bytes HB.out _) (by omega))
                    have HC2 : Hid (cFind zs = if gRight (zs.drop v) then some (true, v) else none) := by show _ = _; rw [HC.out]; unfold cOk; rw [HL.out, decide_eq_true (by omega)]; simp
                    go_wp2_with fail
                    with_reducible refine HR.out.mono ?_
                    rintro e w5 ⟨rfl, hb5⟩
                    have hs5 := hs4.below hb5
                    have hrw5 := hrw.below hb5
                    have hbel := hs5.bel
                    have HRet : Hid (RetFd w zs n (.returned (.tuple #[.slice (some ⟨fg, foff, none⟩) (n - v) 0, .bool true, .int .i64 (gRV (zs.drop v)), .bool (gRight (zs.drop v))])) w5) := by
                      refine ⟨hbel, _, _, _, true, gRV (zs.drop v), gRight (zs.drop v), rfl, by rw [HC2.out]; cases gRight (zs.drop v) <;> rfl, fun wd' v' hv' => ?_⟩
                      rw [HC2.out] at hv'
                      cases hg : gRight (zs.drop v) with
                      | false => rw [hg] at hv'; simp at hv'
                      | true =>
                        rw [hg] at hv'
                        simp at hv'
                        obtain ⟨rfl, rfl⟩ := hv'
                        exact ⟨rfl, by unfold gRV cCnt; rw [hg]; rfl, hrw5, by omega, by omega⟩
                    clear hs4 hs5 hrw hrw5 hbel HR hb5 HC HC2
                    generalize gRight (zs.drop v) = rb at *
                    generalize gRV (zs.drop v) = rn at *
                    go_wp2
                    exact bodyPost_ret (results4 Tryd.results17 _ _ rfl rfl rfl rfl) rfl HRet.out
                  · rw [decide_eq_false hk2] at HC
                    have hrw : Row w4 (some ⟨fg, foff, none⟩) (n - v) (cellsOf .u8 (zs.drop v)) := ⟨by rw [cellsOf_length, List.length_drop, HL.out], fun h => absurd h (by omega)⟩
                    have HR := Lib.hid (rright9_any (some ⟨fg, foff, none⟩) (n - v) 0 (zs.drop v) w4 hrw (drop_bytes HB.out _) (by omega) (by omega))
                    have HC2 : Hid (cFind zs = if sRight (zs.drop v) then some (false, v) else none) := by show _ = _; rw [HC.out]; unfold cOk; rw [HL.out, decide_eq_true (by omega)]; simp
                    go_wp2_with fail
                    with_reducible refine HR.out.mono ?_
                    rintro e w5 ⟨rfl, hb5⟩
                    have hs5 := hs4.below hb5
                    have hrw5 := hrw.below hb5
                    have hbel := hs5.bel
                    have HRet : Hid (RetFd w zs n (.returned (.tuple #[.slice (some ⟨fg, foff, none⟩) (n - v) 0, .bool false, .int .i64 (sRV (zs.drop v)), .bool (sRight (zs.drop v))])) w5) := by
                      refine ⟨hbel, _, _, _, false, sRV (zs.drop v), sRight (zs.drop v), rfl, by rw [HC2.out]; cases sRight (zs.drop v) <;> rfl, fun wd' v' hv' => ?_⟩
                      rw [HC2.out] at hv'
                      cases hg : sRight (zs.drop v) with
                      | false => rw [hg] at hv'; simp at hv'
                      | true =>
                        rw [hg] at hv'
                        simp at hv'
                        obtain ⟨rfl, rfl⟩ := hv'
                        exact ⟨rfl, by unfold sRV cCnt; rw [hg]; rfl, hrw5, by omega, by omega⟩
                    clear hs4 hs5 hrw hrw5 hbel HR hb5 HC HC2
                    generalize sRight (zs.drop v) = rb at *
                    generalize sRV (zs.drop v) = rn at *
                    go_wp2
                    exact bodyPost_ret (results4 Tryd.results17 _ _ rfl rfl rfl rfl) rfl HRet.out
                · by_cases hk2 : k < 2
                  · rw [decide_eq_true hk2] at HC
                    have hrw : Row w4 (some ⟨fg, foff + v, none⟩) (n - v) (cellsOf .u8 (zs.drop v)) := (by have h := (hr.below hs4.bel).drop v; rw [cellsOf_drop] at h; simpa only [Option.map_some, Addr.add_lit] using h)
                    have HR := Lib.hid (rright10_any (some ⟨fg, foff + v, none⟩) (n - v) (c - v) (zs.drop v) w4 hrw (drop_bytes HB.out _) (by omega))
                    have HC2 : Hid (cFind zs = if gRight (zs.drop v) then some (true, v) else none) := by show _ = _; rw [HC.out]; unfold cOk; rw [HL.out, decide_eq_true (by omega)]; simp
                    go_wp2_with fail
                    with_reducible refine HR.out.mono ?_
                    rintro e w5 ⟨rfl, hb5⟩
                    have hs5 := hs4.below hb5
                    have hrw5 := hrw.below hb5
                    have hbel := hs5.bel
                    have HRet : Hid (RetFd w zs n (.returned (.tuple #[.slice (some ⟨fg, foff + v, none⟩) (n - v) (c - v), .bool true, .int .i64 (gRV (zs.drop v)), .bool (gRight (zs.drop v))])) w5) := by
                      refine ⟨hbel, _, _, _, true, gRV (zs.drop v), gRight (zs.drop v), rfl, by rw [HC2.out]; cases gRight (zs.drop v) <;> rfl, fun wd' v' hv' => ?_⟩
                      rw [HC2.out] at hv'
                      cases hg : gRight (zs.drop v) with
                      | false => rw [hg] at hv'; simp at hv'
                      | true =>
                        rw [hg] at hv'
                        simp at hv'
                        obtain ⟨rfl, rfl⟩ := hv'
                        exact ⟨rfl, by unfold gRV cCnt; rw [hg]; rfl, hrw5, by omega, by omega⟩
                    clear hs4 hs5 hrw hrw5 hbel HR hb5 HC HC2
                    generalize gRight (zs.drop v) = rb at *
                    generalize gRV (zs.drop v) = rn at *
                    go_wp2
                    exact bodyPost_ret (results4 Tryd.results17 _ _ rfl rfl rfl rfl) rfl HRet.out
                  · rw [decide_eq_false hk2] at HC
                    have hrw : Row w4 (some ⟨fg, foff + v, none⟩) (n - v) (cellsOf .u8 (zs.drop v)) := (by have h := (hr.below hs4.bel).drop v; rw [cellsOf_drop] at h; simpa only [Option.map_some, Addr.add_lit] using h)
                    have HR := Lib.hid (rright9_any (some ⟨fg, foff + v, none⟩) (n - v) (c - v) (zs.drop v) w4 hrw (drop_bytes HB.out _) (by omega) (by omega))
                    have HC2 : Hid (cFind zs = if sRight (zs.drop v) then some (false, v) else none) := by show _ = _; rw [HC.out]; unfold cOk; rw [HL.out, decide_eq_true (by omega)]; simp
                    go_wp2_with fail
                    with_reducible refine HR.out.mono ?_
                    rintro e w5 ⟨rfl, hb5⟩
                    have hs5 := hs4.below hb5
                    have hrw5 := hrw.below hb5
                    have hbel := hs5.bel
                    have HRet : Hid (RetFd w zs n (.returned (.tuple #[.slice (some ⟨fg, foff + v, none⟩) (n - v) (c - v), .bool false, .int .i64 (sRV (zs.drop v)), .bool (sRight (zs.drop v))])) w5) := by
                      refine ⟨hbel, _, _, _, false, sRV (zs.drop v), sRight (zs.drop v), rfl, by rw [HC2.out]; cases sRight (zs.drop v) <;> rfl, fun wd' v' hv' => ?_⟩
                      rw [HC2.out] at hv'
                      cases hg : sRight (zs.drop v) with
                      | false => rw [hg] at hv'; simp at hv'
                      | true =>
                        rw [hg] at hv'
                        simp at hv'
                        obtain ⟨rfl, rfl⟩ := hv'
                        exact ⟨rfl, by unfold sRV cCnt; rw [hg]; rfl, hrw5, by omega, by omega⟩
                    clear hs4 hs5 hrw hrw5 hbel HR hb5 HC HC2
                    generalize sRight (zs.drop v) = rb at *
                    generalize sRV (zs.drop v) = rn at *
                    go_wp2
                    exact bodyPost_ret (results4 Tryd.results17 _ _ rfl rfl rfl rfl) rfl HRet.out
              · have hbel := hs4.bel
                have HT : Hid (cFind zs = none) := by show _ = _; rw [HC.out]; unfold cOk; rw [HL.out, decide_eq_false (by omega)]; rfl
                clear HC hs4
                go_wp2
                exact bodyPost_ret (results4 Tryd.results17 _ _ rfl rfl rfl rfl) rfl (retFd_no HT.out hbel _ _ _ _ _)
          · obtain rfl : i2 = N := by omega
            have hfst := cFst_of_none (k := i2) HIs.out
            rw [← HNN.out] at hfst
            have HNo2 := Lib.hid (noK_succ HNo.out HX.out hfst)
            clear hfst HIs HNo HX HY HBk Hwd HCf HCn HN4
            go_wp2
            go_roundw
            case rel => exact ⟨k + 1, by omega, by go_num, HNo2, hs⟩
            case measure => simp [intOf]; omega
      · obtain rfl : k = 4 := by omega
        have HT := Lib.hid (HCn.out (noK_none HNo.out))
        have hbel := hs.bel
        clear HCf HCn HN4 HNo hs
        go_wp2
        exact bodyPost_ret (results4 Tryd.results17 _ _ rfl rfl rfl rfl) rfl (retFd_no HT.out hbel _ _ _ _ _)

end Go.Proofs.YthkaeimpflggjaaDoor

/- The document's table of groups, as a contract over this seat's translation. -/
namespace Go.Proofs.YthkaeimpflggjaaDoor
open Go.RowKit
set_option linter.unusedVariables false

theorem atQ {w : World} {A : Option Addr} {n : Nat} {l : List Pr} {j : Nat} {p : Pr} (h : RowS encQ 2 w A n l) (hj : l[j]? = some p) :
    ∃ g off, A = some ⟨g, off, none⟩ ∧ g < w.heap.size ∧ w.cell? ⟨g, off + j * 2, none⟩ = some (.int .i64 p.code) ∧ w.cell? ⟨g, off + j * 2 + 1, none⟩ = some (.int .i64 p.glyph) := by
  obtain ⟨g, off, e, hg, hc⟩ := h.at encQ_len (by omega) hj
  exact ⟨g, off, e, hg, hc 0 _ rfl, hc 1 _ rfl⟩

/-- Nothing goes on from what stands ahead of place i. -/
def bnd (fol : Pr → Pr → Bool) (l : List Pr) (i : Nat) : Prop := ∀ j q p, i = j + 1 → l[j]? = some q → l[j + 1]? = some p → fol q p = false

theorem runs_begin {fol : Pr → Pr → Bool} {l : List Pr} {i : Nat} {p : Pr} (hb : bnd fol l i) (h : l[i]? = some p) : runsF fol (l.take (i + 1)) = runsF fol (l.take i) ++ [⟨p.code, p.code, p.glyph⟩] := by
  cases i with
  | zero => rw [runs_first fol h]; rfl
  | succ j =>
    obtain ⟨q, hq⟩ := getP (l := l) (j := j) (by have := (List.getElem?_eq_some_iff.1 h).1; omega)
    exact (runs_step fol hq h).1 (hb j q p rfl hq h)

theorem runs_go {fol : Pr → Pr → Bool} {l : List Pr} {j : Nat} {q p : Pr} {R : List Rn} {a b g : Int} (hq : l[j]? = some q) (hp : l[j + 1]? = some p) (hf : fol q p = true) (h : runsF fol (l.take (j + 1)) = R ++ [⟨a, b, g⟩]) : runsF fol (l.take (j + 1 + 1)) = R ++ [⟨a, p.code, g⟩] := by
  obtain ⟨s, x, e1, e2⟩ := (runs_step fol hq hp).2 hf
  rw [h] at e1
  obtain ⟨rfl, hx⟩ := List.append_inj' e1 rfl
  obtain ⟨rfl, _⟩ := List.cons.inj hx
  exact e2

set_option maxRecDepth 100000 in
set_option maxHeartbeats 4000000 in
theorem rbuild10_any (A : Option Addr) (n c : Nat) (l : List Pr) (w : World) (hr : RowS encQ 2 w A n l) (hn : n ≤ 1000000) (hok : ∀ p ∈ l, 0 ≤ p.code ∧ p.code ≤ 1114111 ∧ 0 ≤ p.glyph ∧ p.glyph ≤ 65535) :
    Calls Tryd.prog 31 #[.slice A n c] w (RetB w (gBytes (runsF folG l))) := by
  have Hn := Lib.hid hr.len
  have Hok := Lib.hid hok
  clear hok
  go_enter Tryd.func31, Tryd.ntmps31
  go_wp2
  go_loopw [3, 4, 5] (fun v t s wr => ∃ (i m : Nat) (Ab : Option Addr) (nb cb : Nat), i ≤ n ∧ s = .int .i64 i ∧ t = .int .i64 m ∧ v = .slice Ab nb cb ∧ Hid ((runsF folG (l.take i)).length = m ∧ bnd folG l i) ∧ OwnB wr w.heap.size Ab nb cb ((runsF folG (l.take i)).flatMap gBody) ∧ Below w.heap.size w wr) (fun _ _ s _ => n - (intOf s).toNat)
  case atStart => exact ⟨0, 0, none, 0, 0, Nat.zero_le _, rfl, rfl, rfl, Lib.hid ⟨rfl, fun j q p h => by omega⟩, Own.nil _ _ _ _, Below.refl _ _⟩
  case round =>
    obtain ⟨i, m, Ab, nb, cb, hin, rfl, rfl, rfl, hI, hown, hb⟩ := hrel
    have hmi : m ≤ i := by have h1 := hI.out.1; have h2 := runsF_len folG (l.take i); rw [List.length_take] at h2; omega
    have hlb : ((runsF folG (l.take i)).flatMap gBody).length = 12 * m := by rw [gFlat_len, hI.out.1]
    by_cases hlt : i < n
    · obtain ⟨p, hp⟩ := getP (l := l) (j := i) (by have := Hn.out; omega)
      have hbeg := runs_begin hI.out.2 hp
      have HBeg := Lib.hid hbeg
      have HM := Lib.hid hI.out.1
      have Hp := Lib.hid hp
      have hpo := Hok.out p (List.mem_of_getElem? hp)
      clear hbeg hI hp
      generalize runsF folG (l.take i) = R at *
      generalize hbd : R.flatMap gBody = bd at *
      have HBd := Lib.hid hbd
      clear hbd
      go_wp2
      go_loopw [6] (fun s wr2 => ∃ (j : Nat) (q : Pr), i ≤ j ∧ j < n ∧ s = .int .i64 j ∧ Hid (l[j]? = some q ∧ runsF folG (l.take (j + 1)) = R ++ [⟨p.code, q.code, p.glyph⟩]) ∧ OwnB wr2 w.heap.size Ab nb cb bd ∧ Below w.heap.size w wr2) (fun s _ => n - (intOf s).toNat)
      case atStart => exact ⟨i, p, Nat.le_refl _, hlt, rfl, Lib.hid ⟨Hp.out, HBeg.out⟩, hown, hb⟩
      case round =>
        clear hown hb HBeg
        obtain ⟨j, q, hij, hjn, rfl, hJ, hown, hb⟩ := hrel
        obtain ⟨g, off, rfl, hg, q0, q1⟩ := atQ (hr.below hb) hJ.out.1
        have hqo := Hok.out q (List.mem_of_getElem? hJ.out.1)
        have HC : Hid (∀ W : World, Below w.heap.size w W → W.cell? ⟨g, off + i * 2, none⟩ = some (.int .i64 p.code) ∧ W.cell? ⟨g, off + j * 2, none⟩ = some (.int .i64 q.code) ∧ W.cell? ⟨g, off + i * 2 + 1, none⟩ = some (.int .i64 p.glyph)) := by
          show ∀ _, _
          intro W hW
          obtain ⟨g1, o1, e1, _, x0, x1⟩ := atQ (hr.below hW) Hp.out
          obtain ⟨g2, o2, e2, _, y0, y1⟩ := atQ (hr.below hW) hJ.out.1
          simp only [Option.some.injEq, Addr.mk.injEq, and_true] at e1 e2
          obtain ⟨rfl, rfl⟩ := e1
          obtain ⟨rfl, rfl⟩ := e2
          exact ⟨x0, y0, x1⟩
        have HFin : Hid (∀ (hbn : bnd folG l (j + 1)), runsF folG (l.take (j + 1)) = R ++ [⟨p.code, q.code, p.glyph⟩] ∧ bnd folG l (j + 1)) := fun hbn => ⟨hJ.out.2, hbn⟩
        by_cases hj1 : j + 1 < n
        · obtain ⟨x, hx⟩ := getP (l := l) (j := j + 1) (by have := Hn.out; omega)
          obtain ⟨g3, o3, e3, _, z0, z1⟩ := atQ (hr.below hb) hx
          simp only [Option.some.injEq, Addr.mk.injEq, and_true] at e3
          obtain ⟨rfl, rfl⟩ := e3
          have hxo := Hok.out x (List.mem_of_getElem? hx)
          have HGo : Hid (folG q x = true → l[j + 1]? = some x ∧ runsF folG (l.take (j + 1 + 1)) = R ++ [⟨p.code, x.code, p.glyph⟩]) := fun hf => ⟨hx, runs_go hJ.out.1 hx hf hJ.out.2⟩
          have HStop : Hid (folG q x = false → runsF folG (l.take (j + 1)) = R ++ [⟨p.code, q.code, p.glyph⟩] ∧ bnd folG l (j + 1)) := fun hf => HFin.out (fun j' q' p' e hq' hp' => by
            obtain rfl : j = j' := by omega
            rw [hJ.out.1] at hq'
            rw [hx] at hp'
            cases hq'
            cases hp'
            exact hf)
          clear hx hJ HFin
          obtain ⟨pc, pg⟩ := p
          obtain ⟨qc, qg⟩ := q
          obtain ⟨xc, xg⟩ := x
          simp only at *
          have W1 : IntKind.i64.wrap ((j : Int) + 1) = (j : Int) + 1 := IntWalk.i64_in _ (by omega)
          have W2 : IntKind.i64.wrap (qc + 1) = qc + 1 := IntWalk.i64_in _ (by omega)
          have W3 : IntKind.i64.wrap (qg + 1) = qg + 1 := IntWalk.i64_in _ (by omega)
          have D1 : decide ((j : Int) + 1 < (n : Int)) = true := decide_eq_true (by omega)
          have D2 : (j : Int) + 1 < (n : Int) := by omega
          have D3 : (0 : Int) ≤ (j : Int) + 1 := by omega
          have T1 : ((j : Int) + 1).toNat = j + 1 := by omega
          by_cases h1 : xc = qc + 1
          · have b1 : (xc == qc + 1) = true := by simp [h1]
            by_cases h2 : xg = qg + 1
            · have e2 : (xg == qg + 1) = true := by simp [h2]
              have HN := Lib.hid (HGo.out (by simp [folG, h1, h2]))
              clear h1 h2 HGo HStop HC
              go_wp2_with fail
              go_quiet (fail)
              go_wp2
              go_roundw
              case rel => exact ⟨j + 1, ⟨xc, xg⟩, by omega, by omega, by go_num, HN, hown.drewN nq, below_drewN hb nq⟩
              case measure => simp [intOf]; omega
            · have e2 : (xg == qg + 1) = false := by simp [h2]
              have HN := Lib.hid (HStop.out (by simp [folG, h2]))
              clear h1 h2 HGo HStop
              go_wp2_with fail
              go_quiet (fail)
              have hsz := hb.size
              have hB := below_drewN hb nq
              have hown2 := hown.drewN nq
              go_upto_region 8 with fail
              generalize (wr.drewN nq) = V at *
              have hgt := (Got.nil V).put (c := cb) hown2.row
              replace hgt := hgt.drew
              replace hB := hB.drew
              have F1 : IntKind.u32.wrap pc = pc := IntWalk.u32_in _ (by omega)
              have F2 : IntKind.u32.wrap qc = qc := IntWalk.u32_in _ (by omega)
              have F3 : IntKind.u32.wrap pg = pg := IntWalk.u32_in _ (by omega)
              clear hown hown2 hb q0 q1
              go_region_held3 (fun w' => w'.cell? ⟨g, off + i * 2, none⟩ = some (.int .i64 pc) ∧ w'.cell? ⟨g, off + j * 2, none⟩ = some (.int .i64 qc) ∧ w'.cell? ⟨g, off + i * 2 + 1, none⟩ = some (.int .i64 pg))
                (first | exact HC.out _ hB | exact HC.out _ (hB.alloc hB.size _))
                (first
                  | (go_at_call 21; refine (b4_any _ _ (by omega) (by omega)).mono ?_; rintro e w2 ⟨A2, n2, c2, rfl, o, hb2⟩; replace hgt := hgt.add (c := c2) hb2 o; replace hB := hB.trans (hb2.mono hB.size); clear o hb2)
                  | (go_at_call 19; refine (joinN_any _ _ _ 4 _ rfl rfl rfl hgt (by omega) (by simp [joined, b4, b2]; omega)).mono ?_; rintro e w2 ⟨A2, n2, c2, rfl, o, hb2⟩; simp only [joined, List.nil_append, List.cons_append, List.flatMap_cons, List.flatMap_nil, List.append_nil] at o; replace o := o.mono hB.size; clear hgt; replace hB := hB.trans (hb2.mono hB.size); clear hb2))
              all_goals
                have HQ : Hid (bd ++ (b4 pc ++ (b4 qc ++ b4 pg)) = (runsF folG (l.take (j + 1))).flatMap gBody) := by
                  show _ = _
                  rw [HN.out.1, List.flatMap_append, HBd.out]
                  rfl
                rw [HQ.out] at o
                go_wp2
                go_roundw
                case rel => exact ⟨j + 1, m + 1, A2, n2, c2, by omega, by go_num, by go_num, rfl, Lib.hid ⟨by rw [HN.out.1, List.length_append, HM.out]; rfl, HN.out.2⟩, o, hB⟩
                case measure => simp [intOf]; omega
          · have b1 : (xc == qc + 1) = false := by simp [h1]
            have HN := Lib.hid (HStop.out (by simp [folG, h1]))
            clear h1 HGo HStop
            go_wp2_with fail
            go_quiet (fail)
            have hsz := hb.size
            have hB := below_drewN hb nq
            have hown2 := hown.drewN nq
            go_upto_region 8 with fail
            generalize (wr.drewN nq) = V at *
            have hgt := (Got.nil V).put (c := cb) hown2.row
            replace hgt := hgt.drew
            replace hB := hB.drew
            have F1 : IntKind.u32.wrap pc = pc := IntWalk.u32_in _ (by omega)
            have F2 : IntKind.u32.wrap qc = qc := IntWalk.u32_in _ (by omega)
            have F3 : IntKind.u32.wrap pg = pg := IntWalk.u32_in _ (by omega)
            clear hown hown2 hb q0 q1
            go_region_held3 (fun w' => w'.cell? ⟨g, off + i * 2, none⟩ = some (.int .i64 pc) ∧ w'.cell? ⟨g, off + j * 2, none⟩ = some (.int .i64 qc) ∧ w'.cell? ⟨g, off + i * 2 + 1, none⟩ = some (.int .i64 pg))
              (first | exact HC.out _ hB | exact HC.out _ (hB.alloc hB.size _))
              (first
                | (go_at_call 21; refine (b4_any _ _ (by omega) (by omega)).mono ?_; rintro e w2 ⟨A2, n2, c2, rfl, o, hb2⟩; replace hgt := hgt.add (c := c2) hb2 o; replace hB := hB.trans (hb2.mono hB.size); clear o hb2)
                | (go_at_call 19; refine (joinN_any _ _ _ 4 _ rfl rfl rfl hgt (by omega) (by simp [joined, b4, b2]; omega)).mono ?_; rintro e w2 ⟨A2, n2, c2, rfl, o, hb2⟩; simp only [joined, List.nil_append, List.cons_append, List.flatMap_cons, List.flatMap_nil, List.append_nil] at o; replace o := o.mono hB.size; clear hgt; replace hB := hB.trans (hb2.mono hB.size); clear hb2))
            all_goals
              have HQ : Hid (bd ++ (b4 pc ++ (b4 qc ++ b4 pg)) = (runsF folG (l.take (j + 1))).flatMap gBody) := by
                show _ = _
                rw [HN.out.1, List.flatMap_append, HBd.out]
                rfl
              rw [HQ.out] at o
              go_wp2
              go_roundw
              case rel => exact ⟨j + 1, m + 1, A2, n2, c2, by omega, by go_num, by go_num, rfl, Lib.hid ⟨by rw [HN.out.1, List.length_append, HM.out]; rfl, HN.out.2⟩, o, hB⟩
              case measure => simp [intOf]; omega
        · have HN := Lib.hid (HFin.out (fun j' q' p' e hq' hp' => by
            have := (List.getElem?_eq_some_iff.1 hp').1
            have := Hn.out
            omega))
          clear hJ HFin
          obtain ⟨pc, pg⟩ := p
          obtain ⟨qc, qg⟩ := q
          simp only at *
          have W1 : IntKind.i64.wrap ((j : Int) + 1) = (j : Int) + 1 := IntWalk.i64_in _ (by omega)
          have D1 : decide ((j : Int) + 1 < (n : Int)) = false := decide_eq_false (by omega)
          have D2 : ¬ (j : Int) + 1 < (n : Int) := by omega
          go_wp2_with fail
          go_quiet (fail)
          have hsz := hb.size
          have hB := below_drewN hb nq
          have hown2 := hown.drewN nq
          go_upto_region 8 with fail
          generalize (wr.drewN nq) = V at *
          have hgt := (Got.nil V).put (c := cb) hown2.row
          replace hgt := hgt.drew
          replace hB := hB.drew
          have F1 : IntKind.u32.wrap pc = pc := IntWalk.u32_in _ (by omega)
          have F2 : IntKind.u32.wrap qc = qc := IntWalk.u32_in _ (by omega)
          have F3 : IntKind.u32.wrap pg = pg := IntWalk.u32_in _ (by omega)
          clear hown hown2 hb q0 q1
          go_region_held3 (fun w' => w'.cell? ⟨g, off + i * 2, none⟩ = some (.int .i64 pc) ∧ w'.cell? ⟨g, off + j * 2, none⟩ = some (.int .i64 qc) ∧ w'.cell? ⟨g, off + i * 2 + 1, none⟩ = some (.int .i64 pg))
            (first | exact HC.out _ hB | exact HC.out _ (hB.alloc hB.size _))
            (first
              | (go_at_call 21; refine (b4_any _ _ (by omega) (by omega)).mono ?_; rintro e w2 ⟨A2, n2, c2, rfl, o, hb2⟩; replace hgt := hgt.add (c := c2) hb2 o; replace hB := hB.trans (hb2.mono hB.size); clear o hb2)
              | (go_at_call 19; refine (joinN_any _ _ _ 4 _ rfl rfl rfl hgt (by omega) (by simp [joined, b4, b2]; omega)).mono ?_; rintro e w2 ⟨A2, n2, c2, rfl, o, hb2⟩; simp only [joined, List.nil_append, List.cons_append, List.flatMap_cons, List.flatMap_nil, List.append_nil] at o; replace o := o.mono hB.size; clear hgt; replace hB := hB.trans (hb2.mono hB.size); clear hb2))
          all_goals
            have HQ : Hid (bd ++ (b4 pc ++ (b4 qc ++ b4 pg)) = (runsF folG (l.take (j + 1))).flatMap gBody) := by
              show _ = _
              rw [HN.out.1, List.flatMap_append, HBd.out]
              rfl
            rw [HQ.out] at o
            go_wp2
            go_roundw
            case rel => exact ⟨j + 1, m + 1, A2, n2, c2, by omega, by go_num, by go_num, rfl, Lib.hid ⟨by rw [HN.out.1, List.length_append, HM.out]; rfl, HN.out.2⟩, o, hB⟩
            case measure => simp [intOf]; omega
    · obtain rfl : i = n := by omega
      have HE : Hid (runsF folG (l.take i) = runsF folG l) := by show _ = _; rw [List.take_of_length_le (by have := Hn.out; omega)]
      have HM := Lib.hid hI.out.1
      rw [HE.out] at hown hlb
      rw [HE.out] at HM
      clear hI HE
      have hsz := hb.size
      have F1 : IntKind.u32.wrap (16 + 12 * (m : Int)) = 16 + 12 * (m : Int) := IntWalk.u32_in _ (by omega)
      have F2 : IntKind.u32.wrap (m : Int) = (m : Int) := IntWalk.u32_in _ (by omega)
      generalize runsF folG l = rs at *
      generalize hbd : rs.flatMap gBody = bd at *
      have HBd := Lib.hid hbd
      clear hbd
      go_wp2_with fail
      refine (b2_any 12 _ (by omega) (by omega)).mono ?_
      rintro e w1 ⟨A1, n1, c1, rfl, o1, hb1⟩
      have hgt := (Got.nil wr).add (c := c1) hb1 o1
      have hB := hb.trans (hb1.mono hb.size)
      have ho := hown.below hb1
      clear o1 hb1 hb hown
      go_wp2_with fail
      refine (b2_any 0 _ (by omega) (by omega)).mono ?_
      rintro e w2 ⟨A2, n2, c2, rfl, o2, hb2⟩
      replace hgt := hgt.add (c := c2) hb2 o2
      replace hB := hB.trans (hb2.mono hB.size)
      replace ho := ho.below hb2
      clear o2 hb2
      go_wp2_with fail
      refine (b4_any (16 + 12 * (m : Int)) _ (by omega) (by omega)).mono ?_
      rintro e w3 ⟨A3, n3, c3, rfl, o3, hb3⟩
      replace hgt := hgt.add (c := c3) hb3 o3
      replace hB := hB.trans (hb3.mono hB.size)
      replace ho := ho.below hb3
      clear o3 hb3
      go_wp2_with fail
      refine (b4_any 0 _ (by omega) (by omega)).mono ?_
      rintro e w4 ⟨A4, n4, c4, rfl, o4, hb4⟩
      replace hgt := hgt.add (c := c4) hb4 o4
      replace hB := hB.trans (hb4.mono hB.size)
      replace ho := ho.below hb4
      clear o4 hb4
      go_wp2_with fail
      refine (b4_any (m : Int) _ (by omega) (by omega)).mono ?_
      rintro e w5 ⟨A5, n5, c5, rfl, o5, hb5⟩
      replace hgt := hgt.add (c := c5) hb5 o5
      replace hB := hB.trans (hb5.mono hB.size)
      replace ho := ho.below hb5
      clear o5 hb5
      replace hgt := hgt.put (c := cb) ho.row
      have HJ := Lib.hid (joinN_any w5 _ _ 6 _ rfl rfl rfl hgt (by omega) (by simp [joined, b4, b2]; omega))
      simp only [joined, List.nil_append, List.cons_append, List.flatMap_cons, List.flatMap_nil, List.append_nil, List.map_cons, List.map_nil, BsV.val] at HJ
      clear hgt ho
      go_wp2_with fail
      refine HJ.out.mono ?_
      rintro e w6 ⟨A6, n6, c6, rfl, o6, hb6⟩
      have HG : Hid (b2 12 ++ (b2 0 ++ (b4 (16 + 12 * (m : Int)) ++ (b4 0 ++ (b4 (m : Int) ++ bd)))) = gBytes rs) := by
        show _ = _
        rw [gBytes, gHead, HM.out, Int.mul_comm (m : Int) 12, HBd.out]
        simp
      rw [HG.out] at o6
      go_wp2
      go_ret
      exact ⟨A6, n6, c6, rfl, o6.mono hB.size, hB.trans (hb6.mono hB.size)⟩

end Go.Proofs.YthkaeimpflggjaaDoor

/- The document's Build of segments, as a contract over this seat's translation. -/
namespace Go.Proofs.YthkaeimpflggjaaDoor
open Go.RowKit
set_option linter.unusedVariables false

theorem Tryd.ai3info : (Tryd.prog.info? 109).map (fun i => (i.zero, i.size, i.bytes)) = some (some (.agg #[.int .i64 0, .int .i64 0, .int .i64 0]), 3, 24) := by kernel_rfl

def encT (x : Rn) : List Value := [.int .i64 x.a, .int .i64 x.b, .int .i64 ((x.g - x.a) % 65536)]
theorem encT_len (x : Rn) : (encT x).length = 3 := rfl
theorem encT_one (x : Rn) : ∀ u ∈ encT x, u.oneCell' = true := by intro u hu; simp [encT] at hu; rcases hu with rfl | rfl | rfl <;> rfl
theorem flat_endT (s : List Rn) (x : Rn) (c : Int) : flat encT (s ++ [(⟨x.a, c, x.g⟩ : Rn)]) = (flat encT (s ++ [x])).set (s.length * 3 + 1) (.int .i64 c) := by
  rw [← flat_append, ← flat_append, List.set_append_right _ _ (by rw [flat_length encT_len]; omega), flat_length encT_len, Nat.add_sub_cancel_left]
  rfl
theorem atT {w : World} {A : Option Addr} {n : Nat} {l : List Rn} {j : Nat} {x : Rn} (h : RowS encT 3 w A n l) (hj : l[j]? = some x) :
    ∃ g off, A = some ⟨g, off, none⟩ ∧ g < w.heap.size ∧ w.cell? ⟨g, off + j * 3, none⟩ = some (.int .i64 x.a) ∧ w.cell? ⟨g, off + j * 3 + 1, none⟩ = some (.int .i64 x.b) ∧ w.cell? ⟨g, off + j * 3 + 2, none⟩ = some (.int .i64 ((x.g - x.a) % 65536)) := by
  obtain ⟨g, off, e, hg, hc⟩ := h.at encT_len (by omega) hj
  exact ⟨g, off, e, hg, hc 0 _ rfl, hc 1 _ rfl, hc 2 _ rfl⟩

/-- What is asked of pairs. -/
def OkQ5 (l : List Pr) : Prop := ∀ p ∈ l, 0 ≤ p.code ∧ p.code ≤ 65534 ∧ 0 ≤ p.glyph ∧ p.glyph ≤ 65535

/-- A column of runs. -/
def colR (val : Rn → Int) (l : List Rn) : List Int := l.flatMap fun x => b2 (val x)
theorem colR_len (val : Rn → Int) (l : List Rn) : (colR val l).length = 2 * l.length := by
  induction l with
  | nil => rfl
  | cons x r ih => unfold colR at ih ⊢; rw [List.flatMap_cons, List.length_append, ih]; simp [b2]; omega
theorem colR_snoc (val : Rn → Int) {l : List Rn} {k : Nat} {x : Rn} (h : l[k]? = some x) : colR val (l.take (k + 1)) = colR val (l.take k) ++ b2 (val x) := by
  unfold colR
  rw [List.take_add_one, h]
  simp
theorem colR_map (val : Sg → Int) (l : List Rn) : colR (fun x => val (sgR x)) l = colB val (l.map sgR) := by
  unfold colR colB
  rw [List.flatMap_map]
/-- The columns. -/
def parts4 (l : List Rn) : List (List Int) := [colR (fun x => x.b) l, b2 0, colR (fun x => x.a) l, colR (fun x => (x.g - x.a) % 65536) l]
def outK (hd : List Int) (l : List Rn) (k : Nat) : List Int := hd ++ ((parts4 l).take k).flatten
theorem outK_succ (hd : List Int) (l : List Rn) {k : Nat} {y : List Int} (h : (parts4 l)[k]? = some y) : outK hd l (k + 1) = outK hd l k ++ y := by
  unfold outK
  rw [List.take_add_one, h, List.append_assoc]
  simp
theorem zero_col (l : List Sg) : List.replicate (2 * l.length) (0 : Int) = colB (fun _ => 0) l := by
  induction l with
  | nil => rfl
  | cons x r ih =>
    unfold colB at ih ⊢
    rw [List.flatMap_cons, ← ih, List.length_cons, show 2 * (r.length + 1) = (2 * r.length) + 1 + 1 by omega, List.replicate_succ, List.replicate_succ]
    rfl
theorem outK_tab (l : List Rn) : outK (sPre l.length ++ srB l.length) l 4 ++ List.replicate (2 * l.length) 0 = sTab (l.map sgR) := by
  have hl : (l.map sgR).length = l.length := by simp
  have h0 := zero_col (l.map sgR)
  rw [hl] at h0
  rw [h0]
  unfold outK parts4 sTab
  rw [hl, ← colR_map Sg.b l, ← colR_map Sg.a l, ← colR_map Sg.d l]
  simp [sgR]

theorem runsS_ab {lo hi : Int} : ∀ (l : List Pr), (∀ p ∈ l, lo ≤ p.code ∧ p.code ≤ hi) → ∀ x ∈ runsF folS l, (lo ≤ x.a ∧ x.a ≤ hi) ∧ lo ≤ x.b ∧ x.b ≤ hi
  | [], _ => by simp [runsF]
  | [p], h => by
    intro x hx
    rw [runsF_one] at hx
    simp at hx
    subst hx
    exact ⟨h p (by simp), h p (by simp)⟩
  | p :: q :: r, h => by
    have ih := runsS_ab (q :: r) (fun x hx => h x (by simp at hx ⊢; right; exact hx))
    have hp := h p (by simp)
    obtain ⟨y, t, e, ha, hg⟩ := runsF_head folS q r
    intro x hx
    cases hf : folS p q with
    | false =>
      rw [runsF_no folS p q r hf] at hx
      rcases List.mem_cons.1 hx with rfl | hx
      · exact ⟨hp, hp⟩
      · exact ih x hx
    | true =>
      rw [runsF_yes folS p q r y t e hf] at hx
      rw [e] at ih
      rcases List.mem_cons.1 hx with rfl | hx
      · exact ⟨hp, (ih y (by simp)).2⟩
      · exact ih x (by simp [hx])
theorem sRuns_fit {l : List Pr} (hok : OkQ5 l) : ∀ x ∈ sRuns l, (0 ≤ x.a ∧ x.a < 65536) ∧ (0 ≤ x.b ∧ x.b < 65536) := by
  intro x hx
  unfold sRuns at hx
  rcases List.mem_append.1 hx with h | h
  · have := runsS_ab (lo := 0) (hi := 65534) l (fun p hp => by have := hok p hp; omega) x h
    omega
  · simp at h
    subst h
    simp [sgL]

/-- The columns that are written one by one. -/
theorem col_pick (k : Nat) (hk : k < 4) : k = 1 ∨ ∃ (j : Nat) (val : Rn → Int), j < 3 ∧ ([1, 3, 0, 2] : List Int)[k]? = some (j : Int) ∧ (∀ rs, (parts4 rs)[k]? = some (colR val rs)) ∧ (∀ x, (encT x)[j]? = some (.int .i64 (val x))) ∧ (∀ x : Rn, ((0 ≤ x.a ∧ x.a < 65536) ∧ (0 ≤ x.b ∧ x.b < 65536)) → 0 ≤ val x ∧ val x < 65536) := by
  rcases (show k = 0 ∨ k = 1 ∨ k = 2 ∨ k = 3 by omega) with rfl | rfl | rfl | rfl
  · exact .inr ⟨1, fun x => x.b, by omega, rfl, fun _ => rfl, fun _ => rfl, fun x h => h.2⟩
  · exact .inl rfl
  · exact .inr ⟨0, fun x => x.a, by omega, rfl, fun _ => rfl, fun _ => rfl, fun x h => h.1⟩
  · exact .inr ⟨2, fun x => (x.g - x.a) % 65536, by omega, rfl, fun _ => rfl, fun _ => rfl, fun x h => by show 0 ≤ (x.g - x.a) % 65536 ∧ (x.g - x.a) % 65536 < 65536; omega⟩
theorem outK_len (hd : List Int) (rs : List Rn) (k : Nat) : (outK hd rs k).length ≤ hd.length + 6 * rs.length + 2 := by
  unfold outK parts4
  rw [List.length_append]
  have a1 := colR_len (fun x => x.b) rs
  have a2 := colR_len (fun x => x.a) rs
  have a3 := colR_len (fun x => (x.g - x.a) % 65536) rs
  have a4 : (b2 0).length = 2 := rfl
  rcases k with _ | _ | _ | _ | k
  all_goals simp only [List.take_zero, List.take_succ_cons, List.take_nil, List.flatten_nil, List.flatten_cons, List.append_nil, List.length_nil, List.length_append]
  all_goals omega

/-- The runs in memory, the columns' numbers, and what is written. -/
structure CS (w wr : World) (A6 : Option Addr) (N c6 : Nat) (rs : List Rn) (bk : Nat) (Ao : Option Addr) (no co : Nat) (zs : List Int) : Prop where
  run : OwnS 109 encT 3 wr w.heap.size A6 N c6 rs
  num : Row wr (some ⟨bk, 0, none⟩) 4 (cellsOf .i64 [1, 3, 0, 2])
  out : OwnB wr w.heap.size Ao no co zs
  bel : Below w.heap.size w wr
theorem CS.below {w wr w' : World} {A6 : Option Addr} {N c6 : Nat} {rs : List Rn} {bk : Nat} {Ao : Option Addr} {no co : Nat} {zs : List Int} (h : CS w wr A6 N c6 rs bk Ao no co zs) (hb : Below wr.heap.size wr w') : CS w w' A6 N c6 rs bk Ao no co zs :=
  ⟨h.run.below hb, h.num.below hb, h.out.below hb, h.bel.trans (hb.mono h.bel.size)⟩
theorem CS.new {w wr w' : World} {A6 : Option Addr} {N c6 : Nat} {rs : List Rn} {bk : Nat} {Ao A2 : Option Addr} {no co n2 c2 : Nat} {zs ys : List Int} (h : CS w wr A6 N c6 rs bk Ao no co zs) (hb : Below wr.heap.size wr w') (ho : OwnB w' wr.heap.size A2 n2 c2 ys) : CS w w' A6 N c6 rs bk A2 n2 c2 ys :=
  ⟨h.run.below hb, h.num.below hb, ho.mono h.bel.size, h.bel.trans (hb.mono h.bel.size)⟩

/-- The runs, and the last segment, gathered. -/
def RunK (w : World) (l : List Pr) (n : Nat) (s i : Value) (wr : World) : Prop :=
  ∃ (k m : Nat) (Ar : Option Addr) (cr : Nat), k ≤ n ∧ i = .int .i64 k ∧ s = .slice Ar m cr ∧ OwnS 109 encT 3 wr w.heap.size Ar m cr (runsF folS (l.take k)) ∧ Below w.heap.size w wr

set_option maxRecDepth 100000 in
set_option maxHeartbeats 8000000 in
theorem rbuild9_any (A : Option Addr) (n c : Nat) (l : List Pr) (w : World) (hr : RowS encQ 2 w A n l) (hn : n ≤ 7000) (hok : OkQ5 l) :
    Calls Tryd.prog 32 #[.slice A n c] w (RetB w (sTab ((sRuns l).map sgR))) := by
  obtain ⟨i0, hi, hz0, hz1, hz2⟩ := info_parts Tryd.ai3info
  obtain ⟨i8, hi8, hz08, hz18, hz28⟩ := info_parts Tryd.u8info
  have Hn := Lib.hid hr.len
  have Hok := Lib.hid hok
  clear hok
  go_enter Tryd.func32, Tryd.ntmps32
  go_wp2
  go_loopw [3, 14] (fun s i wr => RunK w l n s i wr) (fun _ i _ => n - (intOf i).toNat)
  case atStart => exact ⟨0, 0, none, 0, Nat.zero_le _, rfl, rfl, OwnS.nil _ _ _ _ _, Below.refl _ _⟩
  case round =>
    obtain ⟨k, m, Ar, cr, hk, rfl, rfl, hown, hb⟩ := hrel
    have hm : m ≤ k := by have := hown.len; have h2 := runsF_len folS (l.take k); rw [List.length_take] at h2; omega
    by_cases hlt : k < n
    · obtain ⟨p, hp⟩ := getP (l := l) (j := k) (by have := Hn.out; omega)
      obtain ⟨g, off, rfl, hg, q0, q1⟩ := atQ (hr.below hb) hp
      have hpo := Hok.out p (List.mem_of_getElem? hp)
      have hA := (Below.refl wr.heap.size wr).alloc (Nat.le_refl _) (.cells #[.int .i64 p.code, .int .i64 p.glyph] 60)
      have hown1 := hown.below hA
      have hb1 := hb.trans (hA.mono hb.size)
      have x0 : (wr.alloc (.cells #[.int .i64 p.code, .int .i64 p.glyph] 60)).cell? ⟨wr.heap.size, 0, none⟩ = some (.int .i64 p.code) := cell_of_row _ _ 0 _ _ _ (heap_alloc_new wr _)
      have x1 : (wr.alloc (.cells #[.int .i64 p.code, .int .i64 p.glyph] 60)).cell? ⟨wr.heap.size, 1, none⟩ = some (.int .i64 p.glyph) := cell_of_row _ _ 1 _ _ _ (heap_alloc_new wr _)
      have hr1 := hr.below hb1
      by_cases h0 : 0 < k
      · obtain ⟨j, rfl⟩ : ∃ j, k = j + 1 := ⟨k - 1, by omega⟩
        obtain ⟨q, hq⟩ := getP (l := l) (j := j) (by have := Hn.out; omega)
        have hqo := Hok.out q (List.mem_of_getElem? hq)
        obtain ⟨g', off', e', _, r0, r1⟩ := atQ hr1 hq
        simp only [Option.some.injEq, Addr.mk.injEq, and_true] at e'
        obtain ⟨rfl, rfl⟩ := e'
        obtain ⟨st1, st2⟩ := runs_step folS hq hp
        have ST1 := Lib.hid st1
        have ST2 := Lib.hid st2
        have HFo : Hid (folS q p = decide (p.code = q.code + 1 ∧ p.glyph = (q.glyph + 1) % 65536)) := rfl
        clear st1 st2 hq hp hr1 hown hA
        obtain ⟨pc, pg⟩ := p
        obtain ⟨qc, qg⟩ := q
        simp only at *
        have F2 : (pg - pc + 65536) % 65536 = (pg - pc) % 65536 := by omega
        have ej : ((j : Int) + 1 - 1) = (j : Int) := by omega
        have ej2 : (((j + 1 : Nat) : Int) - 1) = (j : Int) := by omega
        have W2 : IntKind.i64.wrap (qc + 1) = qc + 1 := IntWalk.i64_in _ (by omega)
        have W3 : IntKind.i64.wrap (qg + 1) = qg + 1 := IntWalk.i64_in _ (by omega)
        have m3 : (qg + 1).tmod 65536 = (qg + 1) % 65536 := Int.tmod_eq_emod_of_nonneg (by omega)
        have d0 : decide ((0 : Int) < (j : Int) + 1) = true := decide_eq_true (by omega)
        go_wp2_with fail
        by_cases h1 : pc = qc + 1
        · have b1 : (pc == qc + 1) = true := by simp [h1]
          by_cases h2 : pg = (qg + 1) % 65536
          · have e2 : (pg == (qg + 1) % 65536) = true := by simp [h2]
            have HY := Lib.hid (ST2.out (by rw [HFo.out]; exact decide_eq_true ⟨h1, h2⟩))
            clear ST1 ST2 HFo h1 h2
            generalize wr.alloc (.cells #[.int .i64 pc, .int .i64 pg] 60) = V at *
            generalize wr.heap.size = bx at *
            go_quiet (fail)
            have hb2 := below_drewN hb1 nq
            have hown2 := hown1.drewN nq
            have b0 : (V.drewN nq).cell? ⟨bx, 0, none⟩ = some (.int .i64 pc) := x0
            have b1' : (V.drewN nq).cell? ⟨bx, 1, none⟩ = some (.int .i64 pg) := x1
            clear x0 x1 hown1 hb1 q0 q1 r0 r1
            generalize V.drewN nq = U at *
            have hsU := hb2.size
            obtain ⟨s, x, e4, e5⟩ := HY.out
            rw [e4] at hown2
            have hlm : s.length + 1 = m := by have := hown2.len; simpa using this
            subst hlm
            obtain ⟨gr, _, e6, _, c0, c1, c2⟩ := atT (hown2.row encT_len) (j := s.length) (x := x) (by simp)
            rcases hown2.shape with ⟨e7, _⟩ | ⟨g2, _, e7, hg2, _⟩
            · rw [e7] at e6; cases e6
            · rw [e7] at e6
              simp only [Option.some.injEq, Addr.mk.injEq, and_true] at e6
              obtain ⟨rfl, rfl⟩ := e6
              subst e7
              rw [Nat.zero_add] at c0 c1 c2
              have f0 : U.drew.frozen? ⟨g2, s.length * 3 + 1, none⟩ = false := hown2.drew.thaw _
              have c1' : U.drew.cell? ⟨g2, s.length * 3 + 1, none⟩ = some (.int .i64 x.b) := c1
              have b0' : U.drew.cell? ⟨bx, 0, none⟩ = some (.int .i64 pc) := b0
              have E5 := Lib.hid e5
              have O6 : Hid (OwnS 109 encT 3 (U.drew.setCell ⟨g2, s.length * 3 + 1, none⟩ (.int .i64 pc)) w.heap.size (some ⟨g2, 0, none⟩) (s.length + 1) cr (s ++ [(⟨x.a, pc, x.g⟩ : Rn)])) := ownS_setCell hown2.drew (by simp) (flat_endT s x pc)
              have B6 := Lib.hid (below_set hg2 (s.length * 3 + 1) (.int .i64 pc) hb2.drew)
              have es : (((s.length + 1 : Nat) : Int) - 1) = (s.length : Int) := by omega
              have es2 : ((s.length : Int) + 1 - 1) = (s.length : Int) := by omega
              have Wm : IntKind.i64.wrap (s.length : Int) = (s.length : Int) := IntWalk.i64_in _ (by omega)
              have Wm1 : IntKind.i64.wrap ((s.length : Int) + 1) = (s.length : Int) + 1 := IntWalk.i64_in _ (by omega)
              have z0 : (0 : Int) ≤ (s.length : Int) := by omega
              have z1 : (s.length : Int) < (s.length : Int) + 1 := by omega
              clear HY e4 e5 hown2 hb2
              generalize s.length = m at *
              go_wp2_with fail
              go_still_tail 8, (by kernel_rfl)
              go_wp2
              go_roundw
              case rel => exact ⟨j + 1 + 1, m + 1, some ⟨g2, 0, none⟩, cr, by omega, by go_num, rfl, by rw [E5.out]; exact O6.out, B6.out⟩
              case measure => simp [intOf]; omega
          · have e2 : (pg == (qg + 1) % 65536) = false := by simp [h2]
            have E3 := Lib.hid (ST1.out (by rw [HFo.out]; exact decide_eq_false (fun h => h2 h.2)))
            clear ST1 ST2 HFo h1 h2
            generalize wr.alloc (.cells #[.int .i64 pc, .int .i64 pg] 60) = V at *
            generalize wr.heap.size = bx at *
            go_quiet (fail)
            have hb2 := below_drewN hb1 nq
            have hown2 := hown1.drewN nq
            have b0 : (V.drewN nq).cell? ⟨bx, 0, none⟩ = some (.int .i64 pc) := x0
            have b1' : (V.drewN nq).cell? ⟨bx, 1, none⟩ = some (.int .i64 pg) := x1
            clear x0 x1 hown1 hb1 q0 q1 r0 r1
            generalize V.drewN nq = U at *
            have hsU := hb2.size
            go_wp2_with (at_builtin; refine wpList_append_rowS rfl (.tmp 54) (.tmp 67) _ rfl 109 encT 3 encT_len (by omega) encT_one w.heap.size i0 _ 24 Tryd.underlying108 hi hz0 hz1 rfl hz2 _ m cr _ rfl (hown2.alloc _) (some ⟨U.heap.size, 0, none⟩) 1 1 [⟨pc, pc, pg⟩] rfl (rowS_vals encT_len U 109 [⟨pc, pc, pg⟩] _ rfl 1 rfl) (by omega) (by omega) (by simp; omega) ?_; intro A6 c6 w6 ho6 hg6)
            go_roundw
            case rel => exact ⟨j + 1 + 1, m + 1, A6, c6, by omega, by go_num, rfl, by rw [E3.out]; exact ho6, (hb2.alloc hb2.size _).grown hg6 (hb2.alloc hb2.size _).size (fun q e => (hown2.from_ q e).1)⟩
            case measure => simp [intOf]; omega
        · have b1 : (pc == qc + 1) = false := by simp [h1]
          have E3 := Lib.hid (ST1.out (by rw [HFo.out]; exact decide_eq_false (fun h => h1 h.1)))
          clear ST1 ST2 HFo h1
          generalize wr.alloc (.cells #[.int .i64 pc, .int .i64 pg] 60) = V at *
          generalize wr.heap.size = bx at *
          go_quiet (fail)
          have hb2 := below_drewN hb1 nq
          have hown2 := hown1.drewN nq
          have b0 : (V.drewN nq).cell? ⟨bx, 0, none⟩ = some (.int .i64 pc) := x0
          have b1' : (V.drewN nq).cell? ⟨bx, 1, none⟩ = some (.int .i64 pg) := x1
          clear x0 x1 hown1 hb1 q0 q1 r0 r1
          generalize V.drewN nq = U at *
          have hsU := hb2.size
          go_wp2_with (at_builtin; refine wpList_append_rowS rfl (.tmp 54) (.tmp 67) _ rfl 109 encT 3 encT_len (by omega) encT_one w.heap.size i0 _ 24 Tryd.underlying108 hi hz0 hz1 rfl hz2 _ m cr _ rfl (hown2.alloc _) (some ⟨U.heap.size, 0, none⟩) 1 1 [⟨pc, pc, pg⟩] rfl (rowS_vals encT_len U 109 [⟨pc, pc, pg⟩] _ rfl 1 rfl) (by omega) (by omega) (by simp; omega) ?_; intro A6 c6 w6 ho6 hg6)
          go_roundw
          case rel => exact ⟨j + 1 + 1, m + 1, A6, c6, by omega, by go_num, rfl, by rw [E3.out]; exact ho6, (hb2.alloc hb2.size _).grown hg6 (hb2.alloc hb2.size _).size (fun q e => (hown2.from_ q e).1)⟩
          case measure => simp [intOf]; omega
      · obtain rfl : k = 0 := by omega
        have E3 := Lib.hid (runs_first folS hp)
        have hd0 : ¬ (0 : Int) < 0 := by omega
        have hdf : decide ((0 : Int) < 0) = false := by decide
        have er : runsF folS (l.take 0) = [] := by rw [List.take_zero]; rfl
        rw [er] at hown1
        clear hown hA hr1 hp er
        obtain ⟨pc, pg⟩ := p
        simp only at *
        have F2 : (pg - pc + 65536) % 65536 = (pg - pc) % 65536 := by omega
        rw [Nat.zero_mul, Nat.add_zero] at q0 q1
        go_wp2_with fail
        generalize wr.alloc (.cells #[.int .i64 pc, .int .i64 pg] 60) = V at *
        generalize wr.heap.size = bx at *
        go_quiet (fail)
        have hb2 := below_drewN hb1 nq
        have hown2 := hown1.drewN nq
        have b0 : (V.drewN nq).cell? ⟨bx, 0, none⟩ = some (.int .i64 pc) := x0
        have b1' : (V.drewN nq).cell? ⟨bx, 1, none⟩ = some (.int .i64 pg) := x1
        clear x0 x1 hown1 hb1 q0 q1 
        generalize V.drewN nq = U at *
        have hsU := hb2.size
        go_wp2_with (at_builtin; refine wpList_append_rowS rfl (.tmp 54) (.tmp 67) _ rfl 109 encT 3 encT_len (by omega) encT_one w.heap.size i0 _ 24 Tryd.underlying108 hi hz0 hz1 rfl hz2 _ m cr _ rfl (hown2.alloc _) (some ⟨U.heap.size, 0, none⟩) 1 1 [⟨pc, pc, pg⟩] rfl (rowS_vals encT_len U 109 [⟨pc, pc, pg⟩] _ rfl 1 rfl) (by omega) (by omega) (by simp; omega) ?_; intro A6 c6 w6 ho6 hg6)
        go_roundw
        case rel => exact ⟨0 + 1, m + 1, A6, c6, by omega, by go_num, rfl, by rw [E3.out]; exact ho6, (hb2.alloc hb2.size _).grown hg6 (hb2.alloc hb2.size _).size (fun q e => (hown2.from_ q e).1)⟩
        case measure => simp [intOf]; omega
    · obtain rfl : k = n := by omega
      have E3 : Hid (runsF folS (l.take k) = runsF folS l) := by show _ = _; rw [List.take_of_length_le (by have := Hn.out; omega)]
      rw [E3.out] at hown
      have hlR := runsF_len folS l
      have hmR := hown.len
      have hNl := Hn.out
      have HR : Hid (runsF folS l ++ [sgL] = sRuns l) := rfl
      have HFit := Lib.hid (sRuns_fit Hok.out)
      have HF2 : Hid ((sRuns l).length = m + 1) := by show _ = _; unfold sRuns; simp [hmR]
      clear hmR E3
      go_wp2_with (at_builtin; refine wpList_append_rowS rfl (.tmp 70) (.tmp 72) _ rfl 109 encT 3 encT_len (by omega) encT_one w.heap.size i0 _ 24 Tryd.underlying108 hi hz0 hz1 rfl hz2 _ m cr _ rfl (hown.alloc _) (some ⟨wr.heap.size, 0, none⟩) 1 1 [sgL] rfl (rowS_vals encT_len wr 109 [sgL] _ rfl 1 rfl) (by omega) (by omega) (by simp; have := hb.size; omega) ?_; intro A6 c6 w6 ho6 hg6)
      have hb6 := (hb.alloc hb.size _).grown hg6 (hb.alloc hb.size _).size (fun q e => (hown.from_ q e).1)
      rw [HR.out] at ho6
      clear hown hb hg6 HR
      generalize sRuns l = rs at *
      obtain ⟨N, hN⟩ : ∃ N, m + 1 = N := ⟨_, rfl⟩
      have hNi : (m : Int) + 1 = (N : Int) := by omega
      have hN0 : 1 ≤ N := by omega
      have hN1 : N ≤ 7001 := by omega
      rw [hN] at ho6 HF2
      have hgt := Got.nil w6
      have HSr := Lib.hid (fun W => rsearch9_any N W (by omega) (by omega))
      go_wp2_with (first
        | (go_at_call 20; refine (b2_any _ _ (by omega) (by omega)).mono ?_; rintro e wn ⟨A2, n2, c2, rfl, o, hbn⟩; replace hgt := hgt.add (c := c2) hbn o; replace hb6 := hb6.trans (hbn.mono hb6.size); replace ho6 := ho6.below hbn; clear o hbn)
        | (go_at_call 53; refine (HSr.out _).mono ?_; rintro e wn ⟨A2, n2, c2, rfl, o, hbn⟩; replace hgt := hgt.add (c := c2) hbn o; replace hb6 := hb6.trans (hbn.mono hb6.size); replace ho6 := ho6.below hbn; clear o hbn)
        | (go_at_call 19; refine (joinN_any _ _ _ 5 _ rfl rfl rfl hgt (by omega) (by simp [joined, b2, srB])).mono ?_; rintro e wn ⟨A2, n2, c2, rfl, o, hbn⟩; simp only [joined, List.nil_append, List.cons_append, List.flatMap_cons, List.flatMap_nil, List.append_nil] at o; clear hgt; replace ho6 := ho6.below hbn; replace o := o.mono hb6.size; replace hb6 := hb6.trans (hbn.mono hb6.size); clear hbn))
      have HTab : Hid (outK (sPre N ++ srB N) rs 4 ++ List.replicate (2 * N) 0 = sTab (rs.map sgR)) := by show _ = _; rw [← HF2.out]; exact outK_tab rs
      have HHd : Hid (b2 4 ++ (b2 (16 + 8 * (N : Int)) ++ (b2 0 ++ (b2 (2 * (N : Int)) ++ srB N))) = outK (sPre N ++ srB N) rs 0) := by
        show _ = _
        unfold outK sPre
        rw [show 2 * (8 + 4 * (N : Int)) = 16 + 8 * (N : Int) by omega]
        simp
      rw [HHd.out] at o
      have hs : CS w (wn.alloc (.cells #[.int .i64 1, .int .i64 3, .int .i64 0, .int .i64 2] 3)) A6 N c6 rs wn.heap.size A2 n2 c2 (outK (sPre N ++ srB N) rs 0) := by
        have hal : Below wn.heap.size wn (wn.alloc (.cells #[.int .i64 1, .int .i64 3, .int .i64 0, .int .i64 2] 3)) := (Below.refl _ _).alloc (Nat.le_refl _) _
        exact ⟨ho6.below hal, row_vals wn 3 (cellsOf .i64 [1, 3, 0, 2]) 4 rfl, o.below hal, hb6.trans (hal.mono hb6.size)⟩
      clear ho6 o hb6 HHd HSr hN hNi hi hz0 hz1 hz2
      generalize wn.alloc (.cells #[.int .i64 1, .int .i64 3, .int .i64 0, .int .i64 2] 3) = W0 at *
      generalize wn.heap.size = bk at *
      have hpl : (sPre N ++ srB N).length = 14 := rfl
      generalize sPre N ++ srB N = hd at *
      have HLn : Hid (∀ k, (outK hd rs k).length ≤ 16 + 6 * N) := fun k => by have := outK_len hd rs k; have h2 := HF2.out; omega
      clear hpl
      go_loopw [7, 91] (fun v i wr => ∃ (k : Nat) (Ao : Option Addr) (no co : Nat), k ≤ 4 ∧ i = .int .i64 k ∧ v = .slice Ao no co ∧ CS w wr A6 N c6 rs bk Ao no co (outK hd rs k)) (fun _ i _ => 4 - (intOf i).toNat)
      case atStart => exact ⟨0, A2, n2, c2, by omega, rfl, rfl, hs⟩
      case round =>
        clear hs
        obtain ⟨k4, Ao, no, co, hk4, rfl, rfl, hs⟩ := hrel
        have hol := HLn.out k4
        by_cases hlt4 : k4 < 4
        · rcases col_pick k4 hlt4 with rfl | ⟨j, val, hj, hkj, hpt, hen, hvb⟩
          · have hcx : wr.cell? ⟨bk, 1, none⟩ = some (.int .i64 3) := by
              obtain ⟨g', off', e', _, hc⟩ := hs.num.at (j := 1) (u := .int .i64 3) rfl
              simp only [Option.some.injEq, Addr.mk.injEq, and_true] at e'
              obtain ⟨rfl, rfl⟩ := e'
              simpa using hc
            go_wp2_with fail
            refine (b2_any 0 _ (by omega) (by omega)).mono ?_
            rintro e w8 ⟨A8, n8, c8, rfl, o8, hb8⟩
            have hgt := ((Got.nil w8).put (c := co) (hs.out.below hb8).row).put (c := c8) o8.row
            have hs8 := hs.below hb8
            have HJ := Lib.hid (joinN_any w8 _ _ 2 _ rfl rfl rfl hgt (by omega) (by have h22 : (b2 0).length = 2 := rfl; simp only [joined, List.nil_append, List.cons_append, List.flatMap_cons, List.flatMap_nil, List.append_nil, List.length_append]; omega))
            simp only [joined, List.nil_append, List.cons_append, List.flatMap_cons, List.flatMap_nil, List.append_nil, List.map_cons, List.map_nil, BsV.val] at HJ
            rw [← outK_succ hd rs (k := 1) rfl] at HJ
            clear hgt o8 hb8 hs hcx
            go_wp2_with fail
            refine HJ.out.mono ?_
            rintro e w9 ⟨A9, n9, c9, rfl, o9, hb9⟩
            have hs9 := hs8.new hb9 o9
            clear hs8 hb9 o9 HJ
            go_wp2
            go_roundw
            case rel => exact ⟨1 + 1, A9, n9, c9, by omega, by go_num, rfl, hs9⟩
            case measure => simp [intOf]
          · have hcx : wr.cell? ⟨bk, k4, none⟩ = some (.int .i64 (j : Int)) := by
              obtain ⟨g', off', e', _, hc⟩ := hs.num.at (j := k4) (u := .int .i64 (j : Int)) (cellsOf_get hkj)
              simp only [Option.some.injEq, Addr.mk.injEq, and_true] at e'
              obtain ⟨rfl, rfl⟩ := e'
              simpa using hc
            have HPt := Lib.hid (outK_succ hd rs (hpt rs))
            have HEn := Lib.hid hen
            have HVb := Lib.hid hvb
            have j3 : ((j : Int) == 3) = false := by simp; omega
            have d4 : decide ((k4 : Int) < 4) = true := decide_eq_true (by omega)
            have hs0 : CS w wr A6 N c6 rs bk Ao no co (outK hd rs k4 ++ colR val (rs.take 0)) := by rw [List.take_zero]; simpa [colR] using hs
            clear hkj hpt hen hvb hs
            go_wp2
            go_loopw [7, 103] (fun v i wr => ∃ (k : Nat) (Ao : Option Addr) (no co : Nat), k ≤ N ∧ i = .int .i64 k ∧ v = .slice Ao no co ∧ CS w wr A6 N c6 rs bk Ao no co (outK hd rs k4 ++ colR val (rs.take k))) (fun _ i _ => N - (intOf i).toNat)
            case atStart => exact ⟨0, Ao, no, co, by omega, rfl, rfl, hs0⟩
            case round =>
              clear hs0 hcx
              obtain ⟨k5, Ao, no, co, hk5, rfl, rfl, hs⟩ := hrel
              by_cases hlt5 : k5 < N
              · obtain ⟨x, hx⟩ := getP (l := rs) (j := k5) (by have := HF2.out; omega)
                obtain ⟨gx, ox, ex, hgx, q0, q1, q2⟩ := atT (hs.run.row encT_len) hx
                have hv := HVb.out x (HFit.out x (List.mem_of_getElem? hx))
                have hex := HEn.out x
                have HC := Lib.hid (colR_snoc val hx)
                have hcl := colR_len val (rs.take k5)
                rw [List.length_take] at hcl
                have hal : Below wr.heap.size wr (wr.alloc (.cells #[.int .i64 x.a, .int .i64 x.b, .int .i64 ((x.g - x.a) % 65536)] 109)) := (Below.refl _ _).alloc (Nat.le_refl _) _
                have kx : (wr.alloc (.cells #[.int .i64 x.a, .int .i64 x.b, .int .i64 ((x.g - x.a) % 65536)] 109)).cell? ⟨wr.heap.size, j, none⟩ = some (.int .i64 (val x)) := by
                  rw [cell_of_row _ _ j _ _ _ (heap_alloc_new wr _)]
                  simpa [encT] using hex
                have hs1 := hs.below hal
                have hj0 : (0 : Int) ≤ (j : Int) := by omega
                have hj3 : (j : Int) < 3 := by omega
                subst ex
                clear hx hex hs hal
                generalize val x = vx at *
                generalize (x.g - x.a) % 65536 = xd at *
                obtain ⟨xa, xb, xg⟩ := x
                simp only at *
                go_wp2_with fail
                refine (b2_any vx _ (by omega) (by omega)).mono ?_
                rintro e w8 ⟨A8, n8, c8, rfl, o8, hb8⟩
                have hgt := ((Got.nil w8).put (c := co) (hs1.out.below hb8).row).put (c := c8) o8.row
                have hs8 := hs1.below hb8
                have HJ := Lib.hid (joinN_any w8 _ _ 2 _ rfl rfl rfl hgt (by omega) (by have h22 : (b2 vx).length = 2 := rfl; simp only [joined, List.nil_append, List.cons_append, List.flatMap_cons, List.flatMap_nil, List.append_nil, List.length_append]; omega))
                simp only [joined, List.nil_append, List.cons_append, List.flatMap_cons, List.flatMap_nil, List.append_nil, List.map_cons, List.map_nil, BsV.val] at HJ
                rw [List.append_assoc, ← HC.out] at HJ
                clear hgt o8 hb8 hs1 kx q0 q1 q2
                go_wp2_with fail
                refine HJ.out.mono ?_
                rintro e w9 ⟨A9, n9, c9, rfl, o9, hb9⟩
                have hs9 := hs8.new hb9 o9
                clear hs8 hb9 o9 HJ
                go_wp2
                go_roundw
                case rel => first | exact ⟨k5 + 1, A9, n9, c9, by omega, by go_num, rfl, hs9⟩ | ((repeat apply Exists.intro); exact ⟨⟨k5 + 1, A9, n9, c9, by omega, by go_num, rfl, hs9⟩, rfl⟩)
                case measure => simp [intOf]; omega
              · have HE : Hid (outK hd rs k4 ++ colR val (rs.take k5) = outK hd rs (k4 + 1)) := by show _ = _; rw [List.take_of_length_le (by have := HF2.out; omega), HPt.out]
                rw [HE.out] at hs
                clear HE HPt HEn HVb
                go_wp2
                go_roundw
                case rel => exact ⟨k4 + 1, Ao, no, co, by omega, by go_num, rfl, hs⟩
                case measure => simp [intOf]; omega
        · obtain rfl : k4 = 4 := by omega
          go_wp2_with (at_make; refine wpList_make_ints rfl (.tmp 118) (.tmp 118) _ rfl 5 .u8 w.heap.size i8 1 Tryd.underlying28 hi8 hz08 hz18 hz28 _ _ (2 * N) (2 * N) rfl rfl (by omega) (by omega) (Nat.le_refl _) (by omega) (by omega) hs.bel.size ?_; intro w8 hown8 hg8)
          have hb8 : Below wr.heap.size wr w8 := (Below.refl _ _).grown hg8 (Nat.le_refl _) (fun q e => by cases e)
          have hgt := ((Got.nil w8).put (c := co) (hs.out.below hb8).row).put (c := 2 * N) hown8.row
          have hs8 := hs.below hb8
          have HJ := Lib.hid (joinN_any w8 _ _ 2 _ rfl rfl rfl hgt (by omega) (by simp only [joined, List.nil_append, List.cons_append, List.flatMap_cons, List.flatMap_nil, List.append_nil, List.length_append, List.length_replicate]; omega))
          simp only [joined, List.nil_append, List.cons_append, List.flatMap_cons, List.flatMap_nil, List.append_nil, List.map_cons, List.map_nil, BsV.val] at HJ
          rw [HTab.out] at HJ
          clear hgt hown8 hb8 hs
          go_wp2_with fail
          refine HJ.out.mono ?_
          rintro e w9 ⟨A9, n9, c9, rfl, o9, hb9⟩
          have hs9 := hs8.new hb9 o9
          go_wp2
          go_ret
          exact ⟨A9, n9, c9, rfl, hs9.out, hs9.bel⟩

end Go.Proofs.YthkaeimpflggjaaDoor

/- cmap.Build and the document's Build and Look of a table cmap: contracts over this seat's translation. -/
namespace Go.Proofs.YthkaeimpflggjaaDoor
open Go.RowKit
set_option linter.unusedVariables false

/-- The table, with what stands ahead of it. -/
def cHd (wd : Bool) : List Int := b2 0 ++ (b2 1 ++ (b2 3 ++ (b2 (if wd then 10 else 1) ++ b4 12)))
def cTab (l : List Pr) (wd : Bool) : List Int := if wd then gOut l else sOut l
def cOut (l : List Pr) (wd : Bool) : List Int := if (cTab l wd).length = 0 then [] else cHd wd ++ cTab l wd
theorem cHd_len (wd : Bool) : (cHd wd).length = 12 := by cases wd <;> rfl

theorem rlook11_any (wd : Bool) (t : List Int) (Am : Option Addr) (g : Nat) (A : Option Addr) (n c : Nat) (code : Int) (w : World) (hm : CMap w wd t Am g) (hr : Row w A n (cellsOf .u8 t)) (hB : Bytes t) (hn : n ≤ 1000000) (c0 : -2147483648 ≤ code) (c1 : code ≤ 2147483647) :
    Calls Tryd.prog 18 #[.slice A n c, .bool wd, .int .i64 (cCnt wd t), .int .i64 code] w (Ret w (.int .i64 (cLook wd t code))) := by
  cases wd with
  | true =>
    have H := Lib.hid (rlook10_any A n c t (gN t) code w hr hB hn hm.2 c0 c1)
    rw [hm.1.find code] at H
    show Calls Tryd.prog 18 #[.slice A n c, .bool true, .int .i64 (gN t), .int .i64 code] w (Ret w (.int .i64 (lookR (grps t (gN t)) code)))
    clear hm hr hB
    generalize lookR (grps t (gN t)) code = v at *
    generalize gN t = N at *
    go_enter Tryd.func18, Tryd.ntmps18
    go_wp2_with fail
    with_reducible refine H.out.mono ?_
    rintro e w1 ⟨rfl, hb1⟩
    go_wp2
    go_ret
    exact ⟨rfl, hb1⟩
  | false =>
    have H := Lib.hid (rlook9_any A n c t (sN t) code w hr hB hn hm.2 c0 c1)
    show Calls Tryd.prog 18 #[.slice A n c, .bool false, .int .i64 (sN t), .int .i64 code] w (Ret w (.int .i64 (lookS t (sN t) code 0 (sN t))))
    clear hm hr hB
    generalize lookS t (sN t) code 0 (sN t) = v at *
    generalize sN t = N at *
    go_enter Tryd.func18, Tryd.ntmps18
    go_wp2_with fail
    with_reducible refine H.out.mono ?_
    rintro e w1 ⟨rfl, hb1⟩
    go_wp2
    go_ret
    exact ⟨rfl, hb1⟩

set_option maxRecDepth 100000 in
set_option maxHeartbeats 2000000 in
theorem rbuild11_any (A : Option Addr) (n c : Nat) (l : List Pr) (wd : Bool) (w : World) (hr : RowS encQ 2 w A n l) (hn : n ≤ 7000) (hok : OkQ5 l) :
    Calls Tryd.prog 13 #[.slice A n c, .bool wd] w (RetB w (cHd wd ++ (if wd then gBytes (runsF folG l) else sTab ((sRuns l).map sgR)))) := by
  cases wd with
  | true =>
    have hA : Below w.heap.size w (w.alloc (.cells #[.int .u8 0, .int .u8 0, .int .u8 0, .int .u8 1, .int .u8 0, .int .u8 3, .int .u8 0, .int .u8 10, .int .u8 0, .int .u8 0, .int .u8 0, .int .u8 12] 5)) := (Below.refl _ _).alloc (Nat.le_refl _) _
    have hrow := row_vals w 5 (cellsOf .u8 (cHd true)) 12 rfl
    have HR := Lib.hid (rbuild10_any A n c l _ (hr.below hA) (by omega) (fun p hp => by have := hok p hp; omega))
    have hrn := runsF_len folG l
    have hln := hr.len
    have hgl := gBytes_len (runsF folG l)
    have hrow2 : Row (w.alloc (.cells #[.int .u8 0, .int .u8 0, .int .u8 0, .int .u8 1, .int .u8 0, .int .u8 3, .int .u8 0, .int .u8 10, .int .u8 0, .int .u8 0, .int .u8 0, .int .u8 12] 5)) (some ⟨w.heap.size, 0, none⟩) 12 (cellsOf .u8 (cHd true)) := hrow
    clear hr hrow
    show Calls Tryd.prog 13 #[.slice A n c, .bool true] w (RetB w (cHd true ++ gBytes (runsF folG l)))
    generalize gBytes (runsF folG l) = zs at *
    go_enter Tryd.func13, Tryd.ntmps13
    go_wp2_with fail
    with_reducible refine HR.out.mono ?_
    rintro e w1 ⟨A1, n1, c1, rfl, hown, hb1⟩
    have hgt := ((Got.nil w1).put (c := 12) (hrow2.below hb1)).put (c := c1) hown.row
    have hbw := hA.trans (hb1.mono hA.size)
    have HJ := Lib.hid (joinN_any w1 _ _ 2 _ rfl rfl rfl hgt (by omega) (by simp only [joined, List.nil_append, List.cons_append, List.flatMap_cons, List.flatMap_nil, List.append_nil, List.length_append, cHd_len]; omega))
    simp only [joined, List.nil_append, List.cons_append, List.flatMap_cons, List.flatMap_nil, List.append_nil, List.map_cons, List.map_nil, BsV.val] at HJ
    clear hgt hown hb1 hrow2 HR
    generalize cHd true ++ zs = js at *
    go_wp2_with fail
    refine HJ.out.mono ?_
    rintro e w2 ⟨A2, n2, c2, rfl, hown2, hb2⟩
    go_wp2
    go_ret
    exact ⟨A2, n2, c2, rfl, hown2.mono hbw.size, hbw.trans (hb2.mono hbw.size)⟩
  | false =>
    have hA : Below w.heap.size w (w.alloc (.cells #[.int .u8 0, .int .u8 0, .int .u8 0, .int .u8 1, .int .u8 0, .int .u8 3, .int .u8 0, .int .u8 1, .int .u8 0, .int .u8 0, .int .u8 0, .int .u8 12] 5)) := (Below.refl _ _).alloc (Nat.le_refl _) _
    have hrow := row_vals w 5 (cellsOf .u8 (cHd false)) 12 rfl
    have HR := Lib.hid (rbuild9_any A n c l _ (hr.below hA) (by omega) hok)
    have hrn := runsF_len folS l
    have hln := hr.len
    have hsl : (sTab ((sRuns l).map sgR)).length = 16 + 8 * ((runsF folS l).length + 1) := by
      have h : ((sRuns l).map sgR).length = (runsF folS l).length + 1 := by unfold sRuns; simp
      have h2 : (b2 0).length = 2 := rfl
      unfold sTab
      simp only [List.length_append, colB_len, h, srB_len]
      rw [show (sPre ((runsF folS l).length + 1)).length = 8 from rfl]
      omega
    have hrow2 : Row (w.alloc (.cells #[.int .u8 0, .int .u8 0, .int .u8 0, .int .u8 1, .int .u8 0, .int .u8 3, .int .u8 0, .int .u8 1, .int .u8 0, .int .u8 0, .int .u8 0, .int .u8 12] 5)) (some ⟨w.heap.size, 0, none⟩) 12 (cellsOf .u8 (cHd false)) := hrow
    clear hr hrow
    show Calls Tryd.prog 13 #[.slice A n c, .bool false] w (RetB w (cHd false ++ sTab ((sRuns l).map sgR)))
    generalize sTab ((sRuns l).map sgR) = zs at *
    go_enter Tryd.func13, Tryd.ntmps13
    go_wp2_with fail
    with_reducible refine HR.out.mono ?_
    rintro e w1 ⟨A1, n1, c1, rfl, hown, hb1⟩
    have hgt := ((Got.nil w1).put (c := 12) (hrow2.below hb1)).put (c := c1) hown.row
    have hbw := hA.trans (hb1.mono hA.size)
    have HJ := Lib.hid (joinN_any w1 _ _ 2 _ rfl rfl rfl hgt (by omega) (by simp only [joined, List.nil_append, List.cons_append, List.flatMap_cons, List.flatMap_nil, List.append_nil, List.length_append, cHd_len]; omega))
    simp only [joined, List.nil_append, List.cons_append, List.flatMap_cons, List.flatMap_nil, List.append_nil, List.map_cons, List.map_nil, BsV.val] at HJ
    clear hgt hown hb1 hrow2 HR
    generalize cHd false ++ zs = js at *
    go_wp2_with fail
    refine HJ.out.mono ?_
    rintro e w2 ⟨A2, n2, c2, rfl, hown2, hb2⟩
    go_wp2
    go_ret
    exact ⟨A2, n2, c2, rfl, hown2.mono hbw.size, hbw.trans (hb2.mono hbw.size)⟩

set_option maxRecDepth 100000 in
set_option maxHeartbeats 4000000 in
theorem cbuild_any (A : Option Addr) (n c : Nat) (l : List Pr) (wd : Bool) (w : World) (hr : RowS encP 2 w A n l) (hn : n ≤ 7000) (hg : PrG l) (hlen : (cTab l wd).length ≤ 12000000) :
    Calls Tryd.prog 10 #[.slice A n c, .bool wd] w (RetB w (cOut l wd)) := by
  cases wd with
  | true =>
    have e1 : ∀ args w, (callFunc 23 args).run Tryd.prog w = .ok (.enter 23 args) w := enters_of Tryd.func23 (by kernel_rfl) rfl
    have hA : Below w.heap.size w (w.alloc (.cells #[.int .u16 3, .int .u16 10] 65)) := (Below.refl _ _).alloc (Nat.le_refl _) _
    have k0 := heap_alloc_new w (.cells #[.int .u16 3, .int .u16 10] 65)
    have HG := Lib.hid (gbuild_any A n c l _ (hr.below hA) (by omega) hg)
    have HO : Hid (cOut l true = if (gOut l).length = 0 then [] else cHd true ++ gOut l) := rfl
    have hol : (gOut l).length ≤ 12000000 := hlen
    clear hr hg
    generalize gOut l = zs at *
    go_enter Tryd.func10, Tryd.ntmps10
    go_wp2_with fail
    with_reducible refine HG.out.mono ?_
    rintro e w2 ⟨A2, n2, c2, rfl, hown, hb2'⟩
    have hb2 := hA.trans (hb2'.mono hA.size)
    have k2 := kept_block k0 hb2'
    have hl2 := hown.len
    have hrow2 := hown.row
    clear hA k0 HG hb2' hown e1
    by_cases hz : n2 = 0
    · have HO2 : Hid (cOut l true = []) := by show _ = _; rw [HO.out, if_pos (by omega)]
      have bz : ((n2 : Int) == 0) = true := by simp [hz]
      clear hz HO
      go_wp2
      go_ret
      exact ⟨none, 0, 0, rfl, by rw [HO2.out]; exact Own.nil _ _ _ _, hb2⟩
    · have HO2 : Hid (cOut l true = cHd true ++ zs) := by show _ = _; rw [HO.out, if_neg (by omega)]
      have bz : ((n2 : Int) == 0) = false := by simp; omega
      have hw0 := wr_new w2
      have hA0 : Below w2.heap.size w2 (w2.alloc (.cells #[.slice none 0 0] 68)) := (Below.refl _ _).alloc (Nat.le_refl _) _
      have hs : StB w2 (w2.alloc (.cells #[.slice none 0 0] 68)) w2.heap.size [] w.heap.size #[.int .u16 3, .int .u16 10] 65 := ⟨hw0, hA0, kept_block k2 hA0, by decide, by decide⟩
      have HL := Lib.hid hl2
      clear hz HO hw0 hA0 k2 hl2
      go_wp2_with (go_at_call 24; (with_reducible refine (wu16_any _ _ _ _ _ hs.wr_ (by simp [b2]) (by omega) (by omega)).mono ?_); rintro e wn ⟨rfl, hwn, htn⟩; replace hs := hs.turned hwn htn; clear hwn htn)
      replace hs := hs.drew
      go_region_held3 (fun w' => w'.cell? ⟨w.heap.size, 0, none⟩ = some (.int .u16 3) ∧ w'.cell? ⟨w.heap.size, 1, none⟩ = some (.int .u16 10))
        (first | exact ⟨hs.cell 0 _ rfl, hs.cell 1 _ rfl⟩)
        (first
          | (go_at_call 24; (with_reducible refine (wu16_any _ _ _ _ _ hs.wr_ (by simp [b2]) (by omega) (by omega)).mono ?_); rintro e wn ⟨rfl, hwn, htn⟩; replace hs := hs.turned hwn htn; clear hwn htn)
          | (go_at_call 25; (with_reducible refine (wu32_any _ _ _ _ _ hs.wr_ (by simp [b2]) (by omega) (by omega)).mono ?_); rintro e wn ⟨rfl, hwn, htn⟩; replace hs := hs.turned hwn htn; clear hwn htn))
      all_goals
        have HY : Hid ([] ++ b2 0 ++ b2 1 ++ b2 3 ++ b2 10 ++ b4 12 = cHd true) := by show _ = _; unfold cHd; simp
        rw [HY.out] at hs
        have hcl := cHd_len true
        have hrw := hrow2.below hs.bel
        go_wp2_with fail
        with_reducible refine (wput_any _ _ _ _ _ _ zs _ hs.wr_ hrw (by have := HL.out; omega)).mono ?_
        rintro e w8 ⟨rfl, hw8, ht8⟩
        replace hs := hs.turned hw8 ht8
        rw [← HO2.out] at hs
        have hcol : (cOut l true).length ≤ 20000000 := by rw [HO2.out, List.length_append, hcl]; have := HL.out; omega
        clear hw8 ht8 hrw hcl
        go_wp2_with fail
        with_reducible refine (done_any _ _ _ _ hs.wr_ (by omega)).mono ?_
        rintro e w9 ⟨A3, n3, c3, rfl, hown3, hb3⟩
        have hsz := hb2.size
        have hbel := hs.bel
        go_wp2
        go_ret
        exact ⟨A3, n3, c3, rfl, hown3.mono (Nat.le_trans hsz hbel.size), hb2.trans ((hbel.trans (hb3.mono hbel.size)).mono hsz)⟩
  | false =>
    have e1 : ∀ args w, (callFunc 22 args).run Tryd.prog w = .ok (.enter 22 args) w := enters_of Tryd.func22 (by kernel_rfl) rfl
    have hA : Below w.heap.size w (w.alloc (.cells #[.int .u16 3, .int .u16 1] 65)) := (Below.refl _ _).alloc (Nat.le_refl _) _
    have k0 := heap_alloc_new w (.cells #[.int .u16 3, .int .u16 1] 65)
    have HG := Lib.hid (sbuild_any A n c l _ (hr.below hA) (by omega) hg)
    have HO : Hid (cOut l false = if (sOut l).length = 0 then [] else cHd false ++ sOut l) := rfl
    have hol : (sOut l).length ≤ 12000000 := hlen
    clear hr hg
    generalize sOut l = zs at *
    go_enter Tryd.func10, Tryd.ntmps10
    go_wp2_with fail
    with_reducible refine HG.out.mono ?_
    rintro e w2 ⟨A2, n2, c2, rfl, hown, hb2'⟩
    have hb2 := hA.trans (hb2'.mono hA.size)
    have k2 := kept_block k0 hb2'
    have hl2 := hown.len
    have hrow2 := hown.row
    clear hA k0 HG hb2' hown e1
    by_cases hz : n2 = 0
    · have HO2 : Hid (cOut l false = []) := by show _ = _; rw [HO.out, if_pos (by omega)]
      have bz : ((n2 : Int) == 0) = true := by simp [hz]
      clear hz HO
      go_wp2
      go_ret
      exact ⟨none, 0, 0, rfl, by rw [HO2.out]; exact Own.nil _ _ _ _, hb2⟩
    · have HO2 : Hid (cOut l false = cHd false ++ zs) := by show _ = _; rw [HO.out, if_neg (by omega)]
      have bz : ((n2 : Int) == 0) = false := by simp; omega
      have hw0 := wr_new w2
      have hA0 : Below w2.heap.size w2 (w2.alloc (.cells #[.slice none 0 0] 68)) := (Below.refl _ _).alloc (Nat.le_refl _) _
      have hs : StB w2 (w2.alloc (.cells #[.slice none 0 0] 68)) w2.heap.size [] w.heap.size #[.int .u16 3, .int .u16 1] 65 := ⟨hw0, hA0, kept_block k2 hA0, by decide, by decide⟩
      have HL := Lib.hid hl2
      clear hz HO hw0 hA0 k2 hl2
      go_wp2_with (go_at_call 24; (with_reducible refine (wu16_any _ _ _ _ _ hs.wr_ (by simp [b2]) (by omega) (by omega)).mono ?_); rintro e wn ⟨rfl, hwn, htn⟩; replace hs := hs.turned hwn htn; clear hwn htn)
      replace hs := hs.drew
      go_region_held3 (fun w' => w'.cell? ⟨w.heap.size, 0, none⟩ = some (.int .u16 3) ∧ w'.cell? ⟨w.heap.size, 1, none⟩ = some (.int .u16 1))
        (first | exact ⟨hs.cell 0 _ rfl, hs.cell 1 _ rfl⟩)
        (first
          | (go_at_call 24; (with_reducible refine (wu16_any _ _ _ _ _ hs.wr_ (by simp [b2]) (by omega) (by omega)).mono ?_); rintro e wn ⟨rfl, hwn, htn⟩; replace hs := hs.turned hwn htn; clear hwn htn)
          | (go_at_call 25; (with_reducible refine (wu32_any _ _ _ _ _ hs.wr_ (by simp [b2]) (by omega) (by omega)).mono ?_); rintro e wn ⟨rfl, hwn, htn⟩; replace hs := hs.turned hwn htn; clear hwn htn))
      all_goals
        have HY : Hid ([] ++ b2 0 ++ b2 1 ++ b2 3 ++ b2 1 ++ b4 12 = cHd false) := by show _ = _; unfold cHd; simp
        rw [HY.out] at hs
        have hcl := cHd_len false
        have hrw := hrow2.below hs.bel
        go_wp2_with fail
        with_reducible refine (wput_any _ _ _ _ _ _ zs _ hs.wr_ hrw (by have := HL.out; omega)).mono ?_
        rintro e w8 ⟨rfl, hw8, ht8⟩
        replace hs := hs.turned hw8 ht8
        rw [← HO2.out] at hs
        have hcol : (cOut l false).length ≤ 20000000 := by rw [HO2.out, List.length_append, hcl]; have := HL.out; omega
        clear hw8 ht8 hrw hcl
        go_wp2_with fail
        with_reducible refine (done_any _ _ _ _ hs.wr_ (by omega)).mono ?_
        rintro e w9 ⟨A3, n3, c3, rfl, hown3, hb3⟩
        have hsz := hb2.size
        have hbel := hs.bel
        go_wp2
        go_ret
        exact ⟨A3, n3, c3, rfl, hown3.mono (Nat.le_trans hsz hbel.size), hb2.trans ((hbel.trans (hb3.mono hbel.size)).mono hsz)⟩

end Go.Proofs.YthkaeimpflggjaaDoor

/- Pairs that rise, and what a code finds among the first k: plain lists. -/
namespace Go.Proofs.YthkaeimpflggjaaDoor
set_option linter.unusedVariables false

theorem risesF_take {most : Int} : ∀ {l : List Pr} {ah : Int} (k : Nat), risesF most ah l = true → risesF most ah (l.take k) = true
  | [], _, k, _ => by simp [risesF]
  | p :: r, ah, 0, h => rfl
  | p :: r, ah, k + 1, h => by
    obtain ⟨h1, h2, h3⟩ := risesF_cons h
    rw [List.take_succ_cons, risesF, risesF_take k h3, Bool.and_true, decide_eq_true_eq]
    exact ⟨h1, h2⟩
theorem glyphOf_other {code : Int} {y : Pr} (h : y.code ≠ code) : ∀ l : List Pr, glyphOf code (l ++ [y]) = glyphOf code l
  | [] => by
    show (if y.code = code then y.glyph else glyphOf code []) = glyphOf code []
    rw [if_neg h]
  | p :: r => by rw [List.cons_append, glyphOf, glyphOf, glyphOf_other h r]
theorem glyphOf_this {most code : Int} {l : List Pr} {k : Nat} {y : Pr} (hr : risesF most (-1) l = true) (hy : l[k]? = some y) (h : y.code = code) : glyphOf code (l.take (k + 1)) = y.glyph := by
  subst h
  exact glyphOf_mem (risesF_take (k + 1) hr) (k := k) (by rw [List.getElem?_take]; simp [hy])
theorem glyphOf_lt {code : Int} : ∀ {l : List Pr}, PrG l → 0 ≤ glyphOf code l ∧ glyphOf code l ≤ 65535
  | [], _ => by simp [glyphOf]
  | p :: r, h => by
    rw [glyphOf]
    split
    · exact h p (by simp)
    · exact glyphOf_lt (fun x hx => h x (by simp [hx]))


end Go.Proofs.YthkaeimpflggjaaDoor
