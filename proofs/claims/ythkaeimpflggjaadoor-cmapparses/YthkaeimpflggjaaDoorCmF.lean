/- The document's Find and Look of a table cmap: contracts over this seat's translation. -/
import Derived.Test.YthkaeimpflggjaaDoorCmS
import Derived.Test.YthkaeimpflggjaaDoorGrpR
import Derived.Test.YthkaeimpflggjaaDoorSegV
import Derived.Test.YthkaeimpflggjaaDoorWin
namespace Go.Proofs.YthkaeimpflggjaaDoor
open Go.RowKit
set_option linter.unusedVariables false

def wantL : List (List Int) := [[0, 3, 0, 10], [0, 0, 0, 4], [0, 3, 0, 1], [0, 0, 0, 3]]
theorem want_b2 {k : Nat} {x : Int × Int} {y : List Int} (hx : ksL[k]? = some x) (hy : wantL[k]? = some y) : y = b2 x.1 ++ b2 x.2 := by
  rcases k with _ | _ | _ | _ | k <;> simp [ksL] at hx <;> simp [wantL] at hy <;> subst hx hy <;> rfl
theorem ksL_wd {k : Nat} {x : Int × Int} (hx : ksL[k]? = some x) : decide (x.2 = 10 ∨ x.2 = 4) = decide (k < 2) := by
  rcases k with _ | _ | _ | _ | k <;> simp [ksL] at hx <;> subst hx <;> simp
theorem same_is {zs : List Int} (hB : Bytes zs) {k i : Nat} {x : Int × Int} {y : List Int} (hx : ksL[k]? = some x) (hy : wantL[k]? = some y) (hl : 8 + 8 * i ≤ zs.length) : sameB ((zs.drop (4 + 8 * i)).take 4) y = cIs zs x.1 x.2 i := by
  have e : (zs.drop (4 + 8 * i)).take 4 = b2 (n2at zs (4 + 8 * i)) ++ b2 (n2at zs (6 + 8 * i)) := by
    rw [b2_win hB (i := 4 + 8 * i) (by omega), b2_win hB (i := 6 + 8 * i) (by omega), show 6 + 8 * i = 4 + 8 * i + 2 by omega]
    rw [← win_join zs (4 + 8 * i) 2 2]
  have k4 := n2at_lt hB (4 + 8 * i)
  have k6 := n2at_lt hB (6 + 8 * i)
  have hk := ksL_kind hx
  rw [e, want_b2 hx hy]
  unfold sameB cIs
  rw [Bool.eq_iff_iff, decide_eq_true_iff, decide_eq_true_iff]
  generalize n2at zs (4 + 8 * i) = u at *
  generalize n2at zs (6 + 8 * i) = v at *
  obtain ⟨a, b⟩ := x
  simp only [b2, List.cons_append, List.nil_append, List.cons.injEq, and_true] at hk ⊢
  omega

/-- What Find leaves. -/
def RetFd (w : World) (zs : List Int) (n : Nat) (e : Ending) (w' : World) : Prop :=
  Below w.heap.size w w' ∧ ∃ (As : Option Addr) (ns cs : Nat) (wd : Bool) (N : Int) (ok : Bool), e = .returned (.tuple #[.slice As ns cs, .bool wd, .int .i64 N, .bool ok]) ∧ ok = (cFind zs).isSome ∧
    ∀ wd' v, cFind zs = some (wd', v) → wd = wd' ∧ N = (cCnt wd' (zs.drop v) : Int) ∧ Row w' As ns (cellsOf .u8 (zs.drop v)) ∧ ns ≤ cs ∧ ns ≤ n

/-- The four kinds' bytes in memory. -/
structure FS (w wr : World) (b0 b1 b2 b3 b4 : Nat) : Prop where
  row : Row wr (some ⟨b4, 0, none⟩) 4 [.slice (some ⟨b0, 0, none⟩) 4 4, .slice (some ⟨b1, 0, none⟩) 4 4, .slice (some ⟨b2, 0, none⟩) 4 4, .slice (some ⟨b3, 0, none⟩) 4 4]
  byt : ∀ (k b : Nat) (y : List Int), [b0, b1, b2, b3][k]? = some b → wantL[k]? = some y → Row wr (some ⟨b, 0, none⟩) 4 (cellsOf .u8 y)
  bel : Below w.heap.size w wr
theorem FS.below {w wr w' : World} {b0 b1 b2 b3 b4 : Nat} (h : FS w wr b0 b1 b2 b3 b4) (hb : Below wr.heap.size wr w') : FS w w' b0 b1 b2 b3 b4 := ⟨h.row.below hb, fun k b y hy hx => (h.byt k b y hy hx).below hb, h.bel.trans (hb.mono h.bel.size)⟩
theorem FS.cell {w wr : World} {b0 b1 b2 b3 b4 k b : Nat} (h : FS w wr b0 b1 b2 b3 b4) (hk : [b0, b1, b2, b3][k]? = some b) : wr.cell? ⟨b4, k, none⟩ = some (.slice (some ⟨b, 0, none⟩) 4 4) := by
  have hx : ([.slice (some ⟨b0, 0, none⟩) 4 4, .slice (some ⟨b1, 0, none⟩) 4 4, .slice (some ⟨b2, 0, none⟩) 4 4, .slice (some ⟨b3, 0, none⟩) 4 4] : List Value)[k]? = some (.slice (some ⟨b, 0, none⟩) 4 4) := by
    rcases k with _ | _ | _ | _ | k <;> simp at hk <;> subst hk <;> rfl
  obtain ⟨g', off', e', _, hc⟩ := h.row.at hx
  simp only [Option.some.injEq, Addr.mk.injEq, and_true] at e'
  obtain ⟨rfl, rfl⟩ := e'
  simpa using hc
theorem FS.new (w W : World) (hb : Below w.heap.size w W) : FS w (((((W.alloc (.cells #[.int .u8 0, .int .u8 3, .int .u8 0, .int .u8 10] 5)).alloc (.cells #[.int .u8 0, .int .u8 0, .int .u8 0, .int .u8 4] 5)).alloc (.cells #[.int .u8 0, .int .u8 3, .int .u8 0, .int .u8 1] 5)).alloc (.cells #[.int .u8 0, .int .u8 0, .int .u8 0, .int .u8 3] 5)).alloc (.cells #[.slice (some ⟨W.heap.size, 0, none⟩) 4 4, .slice (some ⟨W.heap.size + 1, 0, none⟩) 4 4, .slice (some ⟨W.heap.size + 1 + 1, 0, none⟩) 4 4, .slice (some ⟨W.heap.size + 1 + 1 + 1, 0, none⟩) 4 4] 28)) W.heap.size (W.heap.size + 1) (W.heap.size + 1 + 1) (W.heap.size + 1 + 1 + 1) (W.heap.size + 1 + 1 + 1 + 1) := by
  have key : ∀ (V : World) (o : Obj), Below V.heap.size V (V.alloc o) := fun V o => (Below.refl _ _).alloc (Nat.le_refl _) _
  have r0 := row_vals W 5 (cellsOf .u8 [0, 3, 0, 10]) 4 rfl
  have r1 := row_vals (W.alloc (.cells #[.int .u8 0, .int .u8 3, .int .u8 0, .int .u8 10] 5)) 5 (cellsOf .u8 [0, 0, 0, 4]) 4 rfl
  have r2 := row_vals ((W.alloc (.cells #[.int .u8 0, .int .u8 3, .int .u8 0, .int .u8 10] 5)).alloc (.cells #[.int .u8 0, .int .u8 0, .int .u8 0, .int .u8 4] 5)) 5 (cellsOf .u8 [0, 3, 0, 1]) 4 rfl
  have r3 := row_vals (((W.alloc (.cells #[.int .u8 0, .int .u8 3, .int .u8 0, .int .u8 10] 5)).alloc (.cells #[.int .u8 0, .int .u8 0, .int .u8 0, .int .u8 4] 5)).alloc (.cells #[.int .u8 0, .int .u8 3, .int .u8 0, .int .u8 1] 5)) 5 (cellsOf .u8 [0, 0, 0, 3]) 4 rfl
  have r4 := row_vals ((((W.alloc (.cells #[.int .u8 0, .int .u8 3, .int .u8 0, .int .u8 10] 5)).alloc (.cells #[.int .u8 0, .int .u8 0, .int .u8 0, .int .u8 4] 5)).alloc (.cells #[.int .u8 0, .int .u8 3, .int .u8 0, .int .u8 1] 5)).alloc (.cells #[.int .u8 0, .int .u8 0, .int .u8 0, .int .u8 3] 5)) 28 [.slice (some ⟨W.heap.size, 0, none⟩) 4 4, .slice (some ⟨W.heap.size + 1, 0, none⟩) 4 4, .slice (some ⟨W.heap.size + 1 + 1, 0, none⟩) 4 4, .slice (some ⟨W.heap.size + 1 + 1 + 1, 0, none⟩) 4 4] 4 rfl
  have s1 : (W.alloc (.cells #[.int .u8 0, .int .u8 3, .int .u8 0, .int .u8 10] 5)).heap.size = W.heap.size + 1 := by simp
  have s2 : ((W.alloc (.cells #[.int .u8 0, .int .u8 3, .int .u8 0, .int .u8 10] 5)).alloc (.cells #[.int .u8 0, .int .u8 0, .int .u8 0, .int .u8 4] 5)).heap.size = W.heap.size + 1 + 1 := by simp
  have s3 : (((W.alloc (.cells #[.int .u8 0, .int .u8 3, .int .u8 0, .int .u8 10] 5)).alloc (.cells #[.int .u8 0, .int .u8 0, .int .u8 0, .int .u8 4] 5)).alloc (.cells #[.int .u8 0, .int .u8 3, .int .u8 0, .int .u8 1] 5)).heap.size = W.heap.size + 1 + 1 + 1 := by simp
  have s4 : ((((W.alloc (.cells #[.int .u8 0, .int .u8 3, .int .u8 0, .int .u8 10] 5)).alloc (.cells #[.int .u8 0, .int .u8 0, .int .u8 0, .int .u8 4] 5)).alloc (.cells #[.int .u8 0, .int .u8 3, .int .u8 0, .int .u8 1] 5)).alloc (.cells #[.int .u8 0, .int .u8 0, .int .u8 0, .int .u8 3] 5)).heap.size = W.heap.size + 1 + 1 + 1 + 1 := by simp
  rw [s1] at r1
  rw [s2] at r2
  rw [s3] at r3
  rw [s4] at r4
  refine ⟨r4, fun k b y hx hy => ?_, ?_⟩
  · rcases k with _ | _ | _ | _ | k <;> simp [wantL] at hy <;> simp at hx <;> subst hy hx
    · exact (((r0.below (key _ _)).below (key _ _)).below (key _ _)).below (key _ _)
    · exact ((r1.below (key _ _)).below (key _ _)).below (key _ _)
    · exact (r2.below (key _ _)).below (key _ _)
    · exact r3.below (key _ _)
  · exact ((((hb.alloc hb.size _).alloc (by have := hb.size; simp; omega) _).alloc (by have := hb.size; simp; omega) _).alloc (by have := hb.size; simp; omega) _).alloc (by have := hb.size; simp; omega) _

/-- Four results. -/
theorem results4 {P : Program} {fn : Func} {a b c d : Tmp} (h : fn.results = #[.tmp a, .tmp b, .tmp c, .tmp d]) (tmps : Array Value) (w : World) {v0 v1 v2 v3 : Value} (h0 : tmps.getD a undef = v0) (h1 : tmps.getD b undef = v1) (h2 : tmps.getD c undef = v2) (h3 : tmps.getD d undef = v3) :
    (results fn tmps).run P w = .ok (.tuple #[v0, v1, v2, v3]) w := by
  subst h0 h1 h2 h3
  simp [results, h]

theorem retFd_no {w w' : World} {zs : List Int} {n : Nat} (h : cFind zs = none) (hb : Below w.heap.size w w') (As : Option Addr) (ns cs : Nat) (wd : Bool) (N : Int) : RetFd w zs n (.returned (.tuple #[.slice As ns cs, .bool wd, .int .i64 N, .bool false])) w' :=
  ⟨hb, As, ns, cs, wd, N, false, rfl, by rw [h]; rfl, fun wd' v hv => by rw [h] at hv; cases hv⟩

set_option maxRecDepth 100000 in
set_option maxHeartbeats 8000000 in
theorem rfind_any (A : Option Addr) (n c : Nat) (zs : List Int) (w : World) (hr : Row w A n (cellsOf .u8 zs)) (hB : Bytes zs) (hn : n ≤ 1000000) (hc : n ≤ c) :
    Calls Tryd.prog 17 #[.slice A n c] w (RetFd w zs n) := by
  have HN2 : Hid (∀ (i : Nat) (a : Int) W, a = i → i ≤ 100000000 → Below w.heap.size w W → Calls Tryd.prog 35 #[.slice A n c, .int .i64 a] W (Quiet W (.tuple #[.int .i64 (n2at zs i), .bool (n2b zs i)]))) := fun i a W ha hi hW => by subst ha; have := n2_any A n c zs i W (hr.below hW) hB (by omega) (by omega); rwa [n2v_at] at this
  have HN4 : Hid (∀ (i : Nat) (a : Int) W, a = i → i ≤ 100000000 → Below w.heap.size w W → Calls Tryd.prog 36 #[.slice A n c, .int .i64 a] W (Quiet W (.tuple #[.int .u32 (n4at zs i), .bool (n4b zs i)]))) := fun i a W ha hi hW => by subst ha; have := n4_any A n c zs i W (hr.below hW) hB (by omega) (by omega); rwa [n4v_at] at this
  have h0 := HN2.out 0 0 w rfl (by omega) (Below.refl _ _)
  have H0 := Lib.hid h0
  clear h0
  have hl := hr.len
  have k2 := n2at_lt hB 2
  have hN : n2at zs 2 = (cN zs : Int) := by unfold cN; omega
  have hf : cFront zs = (decide (4 ≤ n) && decide (n2at zs 0 = 0) && decide (4 + 8 * cN zs ≤ n)) := by unfold cFront; rw [hl]
  have hb0 : n2b zs 0 = decide (2 ≤ n) := by unfold n2b; rw [hl]
  have hb2 : n2b zs 2 = decide (4 ≤ n) := by unfold n2b; rw [hl]
  have HL := Lib.hid hl
  have HB := Lib.hid hB
  have HF := Lib.hid hf
  have H2 := Lib.hid (fun W hW => HN2.out 2 2 W rfl (by omega) hW)
  rw [hb0] at H0
  rw [hb2, hN] at H2
  have hN16 : cN zs ≤ 65535 := by omega
  have RNo : Hid (∀ W, cFront zs = false → Below w.heap.size w W → RetFd w zs n (.returned (.tuple #[.slice none 0 0, .bool false, .int .i64 0, .bool false])) W) := fun W h1 h2 => retFd_no (by unfold cFind; rw [h1]; rfl) h2 _ _ _ _ _
  clear hf hb0 hb2 hN k2 hl hB HN2
  have hbr := Below.refl w.heap.size w
  cases hfr : cFront zs with
  | false =>
    have HT := Lib.hid (fun W hW => RNo.out W hfr hW)
    have hfr' := HF.out
    rw [hfr] at hfr'
    clear RNo HF hr
    generalize n2at zs 0 = v0 at *
    generalize cN zs = N at *
    go_enter Tryd.func17, Tryd.ntmps17
    go_wp2_with fail
    with_reducible refine H0.out.mono ?_
    rintro e w1 ⟨rfl, q1, hw1⟩
    have hb1 : Below w.heap.size w w1 := by rw [hw1]; exact below_drewN hbr q1
    clear hbr H0 hw1
    go_wp2_with fail
    with_reducible refine (H2.out _ hb1).mono ?_
    rintro e w2 ⟨rfl, q2, hw2⟩
    have hb2 : Below w.heap.size w w2 := by rw [hw2]; exact below_drewN hb1 q2
    have HT2 := Lib.hid (HT.out _ hb2)
    clear hb1 H2 hw2 hb2 HT HN4
    by_cases h1 : 2 ≤ n
    · have d1 : decide (2 ≤ n) = true := decide_eq_true h1
      by_cases h2 : 4 ≤ n
      · have d2 : decide (4 ≤ n) = true := decide_eq_true h2
        by_cases h3 : v0 = 0
        · have d3 : (v0 != 0) = false := by simp [h3]
          have d4 : n < 4 + 8 * N := by
            rw [d2, decide_eq_true h3] at hfr'
            simp at hfr'
            omega
          have d5 : (n : Int) < 4 + 8 * (N : Int) := by omega
          clear hfr' h3 h2 h1
          go_wp2
          exact bodyPost_ret (results4 Tryd.results17 _ _ rfl rfl rfl rfl) rfl HT2.out
        · have d3 : (v0 != 0) = true := by simp [h3]
          clear hfr' h3 h2 h1
          go_wp2
          exact bodyPost_ret (results4 Tryd.results17 _ _ rfl rfl rfl rfl) rfl HT2.out
      · have d2 : decide (4 ≤ n) = false := decide_eq_false h2
        clear hfr' h2 h1
        go_wp2
        exact bodyPost_ret (results4 Tryd.results17 _ _ rfl rfl rfl rfl) rfl HT2.out
    · have d1 : decide (2 ≤ n) = false := decide_eq_false h1
      clear hfr' h1
      go_wp2
      exact bodyPost_ret (results4 Tryd.results17 _ _ rfl rfl rfl rfl) rfl HT2.out
  | true =>
    have hfr' := HF.out
    rw [hfr] at hfr'
    have h3 : 4 ≤ n ∧ n2at zs 0 = 0 ∧ 4 + 8 * cN zs ≤ n := by
      have h := hfr'.symm
      simp only [Bool.and_eq_true, decide_eq_true_eq] at h
      exact ⟨h.1.1, h.1.2, h.2⟩
    obtain ⟨h4, h5, h6⟩ := h3
    have HCf : Hid (∀ wd v, cPick zs = some (wd, v) → cFind zs = if cOk zs wd v then some (wd, v.toNat) else none) := fun wd v h => by unfold cFind; rw [hfr, h]; rfl
    have HCn : Hid (cPick zs = none → cFind zs = none) := fun h => by unfold cFind; rw [hfr, h]; rfl
    rw [h5, decide_eq_true (show 2 ≤ n by omega)] at H0
    rw [decide_eq_true h4] at H2
    clear RNo HF hfr' hfr h5
    obtain ⟨fg, foff, rfl, hfg, _⟩ := hr.2 (by omega)
    go_enter Tryd.func17, Tryd.ntmps17
    go_wp2_with fail
    with_reducible refine H0.out.mono ?_
    rintro e w1 ⟨rfl, q1, hw1⟩
    have hb1 : Below w.heap.size w w1 := by rw [hw1]; exact below_drewN hbr q1
    clear hbr H0 hw1
    go_wp2_with fail
    with_reducible refine (H2.out _ hb1).mono ?_
    rintro e w2 ⟨rfl, q2, hw2⟩
    have hb2 : Below w.heap.size w w2 := by rw [hw2]; exact below_drewN hb1 q2
    have hs := FS.new w w2 hb2
    clear hb1 H2 hw2 hb2
    generalize hNN : cN zs = N at *
    have HNN := Lib.hid hNN
    clear hNN
    have hne4 : decide ((n : Int) < 4 + 8 * (N : Int)) = false := decide_eq_false (by omega)
    go_wp2
    clear hne4
    generalize ((((w2.alloc (.cells #[.int .u8 0, .int .u8 3, .int .u8 0, .int .u8 10] 5)).alloc (.cells #[.int .u8 0, .int .u8 0, .int .u8 0, .int .u8 4] 5)).alloc (.cells #[.int .u8 0, .int .u8 3, .int .u8 0, .int .u8 1] 5)).alloc (.cells #[.int .u8 0, .int .u8 0, .int .u8 0, .int .u8 3] 5)).alloc (.cells #[.slice (some ⟨w2.heap.size, 0, none⟩) 4 4, .slice (some ⟨w2.heap.size + 1, 0, none⟩) 4 4, .slice (some ⟨w2.heap.size + 1 + 1, 0, none⟩) 4 4, .slice (some ⟨w2.heap.size + 1 + 1 + 1, 0, none⟩) 4 4] 28) = W0 at hs ⊢
    generalize w2.heap.size + 1 + 1 + 1 + 1 = b4 at hs ⊢
    generalize w2.heap.size + 1 + 1 + 1 = b3 at hs ⊢
    generalize w2.heap.size + 1 + 1 = b2_ at hs ⊢
    generalize w2.heap.size + 1 = b1 at hs ⊢
    generalize w2.heap.size = b0 at hs ⊢
    go_loopw [54] (fun i wr => ∃ k : Nat, k ≤ 4 ∧ i = .int .i64 k ∧ Hid (NoK zs k) ∧ FS w wr b0 b1 b2_ b3 b4) (fun i _ => 4 - (intOf i).toNat)
    case atStart => exact ⟨0, by omega, rfl, Lib.hid (fun j x hj _ => absurd hj (by omega)), hs⟩
    case round =>
      clear hs
      obtain ⟨k, hk, rfl, HNo, hs⟩ := hrel
      by_cases hlt : k < 4
      · obtain ⟨x, hx⟩ := getP (l := ksL) (j := k) hlt
        obtain ⟨y, hy⟩ := getP (l := wantL) (j := k) hlt
        obtain ⟨bk, hbk⟩ := getP (l := [b0, b1, b2_, b3]) (j := k) hlt
        have hcell := hs.cell hbk
        have hwd := ksL_wd hx
        have Hwd := Lib.hid hwd
        have HX := Lib.hid hx
        have HY := Lib.hid hy
        have HBk := Lib.hid hbk
        have d4 : decide ((k : Int) < 4) = true := decide_eq_true (by omega)
        clear hwd hx hy hbk
        go_wp2
        clear hcell
        go_loopw [12] (fun i wr => ∃ i2 : Nat, i2 ≤ N ∧ i = .int .i64 i2 ∧ Hid (∀ j, j < i2 → cIs zs x.1 x.2 j = false) ∧ FS w wr b0 b1 b2_ b3 b4) (fun i _ => N - (intOf i).toNat)
        case atStart => exact ⟨0, by omega, rfl, Lib.hid (fun j hj => absurd hj (by omega)), hs⟩
        case round =>
          clear hs
          obtain ⟨i2, hi2, rfl, HIs, hs⟩ := hrel
          by_cases hlt2 : i2 < N
          · have HSm := Lib.hid (same_is HB.out HX.out HY.out (i := i2) (by have := HL.out; omega))
            have hp8 : Row wr (some ⟨fg, foff + (4 + 8 * i2), none⟩) 4 (cellsOf .u8 ((zs.drop (4 + 8 * i2)).take 4)) := by
              have h := ((hr.below hs.bel).drop (4 + 8 * i2)).take (k := 4) (by omega)
              rw [cellsOf_drop, cellsOf_take] at h
              simpa only [Option.map_some, Addr.add_lit] using h
            have hyr := hs.byt k bk y HBk.out HY.out
            have HSa := Lib.hid (same_any (some ⟨fg, foff + (4 + 8 * i2), none⟩) (some ⟨bk, 0, none⟩) 4 (c - (4 + 8 * i2)) 4 4 _ y wr hp8 hyr (by omega) (by omega))
            rw [HSm.out] at HSa
            have cc : ¬ c = 4 + 8 * i2 := by omega
            clear hp8 hyr HSm
            go_wp2_with fail
            rw [show 8 + 8 * i2 - (4 + 8 * i2) = 4 by omega]
            with_reducible refine HSa.out.mono ?_
            rintro e w3 ⟨rfl, q3, hw3⟩
            have hb3 : Below wr.heap.size wr w3 := by rw [hw3]; exact below_drewN (Below.refl _ _) q3
            have hs3 := hs.below hb3
            clear hs hb3 hw3 HSa cc
            cases hi : cIs zs x.1 x.2 i2 with
            | false =>
              have HI2 : Hid (∀ j, j < i2 + 1 → cIs zs x.1 x.2 j = false) := fun j hj => by
                rcases Nat.lt_or_ge j i2 with h | h
                · exact HIs.out j h
                · obtain rfl : j = i2 := by omega
                  exact hi
              clear hi
              go_wp2
              go_roundw
              case rel => exact ⟨i2 + 1, by omega, by go_num, HI2, hs3⟩
              case measure => simp [intOf]; omega
            | true =>
              have hfst := cFst_at (n := cN zs) (by rw [HNN.out]; exact hlt2) HIs.out hi
              have hpk := noK_pick HNo.out HX.out hfst
              rw [Hwd.out] at hpk
              have hc0 := HCf.out _ _ hpk
              have hvb := cFst_lt HB.out hfst
              have hv4 := HN4.out (8 + 8 * i2) (8 + 8 * (i2 : Int)) w3 (by omega) (by omega) hs3.bel
              have hcv0 : n4at zs (8 + 8 * i2) = cVal zs i2 := rfl
              rw [hcv0] at hv4
              obtain ⟨v, hv⟩ : ∃ v : Nat, cVal zs i2 = (v : Int) := ⟨(cVal zs i2).toNat, by omega⟩
              rw [hv] at hv4 hc0 hvb
              rw [Int.toNat_natCast] at hc0
              have HC := Lib.hid hc0
              have HV4 := Lib.hid hv4
              clear hfst hpk hc0 hv4 hcv0 hv hi HCf HCn HN4 HIs HNo HX HY HBk Hwd
              generalize n4b zs (8 + 8 * i2) = okb at *
              go_wp2_with fail
              with_reducible refine HV4.out.mono ?_
              rintro e w4 ⟨rfl, q4, hw4⟩
              have hb4 : Below w3.heap.size w3 w4 := by rw [hw4]; exact below_drewN (Below.refl _ _) q4
              have hs4 := hs3.below hb4
              clear hs3 hb4 hw4 HV4
              by_cases hvn : v ≤ n
              · by_cases hcv : c = v
                · by_cases hk2 : k < 2
                  · rw [decide_eq_true hk2] at HC
                    have hrw : Row w4 (some ⟨fg, foff, none⟩) (n - v) (cellsOf .u8 (zs.drop v)) := ⟨by rw [cellsOf_length, List.length_drop, HL.out], fun h => absurd h (by omega)⟩
                    have HR := Lib.hid (rright10_any (some ⟨fg, foff, none⟩) (n - v) 0 (zs.drop v) w4 hrw (drop_bytes HB.out _) (by omega))
                    have HC2 : Hid (cFind zs = if gRight (zs.drop v) then some (true, v) else none) := by show _ = _; rw [HC.out]; unfold cOk; rw [HL.out, decide_eq_true (by omega)]; simp
                    go_wp2_with fail
                    with_reducible refine HR.out.mono ?_
                    rintro e w5 ⟨rfl, hb5⟩
                    have hs5 := hs4.below hb5
                    have hrw5 := hrw.below hb5
                    have hbel := hs5.bel
                    have HRet : Hid (RetFd w zs n (.returned (.tuple #[.slice (some ⟨fg, foff, none⟩) (n - v) 0, .bool true, .int .i64 (gRV (zs.drop v)), .bool (gRight (zs.drop v))])) w5) := by
                      refine ⟨hbel, _, _, _, true, gRV (zs.drop v), gRight (zs.drop v), rfl, by rw [HC2.out]; cases gRight (zs.drop v) <;> rfl, fun wd' v' hv' => ?_⟩
                      rw [HC2.out] at hv'
                      cases hg : gRight (zs.drop v) with
                      | false => rw [hg] at hv'; simp at hv'
                      | true =>
                        rw [hg] at hv'
                        simp at hv'
                        obtain ⟨rfl, rfl⟩ := hv'
                        exact ⟨rfl, by unfold gRV cCnt; rw [hg]; rfl, hrw5, by omega, by omega⟩
                    clear hs4 hs5 hrw hrw5 hbel HR hb5 HC HC2
                    generalize gRight (zs.drop v) = rb at *
                    generalize gRV (zs.drop v) = rn at *
                    go_wp2
                    exact bodyPost_ret (results4 Tryd.results17 _ _ rfl rfl rfl rfl) rfl HRet.out
                  · rw [decide_eq_false hk2] at HC
                    have hrw : Row w4 (some ⟨fg, foff, none⟩) (n - v) (cellsOf .u8 (zs.drop v)) := ⟨by rw [cellsOf_length, List.length_drop, HL.out], fun h => absurd h (by omega)⟩
                    have HR := Lib.hid (rright9_any (some ⟨fg, foff, none⟩) (n - v) 0 (zs.drop v) w4 hrw (drop_bytes HB.out _) (by omega) (by omega))
                    have HC2 : Hid (cFind zs = if sRight (zs.drop v) then some (false, v) else none) := by show _ = _; rw [HC.out]; unfold cOk; rw [HL.out, decide_eq_true (by omega)]; simp
                    go_wp2_with fail
                    with_reducible refine HR.out.mono ?_
                    rintro e w5 ⟨rfl, hb5⟩
                    have hs5 := hs4.below hb5
                    have hrw5 := hrw.below hb5
                    have hbel := hs5.bel
                    have HRet : Hid (RetFd w zs n (.returned (.tuple #[.slice (some ⟨fg, foff, none⟩) (n - v) 0, .bool false, .int .i64 (sRV (zs.drop v)), .bool (sRight (zs.drop v))])) w5) := by
                      refine ⟨hbel, _, _, _, false, sRV (zs.drop v), sRight (zs.drop v), rfl, by rw [HC2.out]; cases sRight (zs.drop v) <;> rfl, fun wd' v' hv' => ?_⟩
                      rw [HC2.out] at hv'
                      cases hg : sRight (zs.drop v) with
                      | false => rw [hg] at hv'; simp at hv'
                      | true =>
                        rw [hg] at hv'
                        simp at hv'
                        obtain ⟨rfl, rfl⟩ := hv'
                        exact ⟨rfl, by unfold sRV cCnt; rw [hg]; rfl, hrw5, by omega, by omega⟩
                    clear hs4 hs5 hrw hrw5 hbel HR hb5 HC HC2
                    generalize sRight (zs.drop v) = rb at *
                    generalize sRV (zs.drop v) = rn at *
                    go_wp2
                    exact bodyPost_ret (results4 Tryd.results17 _ _ rfl rfl rfl rfl) rfl HRet.out
                · by_cases hk2 : k < 2
                  · rw [decide_eq_true hk2] at HC
                    have hrw : Row w4 (some ⟨fg, foff + v, none⟩) (n - v) (cellsOf .u8 (zs.drop v)) := (by have h := (hr.below hs4.bel).drop v; rw [cellsOf_drop] at h; simpa only [Option.map_some, Addr.add_lit] using h)
                    have HR := Lib.hid (rright10_any (some ⟨fg, foff + v, none⟩) (n - v) (c - v) (zs.drop v) w4 hrw (drop_bytes HB.out _) (by omega))
                    have HC2 : Hid (cFind zs = if gRight (zs.drop v) then some (true, v) else none) := by show _ = _; rw [HC.out]; unfold cOk; rw [HL.out, decide_eq_true (by omega)]; simp
                    go_wp2_with fail
                    with_reducible refine HR.out.mono ?_
                    rintro e w5 ⟨rfl, hb5⟩
                    have hs5 := hs4.below hb5
                    have hrw5 := hrw.below hb5
                    have hbel := hs5.bel
                    have HRet : Hid (RetFd w zs n (.returned (.tuple #[.slice (some ⟨fg, foff + v, none⟩) (n - v) (c - v), .bool true, .int .i64 (gRV (zs.drop v)), .bool (gRight (zs.drop v))])) w5) := by
                      refine ⟨hbel, _, _, _, true, gRV (zs.drop v), gRight (zs.drop v), rfl, by rw [HC2.out]; cases gRight (zs.drop v) <;> rfl, fun wd' v' hv' => ?_⟩
                      rw [HC2.out] at hv'
                      cases hg : gRight (zs.drop v) with
                      | false => rw [hg] at hv'; simp at hv'
                      | true =>
                        rw [hg] at hv'
                        simp at hv'
                        obtain ⟨rfl, rfl⟩ := hv'
                        exact ⟨rfl, by unfold gRV cCnt; rw [hg]; rfl, hrw5, by omega, by omega⟩
                    clear hs4 hs5 hrw hrw5 hbel HR hb5 HC HC2
                    generalize gRight (zs.drop v) = rb at *
                    generalize gRV (zs.drop v) = rn at *
                    go_wp2
                    exact bodyPost_ret (results4 Tryd.results17 _ _ rfl rfl rfl rfl) rfl HRet.out
                  · rw [decide_eq_false hk2] at HC
                    have hrw : Row w4 (some ⟨fg, foff + v, none⟩) (n - v) (cellsOf .u8 (zs.drop v)) := (by have h := (hr.below hs4.bel).drop v; rw [cellsOf_drop] at h; simpa only [Option.map_some, Addr.add_lit] using h)
                    have HR := Lib.hid (rright9_any (some ⟨fg, foff + v, none⟩) (n - v) (c - v) (zs.drop v) w4 hrw (drop_bytes HB.out _) (by omega) (by omega))
                    have HC2 : Hid (cFind zs = if sRight (zs.drop v) then some (false, v) else none) := by show _ = _; rw [HC.out]; unfold cOk; rw [HL.out, decide_eq_true (by omega)]; simp
                    go_wp2_with fail
                    with_reducible refine HR.out.mono ?_
                    rintro e w5 ⟨rfl, hb5⟩
                    have hs5 := hs4.below hb5
                    have hrw5 := hrw.below hb5
                    have hbel := hs5.bel
                    have HRet : Hid (RetFd w zs n (.returned (.tuple #[.slice (some ⟨fg, foff + v, none⟩) (n - v) (c - v), .bool false, .int .i64 (sRV (zs.drop v)), .bool (sRight (zs.drop v))])) w5) := by
                      refine ⟨hbel, _, _, _, false, sRV (zs.drop v), sRight (zs.drop v), rfl, by rw [HC2.out]; cases sRight (zs.drop v) <;> rfl, fun wd' v' hv' => ?_⟩
                      rw [HC2.out] at hv'
                      cases hg : sRight (zs.drop v) with
                      | false => rw [hg] at hv'; simp at hv'
                      | true =>
                        rw [hg] at hv'
                        simp at hv'
                        obtain ⟨rfl, rfl⟩ := hv'
                        exact ⟨rfl, by unfold sRV cCnt; rw [hg]; rfl, hrw5, by omega, by omega⟩
                    clear hs4 hs5 hrw hrw5 hbel HR hb5 HC HC2
                    generalize sRight (zs.drop v) = rb at *
                    generalize sRV (zs.drop v) = rn at *
                    go_wp2
                    exact bodyPost_ret (results4 Tryd.results17 _ _ rfl rfl rfl rfl) rfl HRet.out
              · have hbel := hs4.bel
                have HT : Hid (cFind zs = none) := by show _ = _; rw [HC.out]; unfold cOk; rw [HL.out, decide_eq_false (by omega)]; rfl
                clear HC hs4
                go_wp2
                exact bodyPost_ret (results4 Tryd.results17 _ _ rfl rfl rfl rfl) rfl (retFd_no HT.out hbel _ _ _ _ _)
          · obtain rfl : i2 = N := by omega
            have hfst := cFst_of_none (k := i2) HIs.out
            rw [← HNN.out] at hfst
            have HNo2 := Lib.hid (noK_succ HNo.out HX.out hfst)
            clear hfst HIs HNo HX HY HBk Hwd HCf HCn HN4
            go_wp2
            go_roundw
            case rel => exact ⟨k + 1, by omega, by go_num, HNo2, hs⟩
            case measure => simp [intOf]; omega
      · obtain rfl : k = 4 := by omega
        have HT := Lib.hid (HCn.out (noK_none HNo.out))
        have hbel := hs.bel
        clear HCf HCn HN4 HNo hs
        go_wp2
        exact bodyPost_ret (results4 Tryd.results17 _ _ rfl rfl rfl rfl) rfl (retFd_no HT.out hbel _ _ _ _ _)

end Go.Proofs.YthkaeimpflggjaaDoor
