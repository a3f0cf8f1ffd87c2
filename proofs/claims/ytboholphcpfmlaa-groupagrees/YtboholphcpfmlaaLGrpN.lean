/- The law GroupRuns. -/
import Derived.Test.YtboholphcpfmlaaLGrpP
import Derived.Test.YtboholphcpfmlaaRunS
import Derived.Test.YtboholphcpfmlaaPrsA
namespace Go.Proofs.Ytboholphcpfmlaa
open Go.RowKit
set_option linter.unusedVariables false

/-- A map in a box. -/
structure BoxG (w wr : World) (bx : Nat) (A2 : Option Addr) (N c2 : Nat) (l : List Rn) : Prop where
  box : wr.heap[bx]? = some (.cells #[.slice A2 N c2] 63 (0, 0))
  map : GMap wr A2 N l
  bel : Below w.heap.size w wr
theorem BoxG.below {w wr w' : World} {bx : Nat} {A2 : Option Addr} {N c2 : Nat} {l : List Rn} (h : BoxG w wr bx A2 N c2 l) (hb : Below wr.heap.size wr w') : BoxG w w' bx A2 N c2 l :=
  ⟨kept_block h.box hb, h.map.below hb, h.bel.trans (hb.mono h.bel.size)⟩
theorem BoxG.cell {w wr : World} {bx : Nat} {A2 : Option Addr} {N c2 : Nat} {l : List Rn} (h : BoxG w wr bx A2 N c2 l) : wr.cell? ⟨bx, 0, none⟩ = some (.slice A2 N c2) := cell_of_row _ _ 0 _ _ _ h.box

theorem folG_seq (at_ g : Int) (i : Nat) : folG ⟨at_ + i, g + i⟩ ⟨at_ + (i + 1 : Nat), g + (i + 1 : Nat)⟩ = true := by
  unfold folG
  rw [decide_eq_true_eq]
  simp only
  omega

/-- What is asked of the pairs in the end. -/
structure RunsOK (L : List Pr) (at_ g : Int) (k want : Nat) : Prop where
  fit : PrG L
  ris : risesF 1114111 (-1) L = true
  len : L.length ≤ 1000
  cnt : (runsF folG L).length = want
  l0 : lookR (runsF folG L) at_ = g
  l1 : lookR (runsF folG L) (at_ + k - 1) = g + (k - 1 : Int)
  l2 : lookR (runsF folG L) (at_ + k) = 0

theorem runsOK_seq (at_ g : Int) (k : Nat) (a0 : 0 ≤ at_) (a1 : at_ < 1000000) (g0 : 0 ≤ g) (g1 : g < 60000) (k0 : 1 ≤ k) (k1 : k ≤ 60) : RunsOK (seqF (fun i => g + i) at_ k) at_ g k 1 := by
  obtain ⟨j, rfl⟩ : ∃ j, k = j + 1 := ⟨k - 1, by omega⟩
  have hr := seqF_runs (fol := folG) (fun i => g + i) at_ (j + 1) (fun i _ => folG_seq at_ g i) j (Nat.le_refl _)
  refine ⟨seqF_g at_ (fun i hi => by omega), seqF_rises _ at_ 1114111 a0 _ (by omega), by rw [seqF_len]; omega, by rw [hr]; rfl, ?_, ?_, ?_⟩
  all_goals rw [hr]; simp only [lookR, findR]
  · rw [if_pos (by omega)]; simp only; rw [if_pos (by omega)]; simp; omega
  · rw [if_pos (by omega)]; simp only; rw [if_pos (by omega)]; omega
  · rw [if_neg (by omega)]

theorem runsOK_gap (at_ g : Int) (k : Nat) (a0 : 0 ≤ at_) (a1 : at_ < 1000000) (g0 : 0 ≤ g) (g1 : g < 60000) (k0 : 1 ≤ k) (k1 : k ≤ 60) : RunsOK (seqF (fun i => g + i) at_ k ++ [⟨at_ + k + 1, g + k⟩]) at_ g k 2 := by
  obtain ⟨j, rfl⟩ : ∃ j, k = j + 1 := ⟨k - 1, by omega⟩
  have hr := seqF_gap (fol := folG) (fun i => g + i) at_ j (at_ + (j + 1 : Nat) + 1) (g + (j + 1 : Nat)) (fun i _ => folG_seq at_ g i) (by unfold folG; rw [decide_eq_false_iff_not]; simp only; omega)
  refine ⟨?_, ?_, by rw [List.length_append, seqF_len]; simp; omega, by rw [hr]; rfl, ?_, ?_, ?_⟩
  · intro p hp
    rcases List.mem_append.1 hp with h | h
    · exact seqF_g at_ (fun i hi => by omega) p h
    · simp at h; subst h; simp only; omega
  · rw [risesF_snoc, seqF_rises _ at_ 1114111 a0 _ (by omega), seqF_last]
    simp
    omega
  all_goals rw [hr]; simp only [lookR, findR]
  · rw [if_pos (by omega)]; simp only; rw [if_pos (by omega)]; simp; omega
  · rw [if_pos (by omega)]; simp only; rw [if_pos (by omega)]; omega
  · rw [if_neg (by omega), if_pos (by omega)]; simp only; rw [if_neg (by omega)]

set_option maxRecDepth 100000 in
set_option maxHeartbeats 4000000 in
theorem law_GroupRuns (a0 a1 a2 : Int) (b3 : Bool) (w : World) (l0 : 0 ≤ a0) (u0 : a0 ≤ 4294967295) (l1 : 0 ≤ a1) (u1 : a1 ≤ 65535) (l2 : 0 ≤ a2) (u2 : a2 ≤ 255) :
    Calls Try.prog 14 #[.int .u32 a0, .int .u16 a1, .int .u8 a2, .bool b3] w (True_ w) := by
  obtain ⟨i0, hi, hz0, hz1, hz2⟩ := info_parts Try.pairinfo
  obtain ⟨at_, hat⟩ : ∃ x, a0 % 1000000 = x := ⟨_, rfl⟩
  obtain ⟨g, hg⟩ : ∃ x, a1 % 60000 = x := ⟨_, rfl⟩
  obtain ⟨k, hk⟩ : ∃ k : Nat, 1 + a2 % 60 = (k : Int) := ⟨(1 + a2 % 60).toNat, by omega⟩
  have at0 : 0 ≤ at_ := by omega
  have at1 : at_ < 1000000 := by omega
  have g0 : 0 ≤ g := by omega
  have g1 : g < 60000 := by omega
  have k0 : 1 ≤ k := by omega
  have k1 : k ≤ 60 := by omega
  have HO1 := Lib.hid (runsOK_seq at_ g k at0 at1 g0 g1 k0 k1)
  have HO2 := Lib.hid (runsOK_gap at_ g k at0 at1 g0 g1 k0 k1)
  go_enter Try.func14, Try.ntmps14
  go_wp2_with fail
  with_reducible refine (awake10_any w).mono ?_
  rintro e w0 ⟨rfl, hb0⟩
  go_wp2
  try rw [hg]
  clear hat hg hk
  go_loopw [11, 28] (fun s i wr => ∃ (j : Nat) (Al : Option Addr) (cl : Nat), j ≤ k ∧ i = .int .i64 j ∧ s = .slice Al j cl ∧ OwnS 42 encP 2 wr w.heap.size Al j cl (seqF (fun i => g + i) at_ j) ∧ Below w.heap.size w wr) (fun _ i _ => k - (intOf i).toNat)
  case atStart => exact ⟨0, none, 0, Nat.zero_le _, rfl, rfl, OwnS.nil _ _ _ _ _, hb0⟩
  case round =>
    clear hb0
    obtain ⟨j, Al, cl, hj, rfl, rfl, hown, hb⟩ := hrel
    have hsz := hb.size
    by_cases hlt : j < k
    · have HS := Lib.hid (seqF_succ (fun i => g + i) at_ j)
      go_wp2_with (at_builtin; refine wpList_append_rowS rfl (.tmp 31) (.tmp 41) _ rfl 42 encP 2 encP_len (by omega) encP_one w.heap.size i0 _ 8 Try.underlying24 hi hz0 hz1 rfl hz2 _ j cl _ rfl (hown.alloc _) (some ⟨wr.heap.size, 0, none⟩) 1 1 [⟨at_ + j, g + j⟩] rfl (rowS_vals encP_len wr 42 [⟨at_ + j, g + j⟩] _ rfl 1 rfl) (by omega) (by omega) (by simp; omega) ?_; intro A6 c6 w6 ho6 hg6)
      go_roundw
      case rel => exact ⟨j + 1, A6, c6, by omega, by go_num, rfl, by rw [HS.out]; exact ho6, (hb.alloc hb.size _).grown hg6 (hb.alloc hb.size _).size (fun q e => (hown.from_ q e).1)⟩
      case measure => simp [intOf]; omega
    · obtain rfl : j = k := by omega
      have hpair : ∀ (L : List Pr) (want m : Nat) (V : World) (Am : Option Addr) (cm : Nat), RunsOK L at_ g j want → OwnS 42 encP 2 V w.heap.size Am m cm L → Below w.heap.size w V → Calls Try.prog 33 #[.slice Am m cm] V (RetB V (gOut L)) := fun L want m V Am cm h1 h2 h3 => gbuild_any Am m cm L V (h2.row encP_len) (by have := h2.len; have := h1.len; omega) h1.fit
      have HPair := Lib.hid hpair
      clear hpair
      cases b3 with
      | false =>
        have HO := Lib.hid HO1.out
        have HB := Lib.hid (HPair.out _ 1 _ wr Al cl HO.out hown hb)
        clear HO1 HO2 HPair hown
        generalize seqF (fun i => g + i) at_ j = L at *
        go_wp2_with fail
        with_reducible refine HB.out.mono ?_
        rintro e w1 ⟨A1, n1, c1, rfl, hown1, hb1⟩
        have hl1 := hown1.len
        obtain ⟨e0, e1, e2, e3, e4, e5⟩ := gOut_right HO.out.fit HO.out.ris (by have := HO.out.len; omega)
        have hcnt := HO.out.cnt
        rw [hcnt] at e2 e5
        rw [e5] at hl1
        have hbw := hb.trans (hb1.mono hb.size)
        have HP := Lib.hid (gparse_any A1 n1 c1 _ w1 hown1.row e4 (by omega) hown1.cap)
        clear hown1 hb1 hb HB
        go_wp2_with fail
        with_reducible refine HP.out.mono ?_
        rintro e w2 ⟨hb2, ⟨hf, _⟩ | ⟨_, A2, c2, rfl, hown2⟩⟩
        · rw [e1] at hf; cases hf
        have hm := GMap.of e4 e1 hown2
        rw [e3] at hm
        rw [e2] at hm ⊢
        have hbw2 := hbw.trans (hb2.mono hbw.size)
        clear HP hown2 hb2 hbw e0 e1 e2 e3 e4 e5
        unfold gmV
        have hA2 : Below w2.heap.size w2 (w2.alloc (.cells #[.slice A2 1 c2] 63)) := (Below.refl _ _).alloc (Nat.le_refl _) _
        have hs : BoxG w (w2.alloc (.cells #[.slice A2 1 c2] 63)) w2.heap.size A2 1 c2 (runsF folG L) := ⟨heap_alloc_new w2 _, hm.below hA2, hbw2.trans (hA2.mono hbw2.size)⟩
        have k0_ := hs.cell
        have HGr := Lib.hid (fun W => ggroups_any A2 1 c2 W)
        unfold gmV at HGr
        clear hm hA2 hbw2
        have hL0 := HO.out.l0
        have hL1 := HO.out.l1
        have hL2 := HO.out.l2
        have HLk : Hid (∀ (W : World) (code v : Int), lookR (runsF folG L) code = v → BoxG w W w2.heap.size A2 1 c2 (runsF folG L) → -2147483648 ≤ code → code ≤ 2147483647 → Calls Try.prog 37 #[.agg #[.slice A2 1 c2], .int .i32 code] W (Ret W (.int .u16 v))) := fun W code v hv h a b => hv ▸ h.map.look (by omega) code a b
        have H0 : Hid (∀ W, BoxG w W w2.heap.size A2 1 c2 (runsF folG L) → Calls Try.prog 37 #[.agg #[.slice A2 1 c2], .int .i32 at_] W (Ret W (.int .u16 g))) := fun W h => HLk.out W at_ g hL0 h (by omega) (by omega)
        have H1 : Hid (∀ W, BoxG w W w2.heap.size A2 1 c2 (runsF folG L) → Calls Try.prog 37 #[.agg #[.slice A2 1 c2], .int .i32 (at_ + (j : Int) - 1)] W (Ret W (.int .u16 (g + ((j : Int) - 1))))) := fun W h => HLk.out W _ _ hL1 h (by omega) (by omega)
        have H2 : Hid (∀ W, BoxG w W w2.heap.size A2 1 c2 (runsF folG L) → Calls Try.prog 37 #[.agg #[.slice A2 1 c2], .int .i32 (at_ + (j : Int))] W (Ret W (.int .u16 0))) := fun W h => HLk.out W _ _ hL2 h (by omega) (by omega)
        have q1 : (g == g) = true := by simp
        have q2 : (g + ((j : Int) - 1) == g + ((j : Int) - 1)) = true := by simp
        clear HLk hL0 hL1 hL2 HO hcnt
        generalize runsF folG L = rs at *
        go_wp2_with (first
          | (go_at_call 36; (with_reducible refine (HGr.out _).mono ?_); rintro e wn ⟨rfl, hbn⟩; replace hs := hs.below hbn; replace k0_ := hs.cell; clear hbn)
          | (go_at_call 37; (first | (with_reducible refine (H0.out _ hs).mono ?_) | (with_reducible refine (H1.out _ hs).mono ?_) | (with_reducible refine (H2.out _ hs).mono ?_)); rintro e wn ⟨rfl, hbn⟩; replace hs := hs.below hbn; replace k0_ := hs.cell; clear hbn))
        go_ret
        exact ⟨rfl, hs.bel⟩
      | true =>
        have HO := Lib.hid HO2.out
        have HS : Hid (∀ (V : World) (Am : Option Addr) (cm : Nat), OwnS 42 encP 2 V w.heap.size Am (j + 1) cm (seqF (fun i => g + i) at_ j ++ [⟨at_ + j + 1, g + j⟩]) → Below w.heap.size w V → Calls Try.prog 33 #[.slice Am (j + 1) cm] V (RetB V (gOut (seqF (fun i => g + i) at_ j ++ [⟨at_ + j + 1, g + j⟩])))) := fun V Am cm h2 h3 => HPair.out _ 2 _ V Am cm HO.out h2 h3
        clear HO1 HO2 HPair
        go_wp2_with (first
          | (at_builtin; refine wpList_append_rowS rfl (.tmp 45) (.tmp 56) _ rfl 42 encP 2 encP_len (by omega) encP_one w.heap.size i0 _ 8 Try.underlying24 hi hz0 hz1 rfl hz2 _ j cl _ rfl (hown.alloc _) (some ⟨wr.heap.size, 0, none⟩) 1 1 [⟨at_ + j + 1, g + j⟩] rfl (rowS_vals encP_len wr 42 [⟨at_ + j + 1, g + j⟩] _ rfl 1 rfl) (by omega) (by omega) (by simp; omega) ?_; intro A6 c6 w6 ho6 hg6; have hb6 := (hb.alloc hb.size _).grown hg6 (hb.alloc hb.size _).size (fun q e => (hown.from_ q e).1))
          | (go_at_call 33; refine (HS.out _ _ _ ho6 hb6).mono ?_))
        have hb := hb6
        clear hown ho6 hg6 hb6 HS
        generalize seqF (fun i => g + i) at_ j ++ [⟨at_ + j + 1, g + j⟩] = L at *
        rintro e w1 ⟨A1, n1, c1, rfl, hown1, hb1⟩
        have hl1 := hown1.len
        obtain ⟨e0, e1, e2, e3, e4, e5⟩ := gOut_right HO.out.fit HO.out.ris (by have := HO.out.len; omega)
        have hcnt := HO.out.cnt
        rw [hcnt] at e2 e5
        rw [e5] at hl1
        have hbw := hb.trans (hb1.mono hb.size)
        have HP := Lib.hid (gparse_any A1 n1 c1 _ w1 hown1.row e4 (by omega) hown1.cap)
        clear hown1 hb1 hb
        go_wp2_with fail
        with_reducible refine HP.out.mono ?_
        rintro e w2 ⟨hb2, ⟨hf, _⟩ | ⟨_, A2, c2, rfl, hown2⟩⟩
        · rw [e1] at hf; cases hf
        have hm := GMap.of e4 e1 hown2
        rw [e3] at hm
        rw [e2] at hm ⊢
        have hbw2 := hbw.trans (hb2.mono hbw.size)
        clear HP hown2 hb2 hbw e0 e1 e2 e3 e4 e5
        unfold gmV
        have hA2 : Below w2.heap.size w2 (w2.alloc (.cells #[.slice A2 2 c2] 63)) := (Below.refl _ _).alloc (Nat.le_refl _) _
        have hs : BoxG w (w2.alloc (.cells #[.slice A2 2 c2] 63)) w2.heap.size A2 2 c2 (runsF folG L) := ⟨heap_alloc_new w2 _, hm.below hA2, hbw2.trans (hA2.mono hbw2.size)⟩
        have k0_ := hs.cell
        have HGr := Lib.hid (fun W => ggroups_any A2 2 c2 W)
        unfold gmV at HGr
        clear hm hA2 hbw2
        have hL0 := HO.out.l0
        have hL1 := HO.out.l1
        have hL2 := HO.out.l2
        have HLk : Hid (∀ (W : World) (code v : Int), lookR (runsF folG L) code = v → BoxG w W w2.heap.size A2 2 c2 (runsF folG L) → -2147483648 ≤ code → code ≤ 2147483647 → Calls Try.prog 37 #[.agg #[.slice A2 2 c2], .int .i32 code] W (Ret W (.int .u16 v))) := fun W code v hv h a b => hv ▸ h.map.look (by omega) code a b
        have H0 : Hid (∀ W, BoxG w W w2.heap.size A2 2 c2 (runsF folG L) → Calls Try.prog 37 #[.agg #[.slice A2 2 c2], .int .i32 at_] W (Ret W (.int .u16 g))) := fun W h => HLk.out W at_ g hL0 h (by omega) (by omega)
        have H1 : Hid (∀ W, BoxG w W w2.heap.size A2 2 c2 (runsF folG L) → Calls Try.prog 37 #[.agg #[.slice A2 2 c2], .int .i32 (at_ + (j : Int) - 1)] W (Ret W (.int .u16 (g + ((j : Int) - 1))))) := fun W h => HLk.out W _ _ hL1 h (by omega) (by omega)
        have H2 : Hid (∀ W, BoxG w W w2.heap.size A2 2 c2 (runsF folG L) → Calls Try.prog 37 #[.agg #[.slice A2 2 c2], .int .i32 (at_ + (j : Int))] W (Ret W (.int .u16 0))) := fun W h => HLk.out W _ _ hL2 h (by omega) (by omega)
        have q1 : (g == g) = true := by simp
        have q2 : (g + ((j : Int) - 1) == g + ((j : Int) - 1)) = true := by simp
        clear HLk hL0 hL1 hL2 HO hcnt
        generalize runsF folG L = rs at *
        go_wp2_with (first
          | (go_at_call 36; (with_reducible refine (HGr.out _).mono ?_); rintro e wn ⟨rfl, hbn⟩; replace hs := hs.below hbn; replace k0_ := hs.cell; clear hbn)
          | (go_at_call 37; (first | (with_reducible refine (H0.out _ hs).mono ?_) | (with_reducible refine (H1.out _ hs).mono ?_) | (with_reducible refine (H2.out _ hs).mono ?_)); rintro e wn ⟨rfl, hbn⟩; replace hs := hs.below hbn; replace k0_ := hs.cell; clear hbn))
        go_ret
        exact ⟨rfl, hs.bel⟩

end Go.Proofs.Ytboholphcpfmlaa
