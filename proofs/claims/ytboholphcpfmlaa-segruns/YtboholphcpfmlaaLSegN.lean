/- The law SegRuns. -/
import Derived.Test.YtboholphcpfmlaaLSegA
namespace Go.Proofs.Ytboholphcpfmlaa
open Go.RowKit
set_option linter.unusedVariables false

theorem folS_seq (at_ g : Int) (i : Nat) : folS ⟨at_ + i, (g + i) % 65536⟩ ⟨at_ + (i + 1 : Nat), (g + (i + 1 : Nat)) % 65536⟩ = true := by
  unfold folS
  rw [decide_eq_true_eq]
  simp only
  omega

structure RunsOK9 (L : List Pr) (at_ g : Int) (k want : Nat) : Prop where
  fit : PrG L
  ris : risesF 65534 (-1) L = true
  len : L.length ≤ 1000
  cnt : (runsF folS L).length + 1 = want
  l0 : glyphOf at_ L = g
  l1 : glyphOf (at_ + k - 1) L = (g + (k - 1 : Int)) % 65536
  l2 : glyphOf (at_ + k) L = 0

theorem seqF_get (f : Nat → Int) (at_ : Int) {k i : Nat} (h : i < k) : (seqF f at_ k)[i]? = some ⟨at_ + i, f i⟩ := by simp [seqF, h]

theorem runsOK9_seq (at_ g : Int) (k : Nat) (a0 : 0 ≤ at_) (a1 : at_ < 60000) (g0 : 0 ≤ g) (g1 : g ≤ 65535) (k0 : 1 ≤ k) (k1 : k ≤ 60) : RunsOK9 (seqF (fun i : Nat => (g + (i : Int)) % 65536) at_ k) at_ g k 2 := by
  obtain ⟨j, rfl⟩ : ∃ j, k = j + 1 := ⟨k - 1, by omega⟩
  have hr := seqF_runs (fol := folS) (fun i : Nat => (g + (i : Int)) % 65536) at_ (j + 1) (fun i _ => folS_seq at_ g i) j (Nat.le_refl _)
  have hris := seqF_rises (fun i : Nat => (g + (i : Int)) % 65536) at_ 65534 a0 (j + 1) (by omega)
  refine ⟨seqF_g at_ (fun i hi => by omega), hris, by rw [seqF_len]; omega, by rw [hr]; rfl, ?_, ?_, ?_⟩
  · have := glyphOf_mem hris (seqF_get (fun i : Nat => (g + (i : Int)) % 65536) at_ (k := j + 1) (i := 0) (by omega))
    simp at this
    rw [this]
    omega
  · have := glyphOf_mem hris (seqF_get (fun i : Nat => (g + (i : Int)) % 65536) at_ (k := j + 1) (i := j) (by omega))
    simp only at this
    rw [show at_ + ((j + 1 : Nat) : Int) - 1 = at_ + (j : Int) by omega, this]
    congr 1
    omega
  · refine glyphOf_absent (fun p hp => ?_)
    unfold seqF at hp
    obtain ⟨i, hi, rfl⟩ := List.mem_map.1 hp
    have := List.mem_range.1 hi
    simp only
    omega

theorem runsOK9_gap (at_ g : Int) (k : Nat) (a0 : 0 ≤ at_) (a1 : at_ < 60000) (g0 : 0 ≤ g) (g1 : g ≤ 65535) (k0 : 1 ≤ k) (k1 : k ≤ 60) : RunsOK9 (seqF (fun i : Nat => (g + (i : Int)) % 65536) at_ k ++ [⟨at_ + k + 1, g⟩]) at_ g k 3 := by
  obtain ⟨j, rfl⟩ : ∃ j, k = j + 1 := ⟨k - 1, by omega⟩
  have hr := seqF_gap (fol := folS) (fun i : Nat => (g + (i : Int)) % 65536) at_ j (at_ + (j + 1 : Nat) + 1) g (fun i _ => folS_seq at_ g i) (by unfold folS; rw [decide_eq_false_iff_not]; simp only; omega)
  have hris : risesF 65534 (-1) (seqF (fun i : Nat => (g + (i : Int)) % 65536) at_ (j + 1) ++ [⟨at_ + (j + 1 : Nat) + 1, g⟩]) = true := by
    rw [risesF_snoc, seqF_rises _ at_ 65534 a0 _ (by omega), seqF_last]
    simp
    omega
  have hget : ∀ i, i < j + 1 → (seqF (fun i : Nat => (g + (i : Int)) % 65536) at_ (j + 1) ++ [⟨at_ + (j + 1 : Nat) + 1, g⟩])[i]? = some ⟨at_ + i, (fun i : Nat => (g + (i : Int)) % 65536) i⟩ := fun i hi => by rw [List.getElem?_append_left (by rw [seqF_len]; exact hi)]; exact seqF_get (fun i : Nat => (g + (i : Int)) % 65536) at_ hi
  refine ⟨?_, hris, by rw [List.length_append, seqF_len]; simp; omega, by rw [hr]; rfl, ?_, ?_, ?_⟩
  · intro p hp
    rcases List.mem_append.1 hp with h | h
    · exact seqF_g at_ (fun i hi => by omega) p h
    · simp at h; subst h; simp only; omega
  · have := glyphOf_mem hris (hget 0 (by omega))
    simp at this
    rw [show at_ + ((j + 1 : Nat) : Int) + 1 = at_ + ((j : Int) + 1) + 1 by omega, this]
    omega
  · have := glyphOf_mem hris (hget j (by omega))
    simp only at this
    rw [show at_ + ((j + 1 : Nat) : Int) - 1 = at_ + (j : Int) by omega, this]
    congr 1
    omega
  · refine glyphOf_absent (fun p hp => ?_)
    rcases List.mem_append.1 hp with h | h
    · unfold seqF at h
      obtain ⟨i, hi, rfl⟩ := List.mem_map.1 h
      have := List.mem_range.1 hi
      simp only
      omega
    · simp at h
      subst h
      simp only
      omega

set_option maxRecDepth 100000 in
set_option maxHeartbeats 4000000 in
theorem law_SegRuns (a0 a1 a2 : Int) (b3 : Bool) (w : World) (l0 : 0 ≤ a0) (u0 : a0 ≤ 65535) (l1 : 0 ≤ a1) (u1 : a1 ≤ 65535) (l2 : 0 ≤ a2) (u2 : a2 ≤ 255) :
    Calls Try.prog 8 #[.int .u16 a0, .int .u16 a1, .int .u8 a2, .bool b3] w (True_ w) := by
  obtain ⟨i0, hi, hz0, hz1, hz2⟩ := info_parts Try.pairinfo
  obtain ⟨at_, hat⟩ : ∃ x, a0 % 60000 = x := ⟨_, rfl⟩
  obtain ⟨k, hk⟩ : ∃ k : Nat, 1 + a2 % 60 = (k : Int) := ⟨(1 + a2 % 60).toNat, by omega⟩
  have at0 : 0 ≤ at_ := by omega
  have at1 : at_ < 60000 := by omega
  have k0 : 1 ≤ k := by omega
  have k1 : k ≤ 60 := by omega
  have HO1 := Lib.hid (runsOK9_seq at_ a1 k at0 at1 l1 u1 k0 k1)
  have HO2 := Lib.hid (runsOK9_gap at_ a1 k at0 at1 l1 u1 k0 k1)
  generalize a1 = g at *
  go_enter Try.func8, Try.ntmps8
  go_wp2_with fail
  with_reducible refine (awake09_any w).mono ?_
  rintro e w0 ⟨rfl, hb0⟩
  go_wp2
  try rw [hat]
  clear hat hk
  go_loopw [11, 26] (fun s i wr => ∃ (j : Nat) (Al : Option Addr) (cl : Nat), j ≤ k ∧ i = .int .i64 j ∧ s = .slice Al j cl ∧ OwnS 42 encP 2 wr w.heap.size Al j cl (seqF (fun i : Nat => (g + (i : Int)) % 65536) at_ j) ∧ Below w.heap.size w wr) (fun _ i _ => k - (intOf i).toNat)
  case atStart => exact ⟨0, none, 0, Nat.zero_le _, rfl, rfl, OwnS.nil _ _ _ _ _, hb0⟩
  case round =>
    clear hb0
    obtain ⟨j, Al, cl, hj, rfl, rfl, hown, hb⟩ := hrel
    have hsz := hb.size
    by_cases hlt : j < k
    · have HS := Lib.hid (seqF_succ (fun i : Nat => (g + (i : Int)) % 65536) at_ j)
      have F : IntKind.u16.wrap (g + (j : Int)) = (g + (j : Int)) % 65536 := IntKind.wrap_u16 _
      go_wp2_with (at_builtin; refine wpList_append_rowS rfl (.tmp 29) (.tmp 39) _ rfl 42 encP 2 encP_len (by omega) encP_one w.heap.size i0 _ 8 Try.underlying24 hi hz0 hz1 rfl hz2 _ j cl _ rfl (hown.alloc _) (some ⟨wr.heap.size, 0, none⟩) 1 1 [⟨at_ + j, (g + j) % 65536⟩] rfl (rowS_vals encP_len wr 42 [⟨at_ + j, (g + j) % 65536⟩] _ rfl 1 rfl) (by omega) (by omega) (by simp; omega) ?_; intro A6 c6 w6 ho6 hg6)
      go_roundw
      case rel => exact ⟨j + 1, A6, c6, by omega, by go_num, rfl, by rw [HS.out]; exact ho6, (hb.alloc hb.size _).grown hg6 (hb.alloc hb.size _).size (fun q e => (hown.from_ q e).1)⟩
      case measure => simp [intOf]; omega
    · obtain rfl : j = k := by omega
      have FW : IntKind.u16.wrap (g + ((j : Int) - 1)) = (g + ((j : Int) - 1)) % 65536 := IntKind.wrap_u16 _
      have HPair : Hid (∀ (L : List Pr) (want m : Nat) (V : World) (Am : Option Addr) (cm : Nat), RunsOK9 L at_ g j want → RowS encP 2 V Am m L → Calls Try.prog 17 #[.slice Am m cm] V (RetB V (sOut L))) := fun L want m V Am cm h1 h2 => sbuild_any Am m cm L V h2 (by have := h2.len; have := h1.len; omega) h1.fit
      cases b3 with
      | false =>
        have HO := Lib.hid HO1.out
        have HB : Hid (∀ V, Below wr.heap.size wr V → Calls Try.prog 17 #[.slice Al j cl] V (RetB V (sOut (seqF (fun i : Nat => (g + (i : Int)) % 65536) at_ j)))) := fun V hV => HPair.out _ 2 _ V Al cl HO.out ((hown.row encP_len).below hV)
        clear HO1 HO2 HPair hown
        generalize seqF (fun i : Nat => (g + (i : Int)) % 65536) at_ j = L at *
        go_wp2_with fail
        refine (HB.out _ (Below.refl _ _)).mono ?_
        have hbV := Below.refl wr.heap.size wr
        rintro e w1 ⟨A1, n1, c1, rfl, hown1, hb1⟩
        have hl1 := hown1.len
        obtain ⟨e0, e1, e2, e3, e4, e5⟩ := sOut_right HO.out.fit HO.out.ris (by have := HO.out.len; omega)
        have hcnt := HO.out.cnt
        rw [hcnt] at e2 e5 e3
        have HE5 := Lib.hid e5
        rw [e5] at hl1
        have hbw := hb.trans (hb1.mono hb.size)
        have HP := Lib.hid (sparse_any A1 n1 c1 _ w1 hown1.row e4 (by omega) hown1.cap)
        clear hown1 hb e0
        go_wp2_with fail
        with_reducible refine HP.out.mono ?_
        rintro e w2 ⟨hb2, ⟨hf, _⟩ | ⟨_, A2, c2, g2, rfl, hown2, hnum2⟩⟩
        · rw [e1] at hf; cases hf
        have hm := SMap.of e4 e1 hown2 hnum2
        rw [e2] at hm ⊢
        have hbw2 := hbw.trans (hb2.mono hbw.size)
        have hbV2 := hb1.trans (hb2.mono hb1.size)
        clear HP hown2 hnum2 hb2 hbw e1 e2 e4 e5 hb1
        unfold smV
        have hA2 : Below w2.heap.size w2 (w2.alloc (.cells #[.slice A2 2 c2] 32)) := (Below.refl _ _).alloc (Nat.le_refl _) _
        have hs : BoxS w (w2.alloc (.cells #[.slice A2 2 c2] 32)) w2.heap.size A2 2 c2 (sOut L) g2 := ⟨heap_alloc_new w2 _, hm.below hA2, hbw2.trans (hA2.mono hbw2.size)⟩
        have hbX := hbV2.trans (hA2.mono hbV2.size)
        have kb := hs.cell
        have HGr := Lib.hid (fun W => ssegments_any A2 2 c2 W)
        unfold smV at HGr
        have hL0 := HO.out.l0
        have hL1 := HO.out.l1
        have hL2 := HO.out.l2
        have HE3 := Lib.hid e3
        clear hm hA2 hbw2 hbV2 e3
        have H0 : Hid (∀ W, BoxS w W w2.heap.size A2 2 c2 (sOut L) g2 → Calls Try.prog 23 #[.agg #[.slice A2 2 c2], .int .i32 at_] W (Ret W (.int .u16 g))) := fun W h => h.look (by omega) at_ g (by rw [HE3.out, hL0]) (by omega) (by omega)
        have H1 : Hid (∀ W, BoxS w W w2.heap.size A2 2 c2 (sOut L) g2 → Calls Try.prog 23 #[.agg #[.slice A2 2 c2], .int .i32 (at_ + (j : Int) - 1)] W (Ret W (.int .u16 ((g + ((j : Int) - 1)) % 65536)))) := fun W h => h.look (by omega) _ _ (by rw [HE3.out, hL1]) (by omega) (by omega)
        have H2 : Hid (∀ W, BoxS w W w2.heap.size A2 2 c2 (sOut L) g2 → Calls Try.prog 23 #[.agg #[.slice A2 2 c2], .int .i32 (at_ + (j : Int))] W (Ret W (.int .u16 0))) := fun W h => h.look (by omega) _ _ (by rw [HE3.out, hL2]) (by omega) (by omega)
        have q1 : (g == g) = true := by simp
        have q2 : ((g + ((j : Int) - 1)) % 65536 == (g + ((j : Int) - 1)) % 65536) = true := by simp
        have hn1 : ((n1 : Int) == 32) = true := by simp; omega
        clear hL0 hL1 hL2 HO hcnt
        generalize sOut L = zs at *
        go_wp2_with (first
          | (go_at_call 21; (with_reducible refine (HGr.out _).mono ?_); rintro e wn ⟨rfl, hbn⟩; replace hs := hs.below hbn; replace hbX := hbX.trans (hbn.mono hbX.size); replace kb := hs.cell; clear hbn)
          | (go_at_call 23; (first | (with_reducible refine (H0.out _ hs).mono ?_) | (with_reducible refine (H1.out _ hs).mono ?_) | (with_reducible refine (H2.out _ hs).mono ?_)); rintro e wn ⟨rfl, hbn⟩; replace hs := hs.below hbn; replace hbX := hbX.trans (hbn.mono hbX.size); replace kb := hs.cell; clear hbn)
          | (go_at_call 17; (with_reducible refine (HB.out _ hbX).mono ?_); rintro e wn ⟨A9, n9, c9, rfl, hown9, hbn⟩; have h9 := hown9.len; rw [HE5.out] at h9; replace hs := hs.below hbn; clear hbn hown9; subst h9))
        go_ret
        exact ⟨rfl, hs.bel⟩
      | true =>
        have HO := Lib.hid HO2.out
        have HS : Hid (∀ (V : World) (Am : Option Addr) (cm : Nat), RowS encP 2 V Am (j + 1) (seqF (fun i : Nat => (g + (i : Int)) % 65536) at_ j ++ [⟨at_ + j + 1, g⟩]) → Calls Try.prog 17 #[.slice Am (j + 1) cm] V (RetB V (sOut (seqF (fun i : Nat => (g + (i : Int)) % 65536) at_ j ++ [⟨at_ + j + 1, g⟩])))) := fun V Am cm h2 => HPair.out _ 3 _ V Am cm HO.out h2
        clear HO1 HO2 HPair
        go_wp2_with (first
          | (at_builtin; refine wpList_append_rowS rfl (.tmp 43) (.tmp 51) _ rfl 42 encP 2 encP_len (by omega) encP_one w.heap.size i0 _ 8 Try.underlying24 hi hz0 hz1 rfl hz2 _ j cl _ rfl (hown.alloc _) (some ⟨wr.heap.size, 0, none⟩) 1 1 [⟨at_ + j + 1, g⟩] rfl (rowS_vals encP_len wr 42 [⟨at_ + j + 1, g⟩] _ rfl 1 rfl) (by omega) (by omega) (by simp; omega) ?_; intro A6 c6 w6 ho6 hg6; have hb6 := (hb.alloc hb.size _).grown hg6 (hb.alloc hb.size _).size (fun q e => (hown.from_ q e).1))
          | (go_at_call 17; refine (HS.out _ _ _ (ho6.row encP_len)).mono ?_))
        have HB : Hid (∀ V, Below w6.heap.size w6 V → Calls Try.prog 17 #[.slice A6 (j + 1) c6] V (RetB V (sOut (seqF (fun i : Nat => (g + (i : Int)) % 65536) at_ j ++ [⟨at_ + j + 1, g⟩])))) := fun V hV => HS.out V A6 c6 ((ho6.row encP_len).below hV)
        have hb := hb6
        clear hown ho6 hg6 hb6 HS
        generalize seqF (fun i : Nat => (g + (i : Int)) % 65536) at_ j ++ [⟨at_ + j + 1, g⟩] = L at *
        rintro e w1 ⟨A1, n1, c1, rfl, hown1, hb1⟩
        have hl1 := hown1.len
        obtain ⟨e0, e1, e2, e3, e4, e5⟩ := sOut_right HO.out.fit HO.out.ris (by have := HO.out.len; omega)
        have hcnt := HO.out.cnt
        rw [hcnt] at e2 e5 e3
        have HE5 := Lib.hid e5
        rw [e5] at hl1
        have hbw := hb.trans (hb1.mono hb.size)
        have HP := Lib.hid (sparse_any A1 n1 c1 _ w1 hown1.row e4 (by omega) hown1.cap)
        clear hown1 hb e0
        go_wp2_with fail
        with_reducible refine HP.out.mono ?_
        rintro e w2 ⟨hb2, ⟨hf, _⟩ | ⟨_, A2, c2, g2, rfl, hown2, hnum2⟩⟩
        · rw [e1] at hf; cases hf
        have hm := SMap.of e4 e1 hown2 hnum2
        rw [e2] at hm ⊢
        have hbw2 := hbw.trans (hb2.mono hbw.size)
        have hbV2 := hb1.trans (hb2.mono hb1.size)
        clear HP hown2 hnum2 hb2 hbw e1 e2 e4 e5 hb1
        unfold smV
        have hA2 : Below w2.heap.size w2 (w2.alloc (.cells #[.slice A2 3 c2] 32)) := (Below.refl _ _).alloc (Nat.le_refl _) _
        have hs : BoxS w (w2.alloc (.cells #[.slice A2 3 c2] 32)) w2.heap.size A2 3 c2 (sOut L) g2 := ⟨heap_alloc_new w2 _, hm.below hA2, hbw2.trans (hA2.mono hbw2.size)⟩
        have hbX := hbV2.trans (hA2.mono hbV2.size)
        have kb := hs.cell
        have HGr := Lib.hid (fun W => ssegments_any A2 3 c2 W)
        unfold smV at HGr
        have hL0 := HO.out.l0
        have hL1 := HO.out.l1
        have hL2 := HO.out.l2
        have HE3 := Lib.hid e3
        clear hm hA2 hbw2 hbV2 e3
        have H0 : Hid (∀ W, BoxS w W w2.heap.size A2 3 c2 (sOut L) g2 → Calls Try.prog 23 #[.agg #[.slice A2 3 c2], .int .i32 at_] W (Ret W (.int .u16 g))) := fun W h => h.look (by omega) at_ g (by rw [HE3.out, hL0]) (by omega) (by omega)
        have H1 : Hid (∀ W, BoxS w W w2.heap.size A2 3 c2 (sOut L) g2 → Calls Try.prog 23 #[.agg #[.slice A2 3 c2], .int .i32 (at_ + (j : Int) - 1)] W (Ret W (.int .u16 ((g + ((j : Int) - 1)) % 65536)))) := fun W h => h.look (by omega) _ _ (by rw [HE3.out, hL1]) (by omega) (by omega)
        have H2 : Hid (∀ W, BoxS w W w2.heap.size A2 3 c2 (sOut L) g2 → Calls Try.prog 23 #[.agg #[.slice A2 3 c2], .int .i32 (at_ + (j : Int))] W (Ret W (.int .u16 0))) := fun W h => h.look (by omega) _ _ (by rw [HE3.out, hL2]) (by omega) (by omega)
        have q1 : (g == g) = true := by simp
        have q2 : ((g + ((j : Int) - 1)) % 65536 == (g + ((j : Int) - 1)) % 65536) = true := by simp
        have hn1 : ((n1 : Int) == 40) = true := by simp; omega
        clear hL0 hL1 hL2 HO hcnt
        generalize sOut L = zs at *
        go_wp2_with (first
          | (go_at_call 21; (with_reducible refine (HGr.out _).mono ?_); rintro e wn ⟨rfl, hbn⟩; replace hs := hs.below hbn; replace hbX := hbX.trans (hbn.mono hbX.size); replace kb := hs.cell; clear hbn)
          | (go_at_call 23; (first | (with_reducible refine (H0.out _ hs).mono ?_) | (with_reducible refine (H1.out _ hs).mono ?_) | (with_reducible refine (H2.out _ hs).mono ?_)); rintro e wn ⟨rfl, hbn⟩; replace hs := hs.below hbn; replace hbX := hbX.trans (hbn.mono hbX.size); replace kb := hs.cell; clear hbn)
          | (go_at_call 17; (with_reducible refine (HB.out _ hbX).mono ?_); rintro e wn ⟨A9, n9, c9, rfl, hown9, hbn⟩; have h9 := hown9.len; rw [HE5.out] at h9; replace hs := hs.below hbn; clear hbn hown9; subst h9))
        go_ret
        exact ⟨rfl, hs.bel⟩

end Go.Proofs.Ytboholphcpfmlaa
