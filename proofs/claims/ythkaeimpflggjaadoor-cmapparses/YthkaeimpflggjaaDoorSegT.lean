/- seg: Parse, Segments and Look, as contracts over this seat's translation. -/
import Derived.Test.YthkaeimpflggjaaDoorSegS
namespace Go.Proofs.YthkaeimpflggjaaDoor
open Go.RowKit
set_option linter.unusedVariables false

def smV (A : Option Addr) (n c : Nat) : Value := .agg #[.slice A n c]

/-- What Parse leaves. -/
def RetSP (w : World) (zs : List Int) (e : Ending) (w' : World) : Prop :=
  Below w.heap.size w w' ∧ ((sRight zs = false ∧ e = .returned (.tuple #[smV none 0 0, .int .i64 2])) ∨
    (sRight zs = true ∧ ∃ A c g, e = .returned (.tuple #[smV A (sN zs) c, .int .i64 0]) ∧ OwnS 90 encS 4 w' w.heap.size A (sN zs) c (segs zs (sN zs) g (sN zs)) ∧ Row w' (some ⟨g, 0, none⟩) (sM zs) (cellsOf .u16 (nums zs (sM zs)))))

set_option maxRecDepth 100000 in
set_option maxHeartbeats 4000000 in
theorem sparse_any (A : Option Addr) (n c : Nat) (zs : List Int) (w : World) (hr : Row w A n (cellsOf .u8 zs)) (hB : Bytes zs) (hn : n ≤ 1000000) (hc : n ≤ c) :
    Calls Tryd.prog 52 #[.slice A n c] w (RetSP w zs) := by
  have SI : Hid ((Tryd.prog.info? 35).map (·.size) = some 1) := by show _ = _; kernel_rfl
  have hA : Below w.heap.size w (w.alloc (.cells #[.slice none 0 0] 35)) := (Below.refl _ _).alloc (Nat.le_refl _) _
  have hk := heap_alloc_new w (.cells #[.slice none 0 0] 35)
  have HC := Lib.hid (snumbers_any A n c zs _ (hr.below hA) hB hn hc)
  have HE : Hid (∀ (W : World) (v : Value), W.heap[w.heap.size]? = some (.cells #[.slice none 0 0] 35 (0, 0)) → Below w.heap.size w W → (W.setCell ⟨w.heap.size, 0, none⟩ v).heap[w.heap.size]? = some (.cells #[v] 35 (0, 0)) ∧ Below w.heap.size w (W.setCell ⟨w.heap.size, 0, none⟩ v)) := by
    show ∀ _ _, _
    intro W v h1 h2
    exact ⟨set_block h1 0 v, below_set (Nat.le_refl _) _ _ h2⟩
  have HB := Lib.hid hB
  have kk := n2at_lt hB 2
  go_enter Tryd.func52, Tryd.ntmps52
  go_wp2_with fail
  with_reducible refine HC.out.mono ?_
  rintro e w1 ⟨hb1, ⟨hf, rfl⟩ | ⟨hf, g, rfl, hown⟩⟩
  · have HF : Hid (sRight zs = false) := by show _ = _; unfold sRight; rw [hf]; rfl
    have hk1 := kept_block hk hb1
    have hbw := hA.trans (hb1.mono hA.size)
    have c0 : w1.cell? ⟨w.heap.size, 0, none⟩ = some (.slice none 0 0) := cell_of_row w1 _ 0 _ _ _ hk1
    have f0 := thawed hk1
    obtain ⟨s1, s2⟩ := HE.out w1 (.slice none 0 0) hk1 hbw
    have S1 := Lib.hid s1
    have S2 := Lib.hid s2
    clear s1 s2 hk hk1 hf HC hA hb1 hbw hr hB
    go_wp2
    exact bodyPost_ret (v := .tuple #[smV none 0 0, .int .i64 2]) (results_two2 Tryd.results52 _ _ w.heap.size 35 _ (0, 0) _ rfl rfl S1.out Tryd.underlying35 rfl SI.out) rfl ⟨S2.out, .inl ⟨HF.out, rfl⟩⟩
  · have hk1 := kept_block hk hb1
    have hbw := hA.trans (hb1.mono hA.size)
    have hM : n2at zs 2 = 2 * (sM zs : Int) ∧ 12 ≤ sM zs ∧ sM zs ≤ 32767 := by
      simp [sFront] at hf
      unfold sM
      omega
    have HCn := Lib.hid (scount_any g (sM zs) zs w1 hown.row hB hM.2.1 hM.1 hM.2.2)
    have hrow := hown.row
    have hgw : w.heap.size < g := by have := (hown.from_ g rfl).1; simp at this; omega
    have Hf := Lib.hid hf
    have HM := Lib.hid hM
    clear HC hA hb1 hk hr hB hown hM hf
    go_wp2_with fail
    with_reducible refine HCn.out.mono ?_
    rintro e w2 ⟨v, rfl, hv, hb2⟩
    have hk2 := kept_block hk1 hb2
    have hbw2 := hbw.trans (hb2.mono hbw.size)
    have hrow2 := hrow.below hb2
    clear hk1 hbw hb2 HCn hrow
    cases hcn : sCnt zs with
    | false =>
      have HF : Hid (sRight zs = false) := by show _ = _; unfold sRight; rw [hcn]; simp
      have c0 : w2.cell? ⟨w.heap.size, 0, none⟩ = some (.slice none 0 0) := cell_of_row w2 _ 0 _ _ _ hk2
      have f0 := thawed hk2
      obtain ⟨s1, s2⟩ := HE.out w2 (.slice none 0 0) hk2 hbw2
      have S1 := Lib.hid s1
      have S2 := Lib.hid s2
      clear s1 s2 hk2 hbw2 hv hcn
      go_wp2
      exact bodyPost_ret (v := .tuple #[smV none 0 0, .int .i64 2]) (results_two2 Tryd.results52 _ _ w.heap.size 35 _ (0, 0) _ rfl rfl S1.out Tryd.underlying35 rfl SI.out) rfl ⟨S2.out, .inl ⟨HF.out, rfl⟩⟩
    | true =>
      obtain rfl := hv hcn
      have hN : 8 + 4 * sN zs ≤ sM zs ∧ 1 ≤ sN zs := by
        have h1 := HM.out.1
        have h6 := n2at_lt HB.out 6
        unfold sCnt sCnt0 at hcn
        simp at hcn
        unfold sN
        omega
      have HS := Lib.hid (ssegs_any g (sM zs) zs (sN zs) w2 hrow2 HB.out HM.out.1 HM.out.2.2 hN.1 hN.2)
      have HRt : Hid (sRight zs = (sOkK zs (sN zs) (sN zs) && sEnd zs (sN zs))) := by show _ = _; unfold sRight; rw [hcn, Hf.out]; rfl
      clear hv hcn hN
      go_wp2_with fail
      with_reducible refine HS.out.mono ?_
      rintro e w3 ⟨A3, m3, c3, rfl, h3, hb3⟩
      have hk3 := kept_block hk2 hb3
      have hbw3 := hbw2.trans (hb3.mono hbw2.size)
      have hrow3 := hrow2.below hb3
      have hsz2 := hbw2.size
      rw [← HRt.out] at h3 ⊢
      have c0 : w3.cell? ⟨w.heap.size, 0, none⟩ = some (.slice none 0 0) := cell_of_row w3 _ 0 _ _ _ hk3
      have f0 := thawed hk3
      clear hk2 hbw2 hrow2 HS hb3
      cases hrt : sRight zs with
      | false =>
        obtain ⟨s1, s2⟩ := HE.out w3 (.slice none 0 0) hk3 hbw3
        have S1 := Lib.hid s1
        have S2 := Lib.hid s2
        have HF := Lib.hid hrt
        clear s1 s2 hk3 hbw3 h3 hrt
        go_wp2
        exact bodyPost_ret (v := .tuple #[smV none 0 0, .int .i64 2]) (results_two2 Tryd.results52 _ _ w.heap.size 35 _ (0, 0) _ rfl rfl S1.out Tryd.underlying35 rfl SI.out) rfl ⟨S2.out, .inl ⟨HF.out, rfl⟩⟩
      | true =>
        obtain ⟨rfl, hown3⟩ := h3 hrt
        have HF := Lib.hid hrt
        obtain ⟨s1, s2⟩ := HE.out w3 (.slice A3 (sN zs) c3) hk3 hbw3
        have S1 := Lib.hid s1
        have S2 := Lib.hid s2
        have hne : ∀ q, blockOf A3 = some q → q ≠ w.heap.size := fun q e he => by
          have := (hown3.from_ q e).1
          have := lt_of_block hk3
          rcases hown3.shape with ⟨h, _⟩ | ⟨g', cur, h, _, _, hh, _⟩
          · rw [h] at e; simp [blockOf] at e
          · rw [h] at e
            simp [blockOf] at e
            subst e
            rw [he, hk3] at hh
            simp at hh
        have O3 : Hid (OwnS 90 encS 4 (w3.setCell ⟨w.heap.size, 0, none⟩ (.slice A3 (sN zs) c3)) w.heap.size A3 (sN zs) c3 (segs zs (sN zs) g (sN zs))) := (hown3.keep (fun q e => Below.heap_setCell w3 _ _ q (hne q e))).mono hsz2
        have R3 : Hid (Row (w3.setCell ⟨w.heap.size, 0, none⟩ (.slice A3 (sN zs) c3)) (some ⟨g, 0, none⟩) (sM zs) (cellsOf .u16 (nums zs (sM zs)))) := by
          refine hrow3.keep (by simp [World.setCell]) (fun q e hq => Below.heap_setCell w3 _ _ q ?_)
          simp [blockOf] at e
          subst e
          intro e
          have e' : g = w.heap.size := e
          omega
        clear s1 s2 hk3 hbw3 h3 hrt hown3 hne hrow3
        go_wp2
        exact bodyPost_ret (v := .tuple #[smV A3 (sN zs) c3, .int .i64 0]) (results_two2 Tryd.results52 _ _ w.heap.size 35 _ (0, 0) _ rfl rfl S1.out Tryd.underlying35 rfl SI.out) rfl ⟨S2.out, .inr ⟨HF.out, A3, c3, g, rfl, O3.out, R3.out⟩⟩

/-- A map of segments in memory. -/
structure SMap (w : World) (A : Option Addr) (n : Nat) (zs : List Int) (g : Nat) : Prop where
  row : RowS encS 4 w A n (segs zs n g n)
  num : n = 0 ∨ Row w (some ⟨g, 0, none⟩) (sM zs) (cellsOf .u16 (nums zs (sM zs)))
  ok : n = 0 ∨ (sOkK zs n n = true ∧ 8 + 4 * n ≤ sM zs ∧ sM zs ≤ 32767 ∧ n2at zs 2 = 2 * (sM zs : Int))
  byt : Bytes zs
theorem SMap.below {w w' : World} {A : Option Addr} {n : Nat} {zs : List Int} {g : Nat} (h : SMap w A n zs g) (hb : Below w.heap.size w w') : SMap w' A n zs g := ⟨h.row.below hb, h.num.imp id (fun h => h.below hb), h.ok, h.byt⟩
theorem SMap.nil (w : World) (zs : List Int) (hB : Bytes zs) : SMap w none 0 zs 0 := ⟨RowS.empty _ _, .inl rfl, .inl rfl, hB⟩
theorem sRight_facts {zs : List Int} (hB : Bytes zs) (hR : sRight zs = true) : sOkK zs (sN zs) (sN zs) = true ∧ 8 + 4 * sN zs ≤ sM zs ∧ sM zs ≤ 32767 ∧ n2at zs 2 = 2 * (sM zs : Int) ∧ 1 ≤ sN zs := by
  unfold sRight at hR
  simp only [Bool.and_eq_true] at hR
  obtain ⟨⟨h1, h2⟩, h3, _⟩ := hR
  have k2 := n2at_lt hB 2
  have k6 := n2at_lt hB 6
  unfold sFront at h1
  unfold sCnt sCnt0 at h2
  simp at h1 h2
  refine ⟨h3, ?_⟩
  unfold sM sN
  omega
theorem SMap.of {w : World} {zs : List Int} {A : Option Addr} {B c g : Nat} (hB : Bytes zs) (hR : sRight zs = true) (h : OwnS 90 encS 4 w B A (sN zs) c (segs zs (sN zs) g (sN zs))) (hn : Row w (some ⟨g, 0, none⟩) (sM zs) (cellsOf .u16 (nums zs (sM zs)))) : SMap w A (sN zs) zs g := by
  obtain ⟨h1, h2, h3, h4, h5⟩ := sRight_facts hB hR
  exact ⟨h.row encS_len, .inr hn, .inr ⟨h1, h2, h3, h4⟩, hB⟩

def pS (zs : List Int) (code : Int) (i : Nat) : Bool := decide (code ≤ n2at zs (14 + 2 * i))

set_option maxRecDepth 100000 in
set_option maxHeartbeats 1000000 in
theorem spred_any (A : Option Addr) (n c : Nat) (zs : List Int) (g : Nat) (code : Int) (B1 B2 : Nat) (w : World) (hr : RowS encS 4 w A n (segs zs n g n)) (hB : Bytes zs) (hn : n ≤ 1000000) (k1 : w.cell? ⟨B1, 0, none⟩ = some (.slice A n c)) (k2 : w.cell? ⟨B2, 0, none⟩ = some (.int .i32 code)) (i : Nat) (hi : i < n) :
    Calls Tryd.prog 56 (#[.int .i64 i] ++ #[.pointer (some ⟨B1, 0, none⟩), .pointer (some ⟨B2, 0, none⟩)]) w (Ret w (.bool (pS zs code i))) := by
  obtain ⟨gg, off, rfl, hg, d0, d1, d2, d3⟩ := atS hr (segs_get zs n g hi)
  have hb : (sgAt zs n g i).b = n2at zs (14 + 2 * i) := rfl
  rw [hb] at d1
  have kb := n2at_lt hB (14 + 2 * i)
  have HP : Hid (pS zs code i = decide (code ≤ n2at zs (14 + 2 * i))) := rfl
  clear hr d0 d2 d3 hb hB
  generalize n2at zs (14 + 2 * i) = xb at *
  have F1 : IntKind.i32.wrap xb = xb := IntWalk.i32_in _ (by omega)
  show Calls Tryd.prog 56 #[.int .i64 i, .pointer (some ⟨B1, 0, none⟩), .pointer (some ⟨B2, 0, none⟩)] w _
  go_enter Tryd.func56, Tryd.ntmps56
  go_wp2
  go_quiet (fail)
  go_wp2
  go_ret
  rw [HP.out]
  exact ⟨rfl, below_drewN (Below.refl _ _) _⟩

set_option maxRecDepth 100000 in
set_option maxHeartbeats 4000000 in
theorem slook1_any (zs : List Int) (n g i : Nat) (code : Int) (w : World) (hm : Row w (some ⟨g, 0, none⟩) (sM zs) (cellsOf .u16 (nums zs (sM zs)))) (hok : sOkK zs n n = true) (hM : 8 + 4 * n ≤ sM zs) (hM3 : sM zs ≤ 32767) (hM2 : n2at zs 2 = 2 * (sM zs : Int)) (hB : Bytes zs) (hi : i < n) (h1 : (sqAt zs n i).a ≤ code) (h2 : code ≤ (sqAt zs n i).b) :
    Calls Tryd.prog 57 #[.agg #[.int .u16 (sqAt zs n i).a, .int .u16 (sqAt zs n i).b, .int .u16 (sqAt zs n i).d, .slice (sgA zs n g i) (sgn_ zs n i) (sgn_ zs n i)], .int .u16 code] w (Ret w (.int .u16 (valS zs n i code))) := by
  have k0 : 0 ≤ (sqAt zs n i).o ∧ (sqAt zs n i).o < 65536 := n2at_lt hB _
  have k1 : 0 ≤ (sqAt zs n i).a ∧ (sqAt zs n i).a < 65536 := n2at_lt hB _
  have k2 : 0 ≤ (sqAt zs n i).b ∧ (sqAt zs n i).b < 65536 := n2at_lt hB _
  have k3 : 0 ≤ (sqAt zs n i).d ∧ (sqAt zs n i).d < 65536 := n2at_lt hB _
  have hoff := sOk_at hok hi
  unfold sOkAt at hoff
  rw [Bool.and_eq_true] at hoff
  have hoff := hoff.2
  unfold sOff at hoff
  rw [hM2] at hoff
  have HV : Hid (valS zs n i code = if (sqAt zs n i).o = 0 then (code + (sqAt zs n i).d) % 65536 else if n2at zs (16 + 6 * n + 2 * i + (sqAt zs n i).o.toNat + 2 * (code - (sqAt zs n i).a).toNat) = 0 then 0 else (n2at zs (16 + 6 * n + 2 * i + (sqAt zs n i).o.toNat + 2 * (code - (sqAt zs n i).a).toNat) + (sqAt zs n i).d) % 65536) := by show _ = _; unfold valS; rw [if_pos h1]
  have HA : Hid (sgA zs n g i = if (sqAt zs n i).o = 0 then none else some ⟨g, 8 + 3 * n + i + ((sqAt zs n i).o / 2).toNat, none⟩) := rfl
  have HN : Hid (sgn_ zs n i = if (sqAt zs n i).o = 0 then 0 else ((sqAt zs n i).b - (sqAt zs n i).a + 1).toNat) := rfl
  generalize sqAt zs n i = x at *
  generalize sgA zs n g i = SA at *
  generalize sgn_ zs n i = SN at *
  generalize valS zs n i code = V at *
  obtain ⟨xa, xb, xd, xo⟩ := x
  simp only at *
  by_cases h0 : xo = 0
  · have e1 : SA = none := by rw [HA.out, if_pos h0]
    have e2 : SN = 0 := by rw [HN.out, if_pos h0]
    have HV2 : Hid (V = (code + xd) % 65536) := by show _ = _; rw [HV.out, if_pos h0]
    subst e1 e2
    have F : IntKind.u16.wrap (code + xd) = (code + xd) % 65536 := IntKind.wrap_u16 _
    have hA := (Below.refl w.heap.size w).alloc (Nat.le_refl _) (.cells #[.int .u16 xa, .int .u16 xb, .int .u16 xd, .slice none 0 0] 90)
    clear HA HN HV hoff h0 hm
    go_enter Tryd.func57, Tryd.ntmps57
    go_wp2
    go_ret
    rw [HV2.out]
    first
      | exact ⟨rfl, hA⟩
      | exact ⟨by rw [← F]; rfl, hA⟩
  · simp only [decide_eq_false h0, Bool.false_or, Bool.and_eq_true, decide_eq_true_eq] at hoff
    obtain ⟨p, hp⟩ : ∃ p : Nat, 8 + 3 * n + i = p := ⟨_, rfl⟩
    obtain ⟨q, hq⟩ : ∃ q : Nat, xo / 2 = (q : Int) := ⟨(xo / 2).toNat, by omega⟩
    obtain ⟨r, hr⟩ : ∃ r : Nat, xb - xa + 1 = (r : Int) := ⟨(xb - xa + 1).toNat, by omega⟩
    obtain ⟨t, ht⟩ : ∃ t : Nat, code - xa = (t : Int) := ⟨(code - xa).toNat, by omega⟩
    have e1 : SA = some ⟨g, p + q, none⟩ := by rw [HA.out, if_neg h0, hp, hq]; rfl
    have e2 : SN = r := by rw [HN.out, if_neg h0, hr]; rfl
    have hc := num_cell hm (i := p + q + t) (by omega)
    have ei : 16 + 6 * n + 2 * i + xo.toNat + 2 * (code - xa).toNat = 2 * (p + q + t) := by omega
    have HV2 : Hid (V = if n2at zs (2 * (p + q + t)) = 0 then 0 else (n2at zs (2 * (p + q + t)) + xd) % 65536) := by show _ = _; rw [HV.out, if_neg h0, ei]
    have kv := n2at_lt hB (2 * (p + q + t))
    have hgl : g < w.heap.size := World.block_lt_of_cell? _ _ hc
    have hgn : g ≠ w.heap.size := by omega
    have htr : t < r := by omega
    have hr0 : ((r : Int) == 0) = false := by simp; omega
    subst e1 e2
    have hA := (Below.refl w.heap.size w).alloc (Nat.le_refl _) (.cells #[.int .u16 xa, .int .u16 xb, .int .u16 xd, .slice (some ⟨g, p + q, none⟩) SN SN] 90)
    clear HA HN HV hoff h0 hm hp hq hr ei hok hM hM3 hM2 hB
    generalize n2at zs (2 * (p + q + t)) = v at *
    by_cases hv : v = 0
    · have bv : (v == 0) = true := by simp [hv]
      have HV3 : Hid (V = 0) := by show _ = _; rw [HV2.out, if_pos hv]
      clear HV2 hv
      go_enter Tryd.func57, Tryd.ntmps57
      go_wp2
      go_ret
      rw [HV3.out]
      exact ⟨rfl, hA⟩
    · have bv : (v == 0) = false := by simp [hv]
      have HV3 : Hid (V = (v + xd) % 65536) := by show _ = _; rw [HV2.out, if_neg hv]
      have F : IntKind.u16.wrap (v + xd) = (v + xd) % 65536 := IntKind.wrap_u16 _
      clear HV2 hv
      go_enter Tryd.func57, Tryd.ntmps57
      go_wp2
      go_ret
      rw [HV3.out]
      first
        | exact ⟨rfl, hA⟩
        | exact ⟨by rw [← F]; rfl, hA⟩

set_option maxRecDepth 100000 in
set_option maxHeartbeats 4000000 in
theorem slook_any (A : Option Addr) (n c : Nat) (zs : List Int) (g : Nat) (code : Int) (w : World) (hm : SMap w A n zs g) (hn : n ≤ 1000000) (c0 : -2147483648 ≤ code) (c1 : code ≤ 2147483647) :
    Calls Tryd.prog 34 #[smV A n c, .int .i32 code] w (Ret w (.int .u16 (lookS zs n code 0 n))) := by
  have hA : Below w.heap.size w ((w.alloc (.cells #[.slice A n c] 35)).alloc (.cells #[.int .i32 code] 21)) := ((Below.refl w.heap.size w).alloc (Nat.le_refl _) _).alloc (by simp) _
  have hB1 : ((w.alloc (.cells #[.slice A n c] 35)).alloc (.cells #[.int .i32 code] 21)).heap[w.heap.size]? = some (.cells #[.slice A n c] 35 (0, 0)) := kept_alloc (heap_alloc_new w _) _
  have hB2 : ((w.alloc (.cells #[.slice A n c] 35)).alloc (.cells #[.int .i32 code] 21)).heap[w.heap.size + 1]? = some (.cells #[.int .i32 code] 21 (0, 0)) := by
    have := heap_alloc_new (w.alloc (.cells #[.slice A n c] 35)) (.cells #[.int .i32 code] 21)
    rwa [show (w.alloc (.cells #[.slice A n c] 35)).heap.size = w.heap.size + 1 by simp] at this
  have eg : ∀ args w, (callFunc 56 args).run Tryd.prog w = .ok (.enter 56 args) w := enters_of Tryd.func56 (by kernel_rfl) rfl
  have hS := search_any 56 #[.pointer (some ⟨w.heap.size, 0, none⟩), .pointer (some ⟨w.heap.size + 1, 0, none⟩)] n (pS zs code) ((w.alloc (.cells #[.slice A n c] 35)).alloc (.cells #[.int .i32 code] 21)) eg hn (fun W i hi hb =>
    spred_any A n c zs g code _ _ W ((hm.row.below hA).below hb) hm.byt hn (cell_of_row W _ 0 _ _ _ (kept_block hB1 hb)) (cell_of_row W _ 0 _ _ _ (kept_block hB2 hb)) i hi)
  have HS := Lib.hid hS
  clear hS eg
  unfold smV
  go_enter Tryd.func34, Tryd.ntmps34
  go_wp2_with fail
  refine HS.out.mono ?_
  rintro e w1 ⟨r, hrn, rfl, hlo, hhi, hb1⟩
  have k1 : w1.cell? ⟨w.heap.size, 0, none⟩ = some (.slice A n c) := cell_of_row w1 _ 0 _ _ _ (kept_block hB1 hb1)
  have k2 : w1.cell? ⟨w.heap.size + 1, 0, none⟩ = some (.int .i32 code) := cell_of_row w1 _ 0 _ _ _ (kept_block hB2 hb1)
  have hbw := hA.trans (hb1.mono hA.size)
  have hmw := hm.below hbw
  have hlow : ∀ j, j < r → n2at zs (14 + 2 * j) < code := fun j hj => by
    have h := hlo (by omega)
    unfold pS at h
    rw [decide_eq_false_iff_not] at h
    rcases hm.ok with h0 | ⟨hok, _⟩
    · omega
    · exact sEnds_le hok (r := r - 1) (by omega) (by omega) j (by omega)
  clear HS hA hB1 hB2 hb1 hlo hm
  by_cases hlt : r < n
  · have hne : ((r : Int) == (n : Int)) = false := by simp; omega
    have hcb : code ≤ n2at zs (14 + 2 * r) := by have := hhi hlt; unfold pS at this; exact of_decide_eq_true this
    have HL : Hid (lookS zs n code 0 n = valS zs n r code) := lookS_at hlt hlow hcb
    obtain ⟨gg, off, rfl, hg, d0, d1, d2, d3⟩ := atS hmw.row (segs_get zs n g hlt)
    rcases hmw.ok with h0 | ⟨hok, hM, hM3, hM2⟩
    · omega
    rcases hmw.num with h0 | hnum
    · omega
    have ka : 0 ≤ (sqAt zs n r).a ∧ (sqAt zs n r).a < 65536 := n2at_lt hmw.byt _
    have kb : 0 ≤ (sqAt zs n r).b ∧ (sqAt zs n r).b < 65536 := n2at_lt hmw.byt _
    have hcb' : code ≤ (sqAt zs n r).b := hcb
    have HC : Hid ((sqAt zs n r).a ≤ code → ∀ W, Below w1.heap.size w1 W → Calls Tryd.prog 57 #[.agg #[.int .u16 (sqAt zs n r).a, .int .u16 (sqAt zs n r).b, .int .u16 (sqAt zs n r).d, .slice (sgA zs n g r) (sgn_ zs n r) (sgn_ zs n r)], .int .u16 code] W (Ret W (.int .u16 (valS zs n r code)))) := fun h W hW => slook1_any zs n g r code W (hnum.below hW) hok hM hM3 hM2 hmw.byt hlt h hcb'
    have HL0 : Hid (¬ (sqAt zs n r).a ≤ code → valS zs n r code = 0) := fun h => by unfold valS; rw [if_neg h]
    unfold sgAt at d0 d1 d2 d3
    clear hlow hhi hmw hnum hok hM2 hcb
    generalize sqAt zs n r = x at *
    generalize sgA zs n g r = SA at *
    generalize sgn_ zs n r = SN at *
    generalize valS zs n r code = vv at *
    obtain ⟨xa, xb, xd, xo⟩ := x
    simp only at *
    have F1 : IntKind.i32.wrap xa = xa := IntWalk.i32_in _ (by omega)
    by_cases hac : xa ≤ code
    · have HC2 := Lib.hid (HC.out hac)
      have F2 : IntKind.u16.wrap code = code := IntWalk.u16_in _ (by omega)
      clear HC HL0
      go_wp2
      go_quiet (fail)
      go_wp2_with fail
      have hbn := below_drewN (Below.refl w1.heap.size w1) nq
      have hbw2 := hbw.trans (hbn.mono hbw.size)
      replace k1 : (w1.drewN nq).cell? ⟨w.heap.size, 0, none⟩ = some (.slice (some ⟨gg, off, none⟩) n c) := k1
      replace k2 : (w1.drewN nq).cell? ⟨w.heap.size + 1, 0, none⟩ = some (.int .i32 code) := k2
      replace d0 : (w1.drewN nq).cell? ⟨gg, off + r * 4, none⟩ = some (.int .u16 xa) := d0
      replace d1 : (w1.drewN nq).cell? ⟨gg, off + r * 4 + 1, none⟩ = some (.int .u16 xb) := d1
      replace d2 : (w1.drewN nq).cell? ⟨gg, off + r * 4 + 2, none⟩ = some (.int .u16 xd) := d2
      replace d3 : (w1.drewN nq).cell? ⟨gg, off + r * 4 + 3, none⟩ = some (.slice SA SN SN) := d3
      have HC3 : Hid (∀ p os, Calls Tryd.prog 57 #[.agg #[.int .u16 xa, .int .u16 xb, .int .u16 xd, .slice SA SN SN], .int .u16 code] (gw (w1.drewN nq) p os) (Ret (gw (w1.drewN nq) p os) (.int .u16 vv))) := fun p os => HC2.out _ (hbn.trans ((gw_below _ p os).mono hbn.size))
      clear HC2 hbn
      generalize w1.drewN nq = V at *
      have K1 := gw_cell k1
      have K2 := gw_cell k2
      have D0 := gw_cell d0
      have D1 := gw_cell d1
      have D2 := gw_cell d2
      have D3 := gw_cell d3
      refine region_below (by kernel_rfl) (by kernel_rfl) ?_
      repeat (first | go_big_quiet_step (first | (go_at_call 57; exact calls_gw (HC3.out _ _))) | quiet_step (first | (go_at_call 57; exact calls_gw (HC3.out _ _))))
      refine wpQuiet_nil ?_
      rintro _ ⟨z, rfl⟩
      go_wp2
      go_ret
      rw [HL.out]
      exact ⟨rfl, hbw2.trans ((gw_below V z.n z.os).mono hbw2.size)⟩
    · have HL2 : Hid (vv = 0) := HL0.out hac
      clear HC HL0
      go_wp2
      go_quiet (fail)
      go_wp2
      go_ret
      rw [HL.out, HL2.out]
      exact ⟨rfl, below_drewN hbw _⟩
  · obtain rfl : r = n := by omega
    have hne : ((r : Int) == (r : Int)) = true := by simp
    have HL2 : Hid (lookS zs r code 0 r = 0) := lookS_none hlow
    clear hlow hhi hmw
    go_wp2
    go_quiet (fail)
    go_wp2
    go_ret
    rw [HL2.out]
    exact ⟨rfl, below_drewN hbw _⟩

end Go.Proofs.YthkaeimpflggjaaDoor
