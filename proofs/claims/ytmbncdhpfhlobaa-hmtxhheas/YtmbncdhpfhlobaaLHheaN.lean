/- The law HmtxHheas. -/
import Derived.Test.YtmbncdhpfhlobaaHheaO
import Derived.Test.YtmbncdhpfhlobaaHmtxFew
import Derived.Test.YtmbncdhpfhlobaaInts
import Derived.Deep.DeepCutAuto
namespace Go.Proofs.Ytmbncdhpfhlobaa
open Go.RowKit
set_option linter.unusedVariables false

/-- Slices of bytes in a row of their own. -/
structure GS (w wr : World) (g : Nat) (l : List BsV) : Prop where
  row : Row wr (some ⟨g, 0, none⟩) l.length (l.map BsV.val)
  oks : ∀ p ∈ l, p.ok wr
  bel : Below w.heap.size w wr

section
variable {w wr w' : World} {g : Nat} {l : List BsV}
theorem GS.below (h : GS w wr g l) (hb : Below wr.heap.size wr w') : GS w w' g l := ⟨h.row.below hb, fun p hp => Row.below (h.oks p hp) hb, h.bel.trans (hb.mono h.bel.size)⟩
theorem GS.drewN (h : GS w wr g l) (q : Nat) : GS w (wr.drewN q) g l := ⟨h.row, h.oks, below_drewN h.bel q⟩
theorem GS.cell (h : GS w wr g l) {j : Nat} {p : BsV} (hp : l[j]? = some p) : wr.cell? ⟨g, j, none⟩ = some p.val := by
  obtain ⟨g', off', e, _, hc⟩ := h.row.at (j := j) (u := p.val) (by simp [hp])
  simp only [Option.some.injEq, Addr.mk.injEq, and_true] at e
  obtain ⟨rfl, rfl⟩ := e
  rwa [Nat.zero_add] at hc
end

theorem hhRight_same {zs : List Int} (h : hhRight zs = true) : sameB (hhB (hhOf zs)) zs = true ∧ zs.length = 36 := by
  unfold hhRight at h
  rw [Bool.and_eq_true, decide_eq_true_eq] at h
  exact ⟨h.2, h.1⟩

theorem xor_byteH (x y : Int) : 0 ≤ bits .xor .u8 x y ∧ bits .xor .u8 x y ≤ 255 := bounds_u8 (wf_bits .xor .u8 x y)
theorem set_bytesH {zs : List Int} (h : Bytes zs) (j : Nat) {v : Int} (v0 : 0 ≤ v) (v1 : v ≤ 255) : Bytes (zs.set j v) := fun x hx => by
  rcases List.mem_or_eq_of_mem_set hx with h' | rfl
  · exact h x h'
  · exact ⟨v0, v1⟩

set_option maxRecDepth 100000 in
set_option maxHeartbeats 8000000 in
theorem law_HmtxHheas_no (h : Hh) (A : Option Addr) (n c : Nat) (zs : List Int) (a x : Int) (w : World) (hm : h.ok) (hp : hpos h = false) (hr : Row w A n (cellsOf .u8 zs)) (hB : Bytes zs) (hn : n ≤ 9223372036854775807) :
    Calls Try.prog 5 #[hhU h, .slice A n c, .int .u8 a, .int .u8 x] w (True_ w) := by
  have hA : Below w.heap.size w (w.alloc (.cells (hhA h) 52)) := (Below.refl _ _).alloc (Nat.le_refl _) _
  have hk := heap_alloc_new w (.cells (hhA h) 52)
  have HBr : Hid (Bytes (zs.take (40 : Int).toNat)) := fun x hx => hB x (List.mem_of_mem_take hx)
  have Hby := Lib.hid (fun V => hbytesO h V hm)
  have HhB : Hid (hhB h = []) := by unfold hhB; rw [hp]; exact rfl
  have Hnot : Hid (¬ (0 < h.lg ∧ h.f0 = 0 ∧ h.f15 = 0)) := of_decide_eq_false hp
  have SI := Lib.hid (hhA_info h)
  clear hm hp hB
  rw [HhB.out] at Hby
  go_enter Try.func5, Try.ntmps5
  go_wp2_with fail
  generalize w.alloc _ = V at *
  refine (awake7_any V).mono ?_
  rintro e w1 ⟨rfl, hb1⟩
  have hk1 := kept_block hk hb1
  have hB1 := hA.trans (hb1.mono hA.size)
  clear hk hA hb1
  go_wp2_with fail
  refine (cut_any _ _ _ zs 40 _ (hr.below hB1) hn (by omega)).mono ?_
  rintro e w2 ⟨Ar, nr, cr, rfl, or_, hb2⟩
  have hk2 := kept_block hk1 hb2
  have hB2 := hB1.trans (hb2.mono hB1.size)
  have rr2 := or_.row
  have hlr : (zs.take (40 : Int).toNat).length ≤ 200 := by rw [List.length_take]; simp; omega
  clear hk1 hB1 hb2 or_ hr hn
  generalize zs.take (40 : Int).toNat = rz' at *
  go_wp2_with (with_reducible refine wpList_load_row rfl 52 (.tmp 4) rfl w.heap.size rfl 52 (hhA h) (0, 0) _ hk2 Try.underlying52 rfl SI.out ?_)
  refine (Hby.out w2).mono ?_
  rintro e w3 ⟨Ap, np, cp, rfl, op, hb3⟩
  have hk3 := kept_block hk2 hb3
  have hB3 := hB2.trans (hb3.mono hB2.size)
  have rr3 := rr2.below hb3
  have rp3 := op.row
  clear hk2 hB2 hb3 rr2 op
  have hnp : np = 0 := rp3.1.symm
  subst hnp
  have c0 : w3.cell? ⟨w.heap.size, 0, none⟩ = some (.int .u16 h.f0) := cell_of_row w3 _ 0 _ _ _ hk3
  have c15 : w3.cell? ⟨w.heap.size, 15, none⟩ = some (.int .u16 h.f15) := cell_of_row w3 _ 15 _ _ _ hk3
  have c16 : w3.cell? ⟨w.heap.size, 16, none⟩ = some (.int .u16 h.lg) := cell_of_row w3 _ 16 _ _ _ hk3
  have HBp : Hid (Bytes []) := fun x hx => (by cases hx)
  have key : (¬ 0 < h.lg) ∨ (0 < h.lg ∧ (h.f0 == 0) = false) ∨ (0 < h.lg ∧ (h.f0 == 0) = true ∧ (h.f15 == 0) = false) := by
    have := Hnot.out
    by_cases h1 : 0 < h.lg
    · by_cases h2 : h.f0 = 0
      · by_cases h3 : h.f15 = 0
        · exact absurd ⟨h1, h2, h3⟩ this
        · exact .inr (.inr ⟨h1, by simpa using h2, by simpa using h3⟩)
      · exact .inr (.inl ⟨h1, by simpa using h2⟩)
    · exact .inl h1
  clear hk3
  go_upto_region 5 with fail
  go_cut [41] (fun s wx => s = .bool false ∧ wx = w3)
  case first =>
    rcases key with h1 | ⟨h1, h2⟩ | ⟨h1, h2, h3⟩
    all_goals
      go_wp2
      go_meet
      exact ⟨rfl, rfl⟩
  case rest =>
    obtain ⟨rfl, rfl⟩ := hcut
    have hbw := hB3
    have rr := rr3
    have rp := rp3
    have rb := rr3
    clear hB3 rr3 rp3 c0 c15 c16 key Hnot Hby
    have hal1 : Below wc.heap.size wc (wc.alloc (.cells #[.int .u8 0] 5)) := (Below.refl _ _).alloc (Nat.le_refl _) _
    have rz : Row (wc.alloc (.cells #[.int .u8 0] 5)) (some ⟨wc.heap.size, 0, none⟩) 1 (cellsOf .u8 [0]) := row_one _ _ _ _
    have rb1 := rb.below hal1
    have rr1 := rr.below hal1
    have rp1 := rp.below hal1
    have hB1' := hbw.trans (hal1.mono hbw.size)
    have hSz : wc.heap.size + 1 = (wc.alloc (.cells #[.int .u8 0] 5)).heap.size := by simp
    have HSz := Lib.hid hSz
    clear rb rr rp hal1 hbw hSz
    go_wp2_with fail
    generalize wc.alloc (.cells #[.int .u8 0] 5) = Wz at *
    have HLp := Lib.hid rp1.len
    with_reducible refine (join2_any Wz _ Ap _ 0 cp 1 1 ([] : List Int) [0] HSz.out rp1 rz (by have := HLp.out; simp <;> omega)).mono ?_
    rintro e w7 ⟨A7, n7, c7, rfl, o7, hb7⟩
    have rb7 := rb1.below hb7
    have rr7 := rr1.below hb7
    have r7 := o7.row
    have hbw7 := hB1'.trans (hb7.mono hB1'.size)
    have HB7 : Hid (Bytes ([0])) := bytes_append HBp.out (by intro x hx; simp at hx; omega)
    have hl7 : ([0]).length ≤ 200 := by have := HLp.out; simp <;> omega
    clear rb1 rr1 rp1 rz o7 hb7 hB1'
    have hgs : GS w (w7.alloc (.cells #[.slice Ar nr cr, .slice Ar nr cr, .slice A7 n7 c7] 27)) w7.heap.size [⟨Ar, nr, cr, rz'⟩, ⟨Ar, nr, cr, rz'⟩, ⟨A7, n7, c7, [0]⟩] := by
      have hal : Below w7.heap.size w7 (w7.alloc (.cells #[.slice Ar nr cr, .slice Ar nr cr, .slice A7 n7 c7] 27)) := (Below.refl _ _).alloc (Nat.le_refl _) _
      refine ⟨row_vals w7 27 _ 3 rfl, fun p hp => ?_, hbw7.trans (hal.mono hbw7.size)⟩
      simp only [List.mem_cons, List.not_mem_nil, or_false] at hp
      rcases hp with rfl | rfl | rfl
      · exact rb7.below hal
      · exact rr7.below hal
      · exact r7.below hal
    have HBs : Hid (∀ p ∈ ([⟨Ar, nr, cr, rz'⟩, ⟨Ar, nr, cr, rz'⟩, ⟨A7, n7, c7, [0]⟩] : List BsV), Bytes p.ys ∧ p.ys.length ≤ 200) := by
      intro p hp
      simp only [List.mem_cons, List.not_mem_nil, or_false] at hp
      rcases hp with rfl | rfl | rfl
      · exact ⟨HBr.out, hlr⟩
      · exact ⟨HBr.out, hlr⟩
      · exact ⟨HB7.out, hl7⟩
    clear rb7 rr7 r7 hbw7
    go_wp2
    generalize hls : ([⟨Ar, nr, cr, rz'⟩, ⟨Ar, nr, cr, rz'⟩, ⟨A7, n7, c7, [0]⟩] : List BsV) = ls at hgs HBs
    have hll : ls.length = 3 := by rw [← hls]; rfl
    have HLL := Lib.hid hll
    clear hls hll
    generalize w7.heap.size = g7 at *
    go_loopw [90] (fun i wr => ∃ j : Nat, j ≤ 3 ∧ i = .int .i64 j ∧ GS w wr g7 ls) (fun i _ => 3 - (intOf i).toNat)
    case atStart => exact ⟨0, Nat.zero_le _, rfl, hgs⟩
    case round =>
      clear hgs
      obtain ⟨j, hj, rfl, hgs⟩ := hrel
      by_cases hjl : j < 3
      · obtain ⟨p, hp⟩ : ∃ p, ls[j]? = some p := ⟨_, List.getElem?_eq_getElem (by rw [HLL.out]; exact hjl)⟩
        obtain ⟨hpB, hpl⟩ := HBs.out p (List.mem_of_getElem? hp)
        have HpB := Lib.hid hpB
        have Hmem := Lib.hid (List.mem_of_getElem? hp)
        have hc := hgs.cell hp
        have hok := hgs.oks p (List.mem_of_getElem? hp)
        obtain ⟨qA, qn, qc, qs⟩ := p
        simp only [BsV.val] at hc
        change Row wr qA qn (cellsOf .u8 qs) at hok
        have hqn : qn ≤ 200 := by have := hok.len; simp only at hpl; omega
        clear hp hpB hpl
        cases hR : hhRight qs with
        | false =>
          have HT := Lib.hid (hhToldO_no hR)
          have heq0 : ∀ V, (Op.equalIn 10000 52 (.agg (hhA hh0)) (.agg hhZ)).run Try.prog V = .ok true V := fun V => eqO hh0 V
          clear hR
          go_wp2_with fail
          refine (hphO qA qn qc qs _ hok HpB.out).mono ?_
          rintro e w8 ⟨rfl, hb8⟩
          rw [HT.out]
          have hgs8 := hgs.below hb8
          have hz8 := heap_alloc_new w8 (.cells hhZ 52)
          have hk8 := setRow_heap _ w8.heap.size hhZ (hhA hh0) 52 (0, 0) hz8
          have hgs9 := hgs8.below (below_row (Nat.le_refl _) (hhA hh0) ((Below.refl w8.heap.size w8).alloc (Nat.le_refl _) (.cells hhZ 52)))
          have SI := Lib.hid (hhA_info hh0)
          have SA := Lib.hid (hhA_all hh0)
          have SZ := Lib.hid (hhZ_size hh0)
          have H9 := Lib.hid hgs9
          clear hgs hgs8 hb8 hok hc hgs9
          go_wp2_with (first
            | (with_reducible refine wpList_store_row rfl 52 (.tmp 15) (.tmp 97) rfl w8.heap.size (hhA hh0) rfl rfl 52 hhZ hz8 SI.out SZ.out SA.out ?_)
            | ((with_reducible refine wpList_load_wanted ?hw 52 (.tmp 15) rfl w8.heap.size rfl 52 (hhA hh0) (0, 0) _ hk8 Try.underlying52 rfl SI.out ?_); case hw => rfl))
          go_roundw
          case rel => exact ⟨j + 1, by omega, by go_num, H9.out⟩
          case measure => simp [intOf]; omega
        | true =>
          have HT := Lib.hid (hhToldO_yes hR)
          obtain ⟨hsm, _⟩ := hhRight_same hR
          have Hsm := Lib.hid hsm
          have hokq := hhOf_ok HpB.out
          have Hby := Lib.hid (fun V => hbytesO (hhOf qs) V hokq)
          have hBl : (hhB (hhOf qs)).length ≤ 40 := by unfold hhB; split <;> simp [hhL_len]
          have HBl := Lib.hid hBl
          clear hR hsm hokq hBl
          go_wp2_with fail
          refine (hphO qA qn qc qs _ hok HpB.out).mono ?_
          rintro e w8 ⟨rfl, hb8⟩
          rw [HT.out]
          have hgs8 := hgs.below hb8
          generalize hhB (hhOf qs) = ys at Hby Hsm HBl
          generalize hhOf qs = m at *
          have hz8 := heap_alloc_new w8 (.cells hhZ 52)
          have hk8 := setRow_heap _ w8.heap.size hhZ (hhA m) 52 (0, 0) hz8
          have hgs9 := hgs8.below (below_row (Nat.le_refl _) (hhA m) ((Below.refl w8.heap.size w8).alloc (Nat.le_refl _) (.cells hhZ 52)))
          have SI := Lib.hid (hhA_info m)
          have SA := Lib.hid (hhA_all m)
          have SZ := Lib.hid (hhZ_size m)
          have H9 := Lib.hid hgs9
          clear hgs hgs8 hb8 hok hc hgs9
          go_wp2_with (first
            | (with_reducible refine wpList_store_row rfl 52 (.tmp 15) (.tmp 97) rfl w8.heap.size (hhA m) rfl rfl 52 hhZ hz8 SI.out SZ.out SA.out ?_)
            | ((with_reducible refine wpList_load_wanted ?hw 52 (.tmp 15) rfl w8.heap.size rfl 52 (hhA m) (0, 0) _ hk8 Try.underlying52 rfl SI.out ?_); case hw => rfl))
          have hgs9 := H9.out
          have hokq := hgs9.oks _ Hmem.out
          change Row _ qA qn (cellsOf .u8 qs) at hokq
          clear H9 hz8 hk8
          generalize (w8.alloc (.cells hhZ 52)).setRow w8.heap.size (hhA m) = w9 at *
          refine (Hby.out w9).mono ?_
          rintro e w10 ⟨A10, n10, c10, rfl, o10, hb10⟩
          have hgs10 := hgs9.below hb10
          have hok10 := hokq.below hb10
          have hn10 : n10 ≤ 40 := by have h1 := o10.len; have h2 := HBl.out; omega
          have r10 := o10.row
          clear hgs9 hokq o10 hb10
          go_wp2_with fail
          with_reducible refine (same_any _ _ _ _ _ _ _ _ _ r10 hok10 (by omega) (by omega)).mono ?_
          rintro e w11 ⟨rfl, q, rfl⟩
          rw [Hsm.out]
          have hgs11 := hgs10.drewN q
          generalize w10.drewN q = w11 at *
          clear hgs10 hok10 r10
          go_wp2
          go_roundw
          case rel => exact ⟨j + 1, by omega, by go_num, hgs11⟩
          case measure => simp [intOf]; omega
      · go_wp2
        go_ret
        exact ⟨rfl, hgs.bel⟩

end Go.Proofs.Ytmbncdhpfhlobaa
