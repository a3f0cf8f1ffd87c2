/- cmap.placesOf, as a contract over this seat's translation. -/
import Derived.Test.YthkaeimpflggjaaDoorCmK
import Derived.Test.YthkaeimpflggjaaDoorTwo
import Derived.Test.YthkaeimpflggjaaDoorSub
import Derived.Test.YthkaeimpflggjaaDoorGrpP
import Derived.Maps.OwnOps
import Derived.Carry
import Derived.Lib.MinMax
namespace Go.Proofs.YthkaeimpflggjaaDoor
open Go.RowKit Go.Maps
set_option linter.unusedVariables false

theorem Tryd.zeroU32 (w : World) : (zeroValue 58).run Tryd.prog w = .ok (.int .u32 0) w := by kernel_rfl

theorem rdq_map {w w' : World} {B b i BM n : Nat} {zs : List Int} {D : DataW Unit} (h : RdQ w B b zs i) (hm : w.ownsMap Tryd.prog 65 (plainElem Tryd.prog 58) BM n D) (hb : b ≠ BM) (hg : w.grownBy w' (some BM)) : RdQ w' B b zs i := by
  obtain ⟨es, clock, hh, _⟩ := hm
  refine h.keep hg.size (fun g hg1 _ ho => hg.block g hg1 (fun e => ?_))
  simp only [Option.some.injEq] at e
  subst e
  rcases ho with e | ⟨cur, hc⟩
  · exact hb e.symm
  · rw [hh] at hc
    cases hc

/-- What it leaves. -/
def RetPlaces (w : World) (zs : List Int) (e : Ending) (w' : World) : Prop :=
  Below w.heap.size w w' ∧ ((cFront zs = false ∧ e = .returned (.tuple #[.map none, .bool false])) ∨
    (cFront zs = true ∧ ∃ (BM : Nat) (D : DataW Unit), e = .returned (.tuple #[.map (some BM), .bool true]) ∧ w'.ownsMap Tryd.prog 65 (plainElem Tryd.prog 58) BM (cN zs) D ∧ KindMap zs (cN zs) D))

set_option maxRecDepth 100000 in
set_option maxHeartbeats 4000000 in
theorem places_any (A : Option Addr) (n c : Nat) (zs : List Int) (w : World) (hr : Row w A n (cellsOf .u8 zs)) (hB : Bytes zs) (hn : n ≤ 1000000) (hc : n ≤ c) :
    Calls Tryd.prog 28 #[.slice A n c] w (RetPlaces w zs) := by
  obtain ⟨m, hm, hmn, hm4⟩ : ∃ m : Nat, min (n : Int) 4 = m ∧ m ≤ n ∧ m ≤ 4 := ⟨min n 4, by omega, by omega, by omega⟩
  have hr' : Row w A m (cellsOf .u8 (zs.take 4)) := by rw [show m = min n 4 by omega]; exact row_take16 4 hr
  have hB' : Bytes (zs.take 4) := cut_bytes hB _
  have e0 : n2at (zs.take 4) 0 = n2at zs 0 := n2at_takeG zs 4 0 (by omega)
  have e2 : n2at (zs.take 4) 2 = n2at zs 2 := n2at_takeG zs 4 2 (by omega)
  have hl' := hr'.len
  have hl := hr.len
  have k2 := n2at_lt hB 2
  have hN : n2at zs 2 = (cN zs : Int) := by unfold cN; omega
  have hF : Hid (cFront zs = (decide (4 ≤ n) && decide (n2at zs 0 = 0) && decide (4 + 8 * cN zs ≤ n))) := by show _ = _; unfold cFront; rw [hl]
  have HP : Hid (∀ i, i < cN zs → n2at (part zs 4 (4 + 8 * cN zs)) (8 * i) = n2at zs (4 + 8 * i) ∧ n2at (part zs 4 (4 + 8 * cN zs)) (8 * i + 2) = n2at zs (6 + 8 * i) ∧ n4at (part zs 4 (4 + 8 * cN zs)) (8 * i + 2 + 2) = cVal zs i) := by
    show ∀ _ _, _
    intro i hi
    unfold part cVal
    rw [n2at_part (by omega), n2at_part (by omega), n4at_part (by omega), show 4 + (8 * i + 2) = 6 + 8 * i by omega, show 4 + (8 * i + 2 + 2) = 8 + 8 * i by omega]
    exact ⟨rfl, rfl, rfl⟩
  have hN16 : cN zs ≤ 65535 := by omega
  rw [hN] at e2
  have HBz := Lib.hid hB
  have HLz := Lib.hid hl
  have hBp : Bytes (part zs 4 (4 + 8 * cN zs)) := fun x hx => hB x (List.mem_of_mem_take (List.mem_of_mem_drop hx))
  have hlp : (part zs 4 (4 + 8 * cN zs)).length ≤ 600000 := by unfold part; rw [List.length_drop, List.length_take]; omega
  have HBp := Lib.hid hBp
  have HLp := Lib.hid hlp
  have HSubN := Lib.hid (fun W h => sub_no A n c 4 (8 * cN zs) W (by omega) (by omega) (by omega) h)
  have HSubY := Lib.hid (fun W hW h => sub_ok A n c zs 4 (8 * cN zs) W (hr.below hW) hc (by omega) (by omega) (by omega) h)
  clear hBp hlp hr hB hl hN
  generalize zs.take 4 = ps at *
  generalize hNN : cN zs = N at *
  have HNN := Lib.hid hNN
  clear hNN
  generalize n2at zs 0 = v0 at *
  have HB := Lib.hid hB'
  have HL := Lib.hid hl'
  have E0 := Lib.hid e0
  have E2 := Lib.hid e2
  clear hB' hl' e0 e2
  have hmc : (m : Int) ≤ (c : Int) := by omega
  have hm0 : (0 : Int) ≤ (m : Int) := by omega
  have hmm := @run_makeMap Tryd.prog
  have W8 : IntKind.u32.wrap (N : Int) = (N : Int) := IntWalk.u32_in _ (by omega)
  have W9 : IntKind.u32.wrap ((N : Int) * 8) = ((8 * N : Nat) : Int) := by rw [IntWalk.u32_in _ (by omega)]; omega
  go_enter Tryd.func28, Tryd.ntmps28
  go_wp2_with fail
  refine (new_any A m _ ps w hr' (by omega)).mono ?_
  rintro e w1 ⟨b, rfl, hrd, hb1⟩
  have hq := RdQ.new hrd
  clear hrd hr' hm
  go_wp2_with fail
  with_reducible refine (rdq_u16 hq HB.out (by have := HL.out; omega)).mono ?_
  rintro e w2 ⟨rfl, hq2, hg2⟩
  have hb2 := hb1.grown hg2 hb1.size (fun k e => by cases e; exact hq.from_)
  clear hq hg2 hb1
  go_wp2_with fail
  with_reducible refine (rdq_u16 hq2 HB.out (by have := HL.out; omega)).mono ?_
  rintro e w3 ⟨rfl, hq3, hg3⟩
  have hb3 := hb2.grown hg3 hb2.size (fun k e => by cases e; exact hq2.from_)
  clear hq2 hg3 hb2
  simp only [Nat.zero_add] at hq3 ⊢
  rw [E0.out, E2.out]
  clear hq3 E0 E2
  go_wp2_with fail
  have RNo : Hid (∀ W, cFront zs = false → Below w.heap.size w W → RetPlaces w zs (.returned (.tuple #[.map none, .bool false])) W) := fun W h1 h2 => ⟨h2, .inl ⟨h1, rfl⟩⟩
  by_cases hfit : 4 + 8 * N ≤ n
  · refine (HSubY.out _ hb3 hfit).mono ?_
    rintro e w4 ⟨A4, n4, c4, rfl, hown4, hb4'⟩
    have hb4 := hb3.trans (hb4'.mono hb3.size)
    have hn4 := hown4.len
    have hnp : (part zs 4 (4 + 8 * N)).length = 8 * N := by unfold part; rw [List.length_drop, List.length_take]; have := HLz.out; omega
    have hr4 := hown4.row
    clear HSubY HSubN hown4 hb4' hb3
    by_cases hv : v0 = 0
    · have b0 : (v0 == 0) = true := by simp [hv]
      have HFt : Hid (cFront zs = true) := by show _ = _; rw [hF.out]; simp; omega
      clear hF hv RNo
      generalize part zs 4 (4 + 8 * N) = rs at *
      go_wp2_with fail
      refine (new_any A4 n4 _ rs w4 hr4 (by omega)).mono ?_
      rintro e w5 ⟨bq, rfl, hrd, hb5'⟩
      have hq := RdQ.new hrd
      have hb5 := hb4.trans (hb5'.mono hb4.size)
      have hbl := hq.lt
      have hqf0 := hq.from_
      have hw45 := hb4.size
      clear hrd hr4 hb5' hb4
      have hown0 : (w5.alloc (.map #[] 0)).ownsMap Tryd.prog 65 (plainElem Tryd.prog 58) w5.heap.size 0 (.map [] : DataW Unit) := World.ownsMap_made w5 _ _ _
      have hal : Below w5.heap.size w5 (w5.alloc (.map #[] 0)) := (Below.refl _ _).alloc (Nat.le_refl _) _
      have hq0 := hq.below hal
      have hb6 := hb5.trans (hal.mono hb5.size)
      have HNp := Lib.hid hnp
      have hBM : w.heap.size ≤ w5.heap.size := hb5.size
      clear hq hal hb5 hn4 hnp
      go_wp2
      clear hmm
      generalize w5.alloc (.map #[] 0) = W0 at *
      generalize w5.heap.size = BM at *
      generalize w4.heap.size = Bq at *
      go_loopw [44] (fun i wr => ∃ (k : Nat) (D : DataW Unit), k ≤ N ∧ i = .int .u16 k ∧ RdQ wr Bq bq rs (8 * k) ∧ wr.ownsMap Tryd.prog 65 (plainElem Tryd.prog 58) BM k D ∧ Hid (KindMap zs k D) ∧ Below w.heap.size w wr) (fun i _ => N - (intOf i).toNat)
      case atStart => exact ⟨0, .map [], Nat.zero_le _, rfl, hq0, hown0, Lib.hid (KindMap.zero zs), hb6⟩
      case round =>
        clear hq0 hown0 hb6
        obtain ⟨k, D, hk, rfl, hq, hown, hK, hb⟩ := hrel
        by_cases hlt : k < N
        · obtain ⟨p1, p2, p3⟩ := HP.out k hlt
          have HV1 := Lib.hid p1
          have HV2 := Lib.hid p2
          have HV3 := Lib.hid p3
          have a4 := n2at_lt HBz.out (4 + 8 * k)
          have a6 := n2at_lt HBz.out (6 + 8 * k)
          have a8 : 0 ≤ cVal zs k ∧ cVal zs k < 4294967296 := n4at_lt HBz.out (8 + 8 * k)
          have HOld := Lib.hid (fun h => hK.out.old HBz.out h)
          have HNew := Lib.hid (fun h => hK.out.new HBz.out h)
          have HKey := Lib.hid (kind_key (u16_wf a4.1 a4.2) (u16_wf a6.1 a6.2))
          have HWf := Lib.hid (u32_wf a8.1 a8.2)
          have hbne : bq ≠ BM := by omega
          have hqf : w.heap.size ≤ bq := by omega
          clear p1 p2 p3 HP hK
          go_wp2_with fail
          with_reducible refine (rdq_u16 hq HBp.out (by have := HLp.out; omega)).mono ?_
          rintro e v1 ⟨rfl, hq1, hg1⟩
          rw [HV1.out]
          have hb1 := hb.grown hg1 hb.size (fun k e => by cases e; exact hqf)
          have hw1 := hown.kept hg1 (by simp; omega)
          clear hq hg1 hb hown HV1
          go_wp2_with fail
          with_reducible refine (rdq_u16 hq1 HBp.out (by have := HLp.out; omega)).mono ?_
          rintro e v2 ⟨rfl, hq2, hg2⟩
          rw [HV2.out]
          have hb2 := hb1.grown hg2 hb1.size (fun k e => by cases e; exact hqf)
          have hw2 := hw1.kept hg2 (by simp; omega)
          clear hq1 hg2 hb1 hw1 HV2
          go_wp2_with fail
          with_reducible refine (rdq_u32 hq2 HBp.out (by have := HLp.out; omega)).mono ?_
          rintro e v3 ⟨rfl, hq3, hg3⟩
          rw [HV3.out]
          have hb3 := hb2.grown hg3 hb2.size (fun k e => by cases e; exact hqf)
          have hw3 := hw2.kept hg3 (by simp; omega)
          clear hq2 hg3 hb2 hw2 HV3
          rw [show 8 * k + 2 + 2 + 4 = 8 * (k + 1) by omega] at hq3
          generalize n2at zs (4 + 8 * k) = ka at *
          generalize n2at zs (6 + 8 * k) = kb at *
          generalize hvv : cVal zs k = kv at *
          clear hvv
          have hal : Below v3.heap.size v3 (v3.alloc (.cells #[.int .u16 ka, .int .u16 kb] 65)) := (Below.refl _ _).alloc (Nat.le_refl _) _
          have hq4 := hq3.below hal
          have hw4 := hw3.alloc (.cells #[.int .u16 ka, .int .u16 kb] 65)
          have hb4 := hb3.trans (hal.mono hb3.size)
          clear hq3 hw3 hb3 hal
          cases hh : has D (kL ka kb) with
          | true =>
            have HY := Lib.hid (HOld.out hh)
            clear HOld HNew
            go_wp2_with (at_lookup; refine wpList_lookup_own_ok_int _ rfl _ _ 74 rfl 65 58 .u32 Tryd.kindlaw Tryd.underlying74 Tryd.underlying58 (Tryd.zeroU32 _) BM k D rfl hw4 _ (kL ka kb) rfl HKey.out ?_; intro cv hat hwc; rw [hh]; clear hat hwc)
            go_roundw
            case rel => exact ⟨k + 1, D, by omega, by go_num, hq4, hw4.mono (by omega), HY, hb4⟩
            case measure => simp [intOf]; omega
          | false =>
            have HY := Lib.hid (HNew.out hh)
            clear HOld HNew
            go_wp2_with (first
              | (at_lookup; refine wpList_lookup_own_ok_int _ rfl _ _ 74 rfl 65 58 .u32 Tryd.kindlaw Tryd.underlying74 Tryd.underlying58 (Tryd.zeroU32 _) BM k D rfl hw4 _ (kL ka kb) rfl HKey.out ?_; intro cv hat hwc; rw [hh]; clear hat hwc)
              | (at_mapUpdate; refine wpList_mapUpdate_own _ rfl _ _ _ 74 rfl 65 58 Tryd.kindlaw Tryd.underlying74 (plainElem Tryd.prog 58) BM k D rfl hw4 (by unfold maxLen; omega) _ _ (kL ka kb) rfl rfl HKey.out (.lit (.int .u32 kv)) [] (plainElem_int Tryd.underlying58 HWf.out) ?_; intro v5 hw5 hg5))
            have hq5 := rdq_map hq4 hw4 hbne hg5
            have hb5 := hb4.grown hg5 hb4.size (fun k e => by cases e; exact hBM)
            go_roundw
            case rel => exact ⟨k + 1, _, by omega, by go_num, hq5, hw5, HY, hb5⟩
            case measure => simp [intOf]; omega
        · obtain rfl : k = N := by omega
          go_wp2
          go_ret2
          exact ⟨hb, .inr ⟨HFt.out, BM, D, rfl, by rw [HNN.out]; exact hown, by rw [HNN.out]; exact hK.out⟩⟩
    · have b0 : (v0 == 0) = false := by simp [hv]
      have HT := Lib.hid (RNo.out _ (by rw [hF.out]; simp [hv]) hb4)
      clear hF hv RNo
      go_wp2
      go_ret2
      exact HT.out
  · have HT : Hid (cFront zs = false) := by show _ = _; rw [hF.out]; simp; omega
    refine (HSubN.out _ (by omega)).mono ?_
    rintro e w4 ⟨rfl, rfl⟩
    have HT2 := Lib.hid (RNo.out _ HT.out hb3)
    clear hF RNo HSubY HSubN
    cases hv : v0 == 0 with
    | true =>
      go_wp2
      go_ret2
      exact HT2.out
    | false =>
      go_wp2
      go_ret2
      exact HT2.out

end Go.Proofs.YthkaeimpflggjaaDoor
