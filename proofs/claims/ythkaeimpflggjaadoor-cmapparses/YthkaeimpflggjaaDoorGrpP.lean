/- group.Parse, as a contract over this seat's translation. -/
import Derived.Test.YthkaeimpflggjaaDoorGrpM
import Derived.Test.YthkaeimpflggjaaDoorPrs
import Derived.Test.YthkaeimpflggjaaDoorTwo
import Derived.Test.YthkaeimpflggjaaDoorInts
import Derived.Lib.MinMax
namespace Go.Proofs.YthkaeimpflggjaaDoor
open Go.RowKit
set_option linter.unusedVariables false

theorem row_take16 {w : World} {A : Option Addr} {n : Nat} {zs : List Int} (M : Nat) (hr : Row w A n (cellsOf .u8 zs)) : Row w A (min n M) (cellsOf .u8 (zs.take M)) := by
  have h := hr.take (k := min n M) (Nat.min_le_left _ _)
  rw [cellsOf_take] at h
  have hl := hr.len
  rw [show zs.take M = zs.take (min n M) by
    rcases Nat.le_total n M with h1 | h1
    · rw [List.take_of_length_le (by omega), List.take_of_length_le (by omega)]
    · rw [show min n M = M by omega]]
  exact h

/-- How many groups it says that it has. -/
def gCnt (zs : List Int) : Int := if gFront zs then n4at zs 12 else 0

set_option maxRecDepth 100000 in
set_option maxHeartbeats 2000000 in
theorem gcount_any (A : Option Addr) (n c : Nat) (zs : List Int) (w : World) (hr : Row w A n (cellsOf .u8 zs)) (hB : Bytes zs) (hn : n ≤ 1000000) (hc : n ≤ c) :
    Calls Tryd.prog 69 #[.slice A n c] w (Ret w (.tuple #[.int .i64 (gCnt zs), .bool (gFront zs)])) := by
  obtain ⟨m, hm, hmn, hm16⟩ : ∃ m : Nat, min (n : Int) 16 = m ∧ m ≤ n ∧ m ≤ 16 := ⟨min n 16, by omega, by omega, by omega⟩
  have hr' : Row w A m (cellsOf .u8 (zs.take 16)) := by rw [show m = min n 16 by omega]; exact row_take16 16 hr
  have hB' : Bytes (zs.take 16) := cut_bytes hB _
  have hf : gFront zs = (decide (n2at (zs.take 16) 0 = 12) && decide (n2at (zs.take 16) 2 = 0) && decide (n4at (zs.take 16) 4 = 16 + 12 * n4at (zs.take 16) 12) && decide (n4at (zs.take 16) 4 ≤ n)) := by
    unfold gFront
    rw [n2at_takeG zs 16 0 (by omega), n2at_takeG zs 16 2 (by omega), n4at_takeG zs 16 4 (by omega), n4at_takeG zs 16 12 (by omega), hr.len]
  have hv : gCnt zs = if gFront zs then n4at (zs.take 16) 12 else 0 := by unfold gCnt; rw [n4at_takeG zs 16 12 (by omega)]
  have hl' := hr'.len
  clear hr hB
  generalize zs.take 16 = ps at *
  generalize gFront zs = F at *
  generalize gCnt zs = C at *
  have HV := Lib.hid hv
  clear hv
  have HB := Lib.hid hB'
  have HL := Lib.hid hl'
  have HF := Lib.hid hf
  clear hf hl' hB'
  have k0 := n2at_lt HB.out 0
  have k2 := n2at_lt HB.out 2
  have k4 := n4at_lt HB.out 4
  have k12 := n4at_lt HB.out 12
  have hmc : (m : Int) ≤ (c : Int) := by omega
  have hm0 : (0 : Int) ≤ (m : Int) := by omega
  go_enter Tryd.func69, Tryd.ntmps69
  go_wp2_with fail
  refine (new_any A m _ ps w hr' (by omega)).mono ?_
  rintro e w1 ⟨b, rfl, hrd, hb1⟩
  have hq := RdQ.new hrd
  clear hrd hr' hm
  go_wp2_with fail
  with_reducible refine (rdq_u16 hq HB.out (by have := HL.out; omega)).mono ?_
  rintro e w2 ⟨rfl, hq2, hg2⟩
  have hb2 := hb1.grown hg2 hb1.size (fun k e => by cases e; exact hq.from_)
  clear hq hg2 hb1
  go_wp2_with fail
  with_reducible refine (rdq_u16 hq2 HB.out (by have := HL.out; omega)).mono ?_
  rintro e w3 ⟨rfl, hq3, hg3⟩
  have hb3 := hb2.grown hg3 hb2.size (fun k e => by cases e; exact hq2.from_)
  clear hq2 hg3 hb2
  simp only [Nat.zero_add, Nat.reduceAdd] at hq3 ⊢
  generalize n2at ps 0 = v0 at *
  generalize n2at ps 2 = v2 at *
  cases hx0 : (v0 == 12) with
  | false =>
    have HF' : Hid (F = false) := by show _ = _; rw [HF.out]; simp at hx0; simp [hx0]
    cases hx2 : (v2 == 0) with
    | false =>
      go_wp2_with fail
      with_reducible refine (rdq_u32 hq3 HB.out (by have := HL.out; omega)).mono ?_
      rintro e w4 ⟨rfl, hq4, hg4⟩
      have hb4 := hb3.grown hg4 hb3.size (fun k e => by cases e; exact hq3.from_)
      clear hq3 hg4 hb3
      go_wp2_with fail
      with_reducible refine (rdq_u32 hq4 HB.out (by have := HL.out; omega)).mono ?_
      rintro e w5 ⟨rfl, hq5, hg5⟩
      have hb5 := hb4.grown hg5 hb4.size (fun k e => by cases e; exact hq4.from_)
      clear hq4 hg5 hb4
      go_wp2_with fail
      with_reducible refine (rdq_u32 hq5 HB.out (by have := HL.out; omega)).mono ?_
      rintro e w6 ⟨rfl, hq6, hg6⟩
      have hb6 := hb5.grown hg6 hb5.size (fun k e => by cases e; exact hq5.from_)
      clear hq5 hg6 hb5
      go_wp2
      go_ret2
      rw [HV.out, HF'.out]
      exact ⟨rfl, hb6⟩
    | true =>
      go_wp2_with fail
      with_reducible refine (rdq_u32 hq3 HB.out (by have := HL.out; omega)).mono ?_
      rintro e w4 ⟨rfl, hq4, hg4⟩
      have hb4 := hb3.grown hg4 hb3.size (fun k e => by cases e; exact hq3.from_)
      clear hq3 hg4 hb3
      go_wp2_with fail
      with_reducible refine (rdq_u32 hq4 HB.out (by have := HL.out; omega)).mono ?_
      rintro e w5 ⟨rfl, hq5, hg5⟩
      have hb5 := hb4.grown hg5 hb4.size (fun k e => by cases e; exact hq4.from_)
      clear hq4 hg5 hb4
      go_wp2_with fail
      with_reducible refine (rdq_u32 hq5 HB.out (by have := HL.out; omega)).mono ?_
      rintro e w6 ⟨rfl, hq6, hg6⟩
      have hb6 := hb5.grown hg6 hb5.size (fun k e => by cases e; exact hq5.from_)
      clear hq5 hg6 hb5
      go_wp2
      go_ret2
      rw [HV.out, HF'.out]
      exact ⟨rfl, hb6⟩
  | true =>
    cases hx2 : (v2 == 0) with
    | false =>
      have HF' : Hid (F = false) := by show _ = _; rw [HF.out]; simp at hx2; simp [hx2]
      go_wp2_with fail
      with_reducible refine (rdq_u32 hq3 HB.out (by have := HL.out; omega)).mono ?_
      rintro e w4 ⟨rfl, hq4, hg4⟩
      have hb4 := hb3.grown hg4 hb3.size (fun k e => by cases e; exact hq3.from_)
      clear hq3 hg4 hb3
      go_wp2_with fail
      with_reducible refine (rdq_u32 hq4 HB.out (by have := HL.out; omega)).mono ?_
      rintro e w5 ⟨rfl, hq5, hg5⟩
      have hb5 := hb4.grown hg5 hb4.size (fun k e => by cases e; exact hq4.from_)
      clear hq4 hg5 hb4
      go_wp2_with fail
      with_reducible refine (rdq_u32 hq5 HB.out (by have := HL.out; omega)).mono ?_
      rintro e w6 ⟨rfl, hq6, hg6⟩
      have hb6 := hb5.grown hg6 hb5.size (fun k e => by cases e; exact hq5.from_)
      clear hq5 hg6 hb5
      go_wp2
      go_ret2
      rw [HV.out, HF'.out]
      exact ⟨rfl, hb6⟩
    | true =>
      have HF' : Hid (F = (decide (n4at ps 4 = 16 + 12 * n4at ps 12) && decide (n4at ps 4 ≤ n))) := by show _ = _; rw [HF.out]; simp at hx2 hx0; simp [hx2, hx0]
      clear HF
      go_wp2_with fail
      with_reducible refine (rdq_u32 hq3 HB.out (by have := HL.out; omega)).mono ?_
      rintro e w4 ⟨rfl, hq4, hg4⟩
      have hb4 := hb3.grown hg4 hb3.size (fun k e => by cases e; exact hq3.from_)
      clear hq3 hg4 hb3
      go_wp2_with fail
      with_reducible refine (rdq_u32 hq4 HB.out (by have := HL.out; omega)).mono ?_
      rintro e w5 ⟨rfl, hq5, hg5⟩
      have hb5 := hb4.grown hg5 hb4.size (fun k e => by cases e; exact hq4.from_)
      clear hq4 hg5 hb4
      go_wp2_with fail
      with_reducible refine (rdq_u32 hq5 HB.out (by have := HL.out; omega)).mono ?_
      rintro e w6 ⟨rfl, hq6, hg6⟩
      have hb6 := hb5.grown hg6 hb5.size (fun k e => by cases e; exact hq5.from_)
      clear hq5 hg6 hb5 hq6
      simp only [Nat.reduceAdd] at *
      generalize n4at ps 4 = s at *
      generalize n4at ps 12 = q at *
      by_cases h1 : q ≤ 1114112
      · by_cases h2 : s = 16 + q * 12
        · have b2 : (s != 16 + q * 12) = false := by simp [h2]
          by_cases h3 : s ≤ n
          · have HG : Hid (F = true) := by show _ = _; rw [HF'.out]; simp [h3]; omega
            clear h2
            go_wp2
            go_ret2
            rw [HV.out, HG.out]
            exact ⟨rfl, hb6⟩
          · have HG : Hid (F = false) := by show _ = _; rw [HF'.out]; simp [h3]
            clear h2
            go_wp2
            go_ret2
            rw [HV.out, HG.out]
            exact ⟨rfl, hb6⟩
        · have b2 : (s != 16 + q * 12) = true := by simp [h2]
          have HG : Hid (F = false) := by show _ = _; rw [HF'.out]; simp; intro h; omega
          clear h2
          go_wp2
          go_ret2
          rw [HV.out, HG.out]
          exact ⟨rfl, hb6⟩
      · have HG : Hid (F = false) := by show _ = _; rw [HF'.out]; simp; intro h; omega
        go_wp2
        go_ret2
        rw [HV.out, HG.out]
        exact ⟨rfl, hb6⟩

def rnV (x : Rn) : Value := .agg #[.int .i32 x.a, .int .i32 x.b, .int .u16 x.g]

def rgV (x : Rn) : Value := if gOne x then rnV x else rnV ⟨0, 0, 0⟩

/-- What reading a group leaves. -/
def RetRG (w : World) (B b : Nat) (zs : List Int) (i : Nat) (x : Rn) (e : Ending) (w' : World) : Prop :=
  e = .returned (.tuple #[rgV x, .bool (gOne x)]) ∧ RdQ w' B b zs (i + 12) ∧ w.grownBy w' (some b)

set_option maxRecDepth 100000 in
set_option maxHeartbeats 2000000 in
theorem gread_any (B b : Nat) (zs : List Int) (i : Nat) (w : World) (h : RdQ w B b zs i) (hB : Bytes zs) (hl : zs.length ≤ 140737488351232) :
    Calls Tryd.prog 70 #[.pointer (some ⟨b, 0, none⟩)] w (RetRG w B b zs i ⟨n4at zs i, n4at zs (i + 4), n4at zs (i + 8)⟩) := by
  have HB := Lib.hid hB
  have k0 := n4at_lt hB i
  have k4 := n4at_lt hB (i + 4)
  have k8 := n4at_lt hB (i + 8)
  clear hB
  have hbb := h.lt
  have hA : Below w.heap.size w (w.alloc (.cells #[.int .i32 0, .int .i32 0, .int .u16 0] 94)) := (Below.refl _ _).alloc (Nat.le_refl _) _
  have hq := h.below hA
  have hgA := grown_of_below hA (some b)
  have hk : (w.alloc (.cells #[.int .i32 0, .int .i32 0, .int .u16 0] 94)).heap[w.heap.size]? = some (.cells #[.int .i32 0, .int .i32 0, .int .u16 0] 94 (0, 0)) := heap_alloc_new _ _
  go_enter Tryd.func70, Tryd.ntmps70
  go_wp2_with fail
  with_reducible refine (rdq_u32 hq HB.out hl).mono ?_
  rintro e w1 ⟨rfl, hq1, hg1⟩
  have hgB := grown_trans hgA hg1
  replace hk := (hg1.block w.heap.size (by simp) (by intro e; cases e; omega)).trans hk
  clear hq hg1 hgA hA h
  go_wp2_with fail
  with_reducible refine (rdq_u32 hq1 HB.out hl).mono ?_
  rintro e w2 ⟨rfl, hq2, hg2⟩
  have hgC := grown_trans hgB hg2
  replace hk := (hg2.block w.heap.size (lt_of_block hk) (by intro e; cases e; omega)).trans hk
  clear hq1 hg2 hgB
  go_wp2_with fail
  with_reducible refine (rdq_u32 hq2 HB.out hl).mono ?_
  rintro e w3 ⟨rfl, hq3, hg3⟩
  have hgD := grown_trans hgC hg3
  replace hk := (hg3.block w.heap.size (lt_of_block hk) (by intro e; cases e; omega)).trans hk
  clear hq2 hg3 hgC
  simp only [Nat.add_assoc, Nat.reduceAdd] at hq3 ⊢
  have c0 : w3.cell? ⟨w.heap.size, 0, none⟩ = some (.int .i32 0) := cell_of_row w3 _ 0 _ _ _ hk
  have c1 : w3.cell? ⟨w.heap.size, 1, none⟩ = some (.int .i32 0) := cell_of_row w3 _ 1 _ _ _ hk
  have c2 : w3.cell? ⟨w.heap.size, 2, none⟩ = some (.int .u16 0) := cell_of_row w3 _ 2 _ _ _ hk
  have f0 := thawed hk
  have hwb : w.heap.size ≠ b := by omega
  have hk3 := lt_of_block hk
  have HE : Hid (∀ v0 v1 v2 : Value, (((w3.setCell ⟨w.heap.size, 0, none⟩ v0).setCell ⟨w.heap.size, 1, none⟩ v1).setCell ⟨w.heap.size, 2, none⟩ v2).heap[w.heap.size]? = some (.cells #[v0, v1, v2] 94 (0, 0)) ∧ RdQ (((w3.setCell ⟨w.heap.size, 0, none⟩ v0).setCell ⟨w.heap.size, 1, none⟩ v1).setCell ⟨w.heap.size, 2, none⟩ v2) B b zs (i + 12) ∧ w.grownBy (((w3.setCell ⟨w.heap.size, 0, none⟩ v0).setCell ⟨w.heap.size, 1, none⟩ v1).setCell ⟨w.heap.size, 2, none⟩ v2) (some b)) := by
    show ∀ _, _
    intro v0 v1 v2
    have s1 := set_block hk 0 v0
    have s2 := set_block s1 1 v1
    have s3 := set_block s2 2 v2
    exact ⟨s3, rdq_other (rdq_other (rdq_other hq3 hk (by decide) hwb 0 v0) s1 (by decide) hwb 1 v1) s2 (by decide) hwb 2 v2, grown_new (Nat.le_refl _) _ _ (grown_new (Nat.le_refl _) _ _ (grown_new (Nat.le_refl _) _ _ hgD))⟩
  have SI : Hid ((Tryd.prog.info? 94).map (·.size) = some 3) := by show _ = _; kernel_rfl
  clear hk hq3 hgD
  generalize hx : (⟨n4at zs i, n4at zs (i + 4), n4at zs (i + 8)⟩ : Rn) = x at *
  have HX : Hid (x.a = n4at zs i ∧ x.b = n4at zs (i + 4) ∧ x.g = n4at zs (i + 8)) := by subst hx; exact ⟨rfl, rfl, rfl⟩
  clear hx
  generalize n4at zs i = a at *
  generalize n4at zs (i + 4) = z at *
  generalize n4at zs (i + 8) = g at *
  have HG : Hid (gOne x = decide (a ≤ z ∧ z ≤ 1114111 ∧ g + (z - a) ≤ 65535)) := by show _ = _; unfold gOne; rw [HX.out.1, HX.out.2.1, HX.out.2.2]
  by_cases h1 : a ≤ z
  · by_cases h2 : z ≤ 1114111
    · by_cases h3 : g ≤ 65535
      · by_cases h4 : g + (z - a) ≤ 65535
        · have HG' : Hid (rgV x = .agg #[.int .i32 a, .int .i32 z, .int .u16 g] ∧ gOne x = true) := by
            have e : gOne x = true := by rw [HG.out, decide_eq_true_eq]; exact ⟨h1, h2, h4⟩
            refine ⟨?_, e⟩
            unfold rgV rnV
            rw [e, HX.out.1, HX.out.2.1, HX.out.2.2]
            rfl
          clear HG
          go_wp2
          obtain ⟨s3, s4, s5⟩ := HE.out (.int .i32 a) (.int .i32 z) (.int .u16 g)
          exact bodyPost_ret (v := .tuple #[.agg #[.int .i32 a, .int .i32 z, .int .u16 g], .bool true]) (results_two2 Tryd.results70 _ _ w.heap.size 94 _ (0, 0) _ rfl rfl s3 Tryd.underlying94 rfl SI.out) rfl ⟨by rw [HG'.out.1, HG'.out.2], s4, s5⟩
        · have HG' : Hid (rgV x = .agg #[.int .i32 0, .int .i32 0, .int .u16 0] ∧ gOne x = false) := by
            have e : gOne x = false := by rw [HG.out, decide_eq_false_iff_not]; omega
            refine ⟨?_, e⟩
            unfold rgV rnV
            rw [e]
            rfl
          clear HG
          go_wp2
          obtain ⟨s3, s4, s5⟩ := HE.out (.int .i32 0) (.int .i32 0) (.int .u16 0)
          exact bodyPost_ret (v := .tuple #[.agg #[.int .i32 0, .int .i32 0, .int .u16 0], .bool false]) (results_two2 Tryd.results70 _ _ w.heap.size 94 _ (0, 0) _ rfl rfl s3 Tryd.underlying94 rfl SI.out) rfl ⟨by rw [HG'.out.1, HG'.out.2], s4, s5⟩
      · have HG' : Hid (rgV x = .agg #[.int .i32 0, .int .i32 0, .int .u16 0] ∧ gOne x = false) := by
          have e : gOne x = false := by rw [HG.out, decide_eq_false_iff_not]; omega
          refine ⟨?_, e⟩
          unfold rgV rnV
          rw [e]
          rfl
        clear HG
        go_wp2
        obtain ⟨s3, s4, s5⟩ := HE.out (.int .i32 0) (.int .i32 0) (.int .u16 0)
        exact bodyPost_ret (v := .tuple #[.agg #[.int .i32 0, .int .i32 0, .int .u16 0], .bool false]) (results_two2 Tryd.results70 _ _ w.heap.size 94 _ (0, 0) _ rfl rfl s3 Tryd.underlying94 rfl SI.out) rfl ⟨by rw [HG'.out.1, HG'.out.2], s4, s5⟩
    · have HG' : Hid (rgV x = .agg #[.int .i32 0, .int .i32 0, .int .u16 0] ∧ gOne x = false) := by
        have e : gOne x = false := by rw [HG.out, decide_eq_false_iff_not]; omega
        refine ⟨?_, e⟩
        unfold rgV rnV
        rw [e]
        rfl
      clear HG
      go_wp2
      obtain ⟨s3, s4, s5⟩ := HE.out (.int .i32 0) (.int .i32 0) (.int .u16 0)
      exact bodyPost_ret (v := .tuple #[.agg #[.int .i32 0, .int .i32 0, .int .u16 0], .bool false]) (results_two2 Tryd.results70 _ _ w.heap.size 94 _ (0, 0) _ rfl rfl s3 Tryd.underlying94 rfl SI.out) rfl ⟨by rw [HG'.out.1, HG'.out.2], s4, s5⟩
  · have HG' : Hid (rgV x = .agg #[.int .i32 0, .int .i32 0, .int .u16 0] ∧ gOne x = false) := by
      have e : gOne x = false := by rw [HG.out, decide_eq_false_iff_not]; omega
      refine ⟨?_, e⟩
      unfold rgV rnV
      rw [e]
      rfl
    clear HG
    go_wp2
    obtain ⟨s3, s4, s5⟩ := HE.out (.int .i32 0) (.int .i32 0) (.int .u16 0)
    exact bodyPost_ret (v := .tuple #[.agg #[.int .i32 0, .int .i32 0, .int .u16 0], .bool false]) (results_two2 Tryd.results70 _ _ w.heap.size 94 _ (0, 0) _ rfl rfl s3 Tryd.underlying94 rfl SI.out) rfl ⟨by rw [HG'.out.1, HG'.out.2], s4, s5⟩

end Go.Proofs.YthkaeimpflggjaaDoor
