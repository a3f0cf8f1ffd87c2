/- The document's Right of outlines, as a contract over this seat's translation. -/
import Derived.Test.YtlcnonhebppeiaaSimO
namespace Go.Proofs.Ytlcnonhebppeiaa
open Go.RowKit
set_option linter.unusedVariables false

theorem rwithin_any (d : Int) (w : World) : Calls Try.prog 54 #[.int .i64 d] w fun e w' => e = .returned (.bool (fitsB d)) ∧ w = w' := by
  unfold fitsB
  cases h1 : decide (-32768 ≤ d) <;> cases h2 : decide (d ≤ 32767)
  all_goals
    go_enter Try.func54, Try.ntmps54
    go_wp2
    go_ret
    exact ⟨rfl, rfl⟩

theorem fitL_of {xs : List Int} (h : ∀ j, j < xs.length → fitsB (chA xs j) = true) : fitL (chs xs) = true := by
  unfold fitL chs chK
  rw [List.all_eq_true]
  intro x hx
  simp only [List.mem_map, List.mem_range] at hx
  obtain ⟨j, hj, rfl⟩ := hx
  exact h j hj
theorem fitL_not {xs : List Int} {j : Nat} (hj : j < xs.length) (h : fitsB (chA xs j) = false) : fitL (chs xs) = false := by
  unfold fitL
  rw [List.all_eq_false]
  exact ⟨chA xs j, List.mem_of_getElem? (chs_get xs hj), by rw [h]; simp⟩

/-- The point ahead. -/
def ahdP (ps : List Sp) (k : Nat) : Sp := if k = 0 then (0, 0, false) else ps.getD (k - 1) (0, 0, false)
theorem chA_xs {ps : List Sp} {k : Nat} {p : Sp} (h : ps[k]? = some p) : chA (xsOf ps) k = p.1 - (ahdP ps k).1 := by
  unfold chA ahdP
  rw [xsOf_get h]
  split
  · rfl
  · obtain ⟨hk, _⟩ := List.getElem?_eq_some_iff.1 h
    have h2 : ps[k - 1]? = some ps[k - 1] := List.getElem?_eq_getElem (by omega)
    rw [xsOf_get h2]
    simp [h2]
theorem chA_ys {ps : List Sp} {k : Nat} {p : Sp} (h : ps[k]? = some p) : chA (ysOf ps) k = p.2.1 - (ahdP ps k).2.1 := by
  unfold chA ahdP
  rw [ysOf_get h]
  split
  · rfl
  · obtain ⟨hk, _⟩ := List.getElem?_eq_some_iff.1 h
    have h2 : ps[k - 1]? = some ps[k - 1] := List.getElem?_eq_getElem (by omega)
    rw [ysOf_get h2]
    simp [h2]
theorem ahdP_succ {ps : List Sp} {k : Nat} {p : Sp} (h : ps[k]? = some p) : ahdP ps (k + 1) = p := by
  unfold ahdP
  rw [if_neg (by omega), Nat.add_sub_cancel]
  simp [h]
theorem ahdP_bd {g : Gl} (ho : g.ok) (k : Nat) : (-32768 ≤ (ahdP g.ps k).1 ∧ (ahdP g.ps k).1 ≤ 32767) ∧ (-32768 ≤ (ahdP g.ps k).2.1 ∧ (ahdP g.ps k).2.1 ≤ 32767) := by
  unfold ahdP
  split
  · simp
  · rw [List.getD_eq_getElem?_getD]
    cases h : g.ps[k - 1]? with
    | none => simp
    | some p => exact ho.ps p (List.mem_of_getElem? h)

/-- How many points the first k Ends ask for. -/
def cntK (l : List Int) (k : Nat) : Int := if k = 0 then 0 else l.getD (k - 1) 0 + 1
theorem cntK_len {l : List Int} (h : ∀ x ∈ l, 0 ≤ x ∧ x < 65536) : cntK l l.length = (cntE l : Nat) := by
  unfold cntK cntE
  split
  · rfl
  · rename_i hl
    have := h (l.getD (l.length - 1) 0) (by rw [List.getD_eq_getElem?_getD, List.getElem?_eq_getElem (by omega)]; exact List.getElem_mem _)
    omega
theorem cntK_succ {l : List Int} {k : Nat} {x : Int} (h : l[k]? = some x) : cntK l (k + 1) = x + 1 := by
  unfold cntK
  rw [if_neg (by omega), Nat.add_sub_cancel]
  simp [h]
theorem riseA_cnt {l : List Int} {k : Nat} {x : Int} (h : l[k]? = some x) (h0 : 0 ≤ x) : riseA l k = !decide (x < cntK l k) := by
  have hx : l.getD k 0 = x := by simp [h]
  unfold riseA cntK
  rw [hx]
  by_cases hk : k = 0
  · simp [hk]; omega
  · simp only [hk, decide_false, Bool.false_or, if_false]
    rw [← decide_not]
    congr 1
    exact propext ⟨fun h => by omega, fun h => by omega⟩
theorem cntK_bd {l : List Int} (h : ∀ x ∈ l, 0 ≤ x ∧ x < 65536) (k : Nat) : 0 ≤ cntK l k ∧ cntK l k ≤ 65536 := by
  unfold cntK
  split
  · omega
  · rw [List.getD_eq_getElem?_getD]
    cases h2 : l[k - 1]? with
    | none => simp
    | some x => have := h x (List.mem_of_getElem? h2); simp; omega

set_option maxRecDepth 100000 in
set_option maxHeartbeats 4000000 in
theorem rright12_any (v : RlV) (w : World) (hr : v.rows w) (f0 : v.n ≤ 10000) (f1 : v.pn ≤ 10000) (f2 : v.q ≤ 10000) (ho : v.g.ok) :
    Calls Try.prog 19 #[v.val] w (Ret w (.bool (oRight v.g))) := by
  have hA := (Below.refl w.heap.size w).alloc (Nat.le_refl _) (.cells v.cells 38)
  have hk := heap_alloc_new w (.cells v.cells 38)
  have HE : Hid (v.g.es.length = v.n) := hr.es.len
  have HP : Hid (v.g.pr.length = v.pn) := hr.pr.len
  have HS : Hid (v.g.ps.length = v.q) := hr.ps.len
  have HRt : Hid (oRight v.g = (riseN v.g.es v.n && decide (v.q = cntE v.g.es) && fitL (chs (xsOf v.g.ps)) && fitL (chs (ysOf v.g.ps)))) := by
    show _ = _
    unfold oRight
    rw [HE.out, HP.out, HS.out, decide_eq_true (by omega), decide_eq_true (by omega)]
    simp
  have Hre := Lib.hid hr.es
  have Hrs := Lib.hid hr.ps
  have Ho := Lib.hid ho
  have HEs := Lib.hid ho.es
  have HPs := Lib.hid ho.ps
  have HCn : Hid (cntK v.g.es v.n = (cntE v.g.es : Nat)) := by show _ = _; rw [← HE.out]; exact cntK_len ho.es
  have HB : Hid (∀ k, (-32768 ≤ (ahdP v.g.ps k).1 ∧ (ahdP v.g.ps k).1 ≤ 32767) ∧ (-32768 ≤ (ahdP v.g.ps k).2.1 ∧ (ahdP v.g.ps k).2.1 ≤ 32767)) := fun k => ahdP_bd ho k
  clear hr ho
  unfold RlV.val at *
  unfold RlV.cells at *
  obtain ⟨⟨x0, x1, x2, x3, es, pr, ps⟩, IA, n, ic, PA, pn, pc, QA, q, qc⟩ := v
  simp only at *
  rw [HRt.out]
  go_enter Try.func19, Try.ntmps19
  go_wp2
  go_loop [3, 22] (fun a i' => ∃ k : Nat, k ≤ n ∧ i' = .int .i64 k ∧ a = .int .i64 (cntK es k) ∧ Hid (riseN es k = true)) (fun _ i' => n - (intOf i').toNat)
  case atStart => exact ⟨0, Nat.zero_le _, rfl, rfl, Lib.hid rfl⟩
  case round =>
    obtain ⟨k, hk', rfl, rfl, HR⟩ := hrel
    obtain ⟨c0, c1⟩ := cntK_bd HEs.out k
    by_cases hlt : k < n
    · obtain ⟨x, hx⟩ := get_some (zs := es) (k := k) (by have := HE.out; omega)
      obtain ⟨u0, u1⟩ := HEs.out x (List.mem_of_getElem? hx)
      obtain ⟨g, off, rfl, hg, hc⟩ := (Hre.out.below hA).at (cellsOf_get (k := .i64) hx)
      have HA := Lib.hid (riseA_cnt hx u0)
      have HC := Lib.hid (cntK_succ hx)
      have hgn : g < w.heap.size := by
        obtain ⟨g', off', e', hg', _⟩ := Hre.out.at (cellsOf_get (k := .i64) hx)
        simp only [Option.some.injEq, Addr.mk.injEq, and_true] at e'
        rw [e'.1]
        exact hg'
      have hgn2 : g ≠ w.heap.size := by omega
      clear hx
      by_cases hd : x < cntK es k
      · have HF : Hid (riseN es n = false) := riseN_not (by rw [HA.out, decide_eq_true hd]; rfl) hlt
        rw [HF.out]
        clear HA HC HR
        go_wp2
        go_ret
        exact ⟨rfl, hA⟩
      · have HT : Hid (riseN es (k + 1) = true) := by show _ = _; rw [riseN_succ, HR.out, HA.out, decide_eq_false hd]; rfl
        clear HA HR
        go_wp2
        go_round
        case rel => exact ⟨k + 1, by omega, by go_num, by rw [HC.out], HT⟩
        case measure => simp [intOf]; omega
    · obtain rfl : k = n := by omega
      rw [HCn.out] at c0 c1 ⊢
      have hA2 := hA.alloc hA.size (.cells #[.int .i64 0, .int .i64 0, .bool false] 107)
      have hkb := kept_alloc hk (.cells #[.int .i64 0, .int .i64 0, .bool false] 107)
      have hkl := heap_alloc_new (w.alloc (.cells #[.int .i64 x0, .int .i64 x1, .int .i64 x2, .int .i64 x3, .slice IA k ic, .slice PA pn pc, .slice QA q qc] 38)) (.cells #[.int .i64 0, .int .i64 0, .bool false] 107)
      rw [show (w.alloc (.cells #[.int .i64 x0, .int .i64 x1, .int .i64 x2, .int .i64 x3, .slice IA k ic, .slice PA pn pc, .slice QA q qc] 38)).heap.size = w.heap.size + 1 by simp] at hkl
      go_wp2
      generalize (w.alloc _).alloc _ = V at *
      clear hA hk hlt
      go_loopw [36] (fun i' wr => ∃ j : Nat, j ≤ q ∧ i' = .int .i64 j ∧ wr.heap[w.heap.size + 1]? = some (.cells #[.int .i64 (ahdP ps j).1, .int .i64 (ahdP ps j).2.1, .bool (ahdP ps j).2.2] 107 (0, 0)) ∧ wr.heap[w.heap.size]? = some (.cells #[.int .i64 x0, .int .i64 x1, .int .i64 x2, .int .i64 x3, .slice IA k ic, .slice PA pn pc, .slice QA q qc] 38 (0, 0)) ∧ Below w.heap.size w wr ∧ Hid (∀ m, m < j → fitsB (chA (xsOf ps) m) = true ∧ fitsB (chA (ysOf ps) m) = true)) (fun i' _ => q - (intOf i').toNat)
      case atStart => exact ⟨0, Nat.zero_le _, rfl, hkl, hkb, hA2, Lib.hid (fun m hm => by omega)⟩
      case round =>
        clear hkl hkb hA2
        obtain ⟨j, hj, rfl, hkl, hkb, hbel, HFt⟩ := hrel
        by_cases hlt : j < q
        · obtain ⟨p, hp⟩ : ∃ p, ps[j]? = some p := ⟨ps[j]'(by have := HS.out; omega), List.getElem?_eq_getElem (by have := HS.out; omega)⟩
          obtain ⟨⟨u0, u1⟩, ⟨u2, u3⟩⟩ := HPs.out p (List.mem_of_getElem? hp)
          obtain ⟨⟨v0, v1⟩, ⟨v2, v3⟩⟩ := HB.out j
          obtain ⟨g, off, rfl, hg, q0, q1, q2⟩ := atRp (Hrs.out.below hbel) hp
          have HCx := Lib.hid (chA_xs hp)
          have HCy := Lib.hid (chA_ys hp)
          have HAh := Lib.hid (ahdP_succ hp)
          have HNx : Hid (fitsB (chA (xsOf ps) j) = false → fitL (chs (xsOf ps)) = false) := fun h => fitL_not (by rw [xsOf_len, HS.out]; exact hlt) h
          have HNy : Hid (fitsB (chA (ysOf ps) j) = false → fitL (chs (ysOf ps)) = false) := fun h => fitL_not (by rw [ysOf_len, HS.out]; exact hlt) h
          rw [HCx.out] at HNx
          rw [HCy.out] at HNy
          obtain ⟨px, py, po⟩ := p
          simp only at q0 q1 q2 u0 u1 u2 u3 HCx HCy HNx HNy
          have hA3 := (Below.refl wr.heap.size wr).alloc (Nat.le_refl _) (.cells #[.int .i64 px, .int .i64 py, .bool po] 107)
          have hkl2 := kept_block hkl hA3
          have hkb2 := kept_block hkb hA3
          have hkp2 := heap_alloc_new wr (.cells #[.int .i64 px, .int .i64 py, .bool po] 107)
          have hbel2 := hbel.trans (hA3.mono hbel.size)
          have hln : w.heap.size + 1 ≠ wr.heap.size := by have := lt_of_block hkl; omega
          have hln2 : wr.heap.size ≠ w.heap.size + 1 := fun e => hln e.symm
          have hgn : g ≠ wr.heap.size := by omega
          clear hp hkl hkb hbel hA3
          generalize hap : ahdP ps j = a at *
          obtain ⟨ax, ay, ao⟩ := a
          simp only at *
          have HFx := Lib.hid (fun W => rwithin_any (px - ax) W)
          have HFy := Lib.hid (fun W => rwithin_any (py - ay) W)
          have l0 := cell_of_row _ _ 0 _ _ _ hkl2
          have l1 := cell_of_row _ _ 1 _ _ _ hkl2
          have l2 := cell_of_row _ _ 2 _ _ _ hkl2
          simp only [List.getElem?_toArray, List.getElem?_cons_zero, List.getElem?_cons_succ] at l0 l1 l2
          have fz := thawed hkl2
          have hb1 := hbel2.setCell (p := ⟨w.heap.size + 1, 0, none⟩) (by simp) (.int .i64 px)
          have hb2 := hb1.setCell (p := ⟨w.heap.size + 1, 1, none⟩) (by simp) (.int .i64 py)
          have hb3 := Lib.hid (hb2.setCell (p := ⟨w.heap.size + 1, 2, none⟩) (by simp) (.bool po))
          have hl3 := Lib.hid (set_block (set_block (set_block hkl2 0 (.int .i64 px)) 1 (.int .i64 py)) 2 (.bool po))
          have hk3 : Hid (((((wr.alloc (.cells #[.int .i64 px, .int .i64 py, .bool po] 107)).setCell ⟨w.heap.size + 1, 0, none⟩ (.int .i64 px)).setCell ⟨w.heap.size + 1, 1, none⟩ (.int .i64 py)).setCell ⟨w.heap.size + 1, 2, none⟩ (.bool po)).heap[w.heap.size]? = some (.cells #[.int .i64 x0, .int .i64 x1, .int .i64 x2, .int .i64 x3, .slice IA k ic, .slice PA pn pc, .slice (some ⟨g, off, none⟩) q qc] 38 (0, 0))) := by
            show _ = _
            rw [Below.heap_setCell _ _ _ _ (show w.heap.size ≠ w.heap.size + 1 by omega), Below.heap_setCell _ _ _ _ (show w.heap.size ≠ w.heap.size + 1 by omega), Below.heap_setCell _ _ _ _ (show w.heap.size ≠ w.heap.size + 1 by omega)]
            exact hkb2
          have HBel2 := Lib.hid hbel2
          have Hap := Lib.hid hap
          clear hb1 hb2 hbel2 hkl2 hkb2 hkp2 hap
          go_wp2_with fail
          with_reducible refine (HFx.out _).mono ?_
          rintro e w3 ⟨rfl, rfl⟩
          cases hfx : fitsB (px - ax) with
          | false =>
            have HN := Lib.hid (HNx.out hfx)
            clear HNx HNy hfx
            go_wp2
            go_ret
            exact ⟨by rw [HN.out]; simp, HBel2.out⟩
          | true =>
            go_wp2_with fail
            with_reducible refine (HFy.out _).mono ?_
            rintro e w3 ⟨rfl, rfl⟩
            cases hfy : fitsB (py - ay) with
            | false =>
              have HN := Lib.hid (HNy.out hfy)
              clear HNx HNy hfx hfy
              go_wp2
              go_ret
              exact ⟨by rw [HN.out]; simp, HBel2.out⟩
            | true =>
              have HFt2 : Hid (∀ m, m < j + 1 → fitsB (chA (xsOf ps) m) = true ∧ fitsB (chA (ysOf ps) m) = true) := fun m hm => by
                rcases Nat.lt_or_ge m j with h | h
                · exact HFt.out m h
                · obtain rfl : m = j := by omega
                  rw [HCx.out, HCy.out]
                  exact ⟨hfx, hfy⟩
              clear HNx HNy hfx hfy HFt HCx HCy
              go_wp2
              go_roundw
              case rel => exact ⟨j + 1, by omega, by go_num, by rw [HAh.out]; exact hl3.out, hk3.out, hb3.out, HFt2⟩
              case measure => simp [intOf]; omega
        · obtain rfl : j = q := by omega
          have HFx : Hid (fitL (chs (xsOf ps)) = true) := fitL_of (fun m hm => (HFt.out m (by rw [xsOf_len, HS.out] at hm; exact hm)).1)
          have HFy : Hid (fitL (chs (ysOf ps)) = true) := fitL_of (fun m hm => (HFt.out m (by rw [ysOf_len, HS.out] at hm; exact hm)).2)
          have c6 : wr.cell? ⟨w.heap.size, 6, none⟩ = some (.slice QA j qc) := cell_of_row wr _ 6 _ _ _ hkb
          have HBel2 := Lib.hid hbel
          clear hkl hkb hbel
          by_cases hc : j = cntE es
          · have e1 : ((j : Int) == (cntE es : Nat)) = true := by simp [hc]
            have HD : Hid (decide (j = cntE es) = true) := decide_eq_true hc
            generalize cntE es = cn at *
            clear hc
            go_wp2
            go_ret
            exact ⟨by rw [HR.out, HD.out, HFx.out, HFy.out]; simp, HBel2.out⟩
          · have e1 : ((j : Int) == (cntE es : Nat)) = false := by simp; omega
            have HD : Hid (decide (j = cntE es) = false) := decide_eq_false hc
            generalize cntE es = cn at *
            clear hc
            go_wp2
            go_ret
            exact ⟨by rw [HR.out, HD.out, HFx.out, HFy.out]; simp, HBel2.out⟩

end Go.Proofs.Ytlcnonhebppeiaa
