/- The document's Parse of outlines, as a contract over this seat's translation. -/
import Derived.Test.YtlcnonhebppeiaaSimG3
import Derived.Test.YtlcnonhebppeiaaSimG4
namespace Go.Proofs.Ytlcnonhebppeiaa
open Go.RowKit
set_option linter.unusedVariables false
set_option linter.unusedSimpArgs false

/-- What Parse leaves. -/
def RetRP (w : World) (zs : List Int) (e : Ending) (w' : World) : Prop :=
  Below w.heap.size w w' ∧ ((oParse zs = none ∧ e = .returned (.tuple #[.agg rg0, .int .i64 0, .bool false])) ∨
    (∃ (g : Gl) (a : Nat) (v : RlV), oParse zs = some (g, a) ∧ e = .returned (.tuple #[v.val, .int .i64 (a : Nat), .bool true]) ∧ v.rows w' ∧ v.g = g ∧ v.n ≤ 1000000 ∧ v.pn ≤ 1000000 ∧ v.q ≤ 1000000))

theorem part_told (zs : List Int) (a k : Nat) : part zs a (a + k) = (zs.drop a).take k := by
  unfold part
  rw [List.drop_take, show a + k - a = k by omega]
theorem OW.keepB {w wr : World} {bx : Nat} {cs : Array Value} {IA QA : Option Addr} {n ic q qc : Nat} {es : List Int} {ps : List Sp} (h : OW (keptO w) w wr bx cs IA n ic es QA q qc ps) : wr.heap[w.heap.size]? = some (.cells rg0 38 (0, 0)) := h.kp _ List.mem_cons_self

set_option maxRecDepth 1000000 in
set_option maxHeartbeats 8000000 in
theorem rparse12_any (A : Option Addr) (n c : Nat) (zs : List Int) (w : World) (hr : Row w A n (cellsOf .u8 zs)) (hB : Bytes zs) (hn : n ≤ 100000) :
    Calls Try.prog 28 #[.slice A n c] w (RetRP w zs) := by
  have Hl : Hid (zs.length = n) := hr.len
  have HR := Lib.hid hr
  have HB := Lib.hid hB
  have hA := (Below.refl w.heap.size w).alloc (Nat.le_refl _) (.cells rg0 38)
  have hA2 := hA.alloc hA.size (.cells rg0 38)
  have hk1 := kept_alloc (heap_alloc_new w (.cells rg0 38)) (.cells rg0 38)
  have hk2 := heap_alloc_new (w.alloc (.cells rg0 38)) (.cells rg0 38)
  rw [show (w.alloc (.cells rg0 38)).heap.size = w.heap.size + 1 by simp] at hk2
  have hv : Hid (n2b zs 0 = decide (2 ≤ n) ∧ (n < 2 → n2at zs 0 = 0)) := ⟨by unfold n2b; rw [Hl.out], fun h => by
    rw [← n2v_at]
    unfold n2v
    rw [List.getElem?_eq_none (l := zs) (i := 0 + 1) (by have := Hl.out; omega)]
    split
    · rename_i h1 h2; cases h2
    · rfl⟩
  obtain ⟨v0, v1⟩ := n2at_lt hB 0
  obtain ⟨m, hm⟩ : ∃ m : Nat, n2at zs 0 = (m : Int) := ⟨(n2at zs 0).toNat, by omega⟩
  have H2 : Hid (Calls Try.prog 71 #[.slice A n c, .int .i64 0] ((w.alloc (.cells rg0 38)).alloc (.cells rg0 38)) (Quiet ((w.alloc (.cells rg0 38)).alloc (.cells rg0 38)) (.tuple #[.int .i64 (m : Int), .bool (decide (2 ≤ n))]))) := by
    have := n2_any A n c zs 0 ((w.alloc (.cells rg0 38)).alloc (.cells rg0 38)) (hr.below hA2) hB (by omega) (by omega)
    rw [n2v_at, hv.out.1, hm] at this
    exact this
  have Hm0 : Hid ((n2at zs 0).toNat = m) := by show _ = _; omega
  have HL1 : Hid (32767 < m ∨ n < 12 + 2 * m → oParse zs = none) := fun h => oNo_len (by rw [Hm0.out, hm, Hl.out]; omega)
  have hm2 : m < 65536 := by omega
  clear hr hB hA hm v0 v1 hv
  unfold rg0 at H2 hA2 hk1 hk2
  go_enter Try.func28, Try.ntmps28
  go_wp2_with fail
  generalize (w.alloc _).alloc _ = V0 at *
  with_reducible refine H2.out.mono ?_
  rintro e w1 ⟨rfl, q, hq⟩
  have hb1 : Below w.heap.size w w1 := by rw [hq]; exact below_drewN hA2 q
  have hk3 : w1.heap[w.heap.size]? = some (.cells rg0 38 (0, 0)) := by rw [hq]; exact hk1
  have hk4 : w1.heap[w.heap.size + 1]? = some (.cells rg0 38 (0, 0)) := by rw [hq]; exact hk2
  have KR := Lib.hid (setRow_heap w1 w.heap.size _ rg0 38 (0, 0) hk3)
  have HBl := Lib.hid (below_rowO (B := w.heap.size) (Nat.le_refl _) rg0 hb1)
  unfold rg0 at KR HBl
  clear H2 hk1 hk2 hA2 hq
  by_cases h2 : 2 ≤ n
  · by_cases hm3 : m ≤ 32767
    · by_cases hlen : 12 + 2 * m ≤ n
      · have hs : OW (keptO w) w w1 (w.heap.size + 1) (rxC (boxN zs) 0 (.slice none 0 0)) none 0 0 [] none 0 0 [] := by
          rw [rxC_0]
          refine ⟨hk4, Own.nil _ _ _ _, OwnS.nil _ _ _ _ _, hb1, by omega, ?_, ?_⟩
          · intro p hp
            simp only [keptO, List.mem_cons, List.not_mem_nil, or_false] at hp
            subst hp
            exact hk3
          · intro p hp
            simp only [keptO, List.mem_cons, List.not_mem_nil, or_false] at hp
            subst hp
            exact ⟨by simp, by simp, by simp⟩
        have hlenI : (12 : Int) + 2 * (m : Int) ≤ (n : Int) := by omega
        have hlenN : ¬ (n : Int) < 12 + 2 * (m : Int) := by omega
        have hm3I : ¬ (32767 : Int) < (m : Int) := by omega
        rw [decide_eq_true h2]
        clear KR HBl hk3 hk4 hb1 HL1
        go_wp2_with fail
        refine box_loop A n c zs m w _ HR.out HB.out hn hlen hs ?_
        intro u9 u10 u54 u55 u56 u57 u58 u59 u60 u61 u62 u63 u64 u65 u66 u67 u68 u69 u70 wr hs1
        clear hs
        unfold boxN at hs1
        rw [rxC_4] at hs1
        go_wp2_with fail
        refine ends_loop A n c zs m _ _ _ _ w _ HR.out HB.out hn hlen Hm0.out hs1 ?_ ?_
        · intro a' w' h0 t2 t3 t4 t5 hh hb
          exact bodyPost_ret (v := .tuple #[.agg rg0, .int .i64 0, .bool false]) (results_three Try.results28 a'.tmps w' w.heap.size 38 rg0 (0, 0) _ t2 t3 t4 hh Try.underlying38 rfl (rg7 _ _ _ _ _ _ _ _ _ _ _ _ _).1) t5 ⟨hb, .inl ⟨h0, rfl⟩⟩
        intro u3 u4 u13 u14 u71 u72 u73 u74 u75 u76 u77 u78 u79 u80 u81 u82 u83 u84 u85 u86 u87 u88 u89 u90 u91 u92 u93 u94 u95 IA ic wr2 hri hs2
        clear hs1
        have HRi : Hid (riseN (oEs zs (n2at zs 0).toNat) (n2at zs 0).toNat = true) := by show _ = _; rw [Hm0.out]; exact hri
        have HEb := Lib.hid (oEs_bd HB.out m)
        have hEl := oEs_len zs m
        have HCn : Hid (cntK (oEs zs m) m = (cntE (oEs zs m) : Nat)) := by
          have := cntK_len HEb.out
          rwa [hEl] at this
        obtain ⟨cnt, hcnt⟩ : ∃ cnt, cntE (oEs zs m) = cnt := ⟨_, rfl⟩
        have hc1 : cnt ≤ 65536 := by rw [← hcnt]; exact cntE_le HEb.out
        have Hcnt := Lib.hid hcnt
        rw [HCn.out, hcnt]
        obtain ⟨z0, z1⟩ := n2at_lt HB.out (10 + 2 * m)
        obtain ⟨sz, hsz⟩ : ∃ sz : Nat, n2at zs (10 + 2 * m) = (sz : Int) := ⟨(n2at zs (10 + 2 * m)).toNat, by omega⟩
        have hoSz : oSz zs m = sz := by unfold oSz; omega
        have HoA : Hid (12 + 2 * m + sz = oA zs m) := by show _ = _; unfold oA; omega
        have HoSz := Lib.hid hoSz
        have H3 := Lib.hid (n2_any A n c zs (10 + 2 * m) wr2 (HR.out.below hs2.bel) HB.out (by omega) (by omega))
        rw [n2b_of (by have := Hl.out; omega), n2v_at, hsz, show ((10 + 2 * m : Nat) : Int) = 10 + 2 * (m : Int) by omega] at H3
        have hsz1 : sz < 65536 := by omega
        clear hri hEl hcnt z0 z1 hsz hoSz HEb HCn
        go_wp2_with fail
        with_reducible refine H3.out.mono ?_
        rintro e w3 ⟨rfl, q3, hq3⟩
        have hs3 := hs2.below (w' := w3) (by rw [hq3]; exact below_drewN (Below.refl _ _) q3)
        clear hs2 hq3 H3
        by_cases hat : 12 + 2 * m + sz ≤ n
        · have hatI : ¬ (n : Int) < 12 + 2 * (m : Int) + (sz : Int) := by omega
          have HPt := Lib.hid (part_any A n c zs (12 + 2 * (m : Int)) (12 + 2 * (m : Int) + (sz : Int)) w3 (HR.out.below hs3.bel) (by omega) (by omega))
          rw [show (12 + 2 * (m : Int)).toNat = 12 + 2 * m by omega, show (12 + 2 * (m : Int) + (sz : Int)).toNat = 12 + 2 * m + sz by omega, part_told] at HPt
          have HPl : Hid (((zs.drop (12 + 2 * m)).take sz).length ≤ 1000000) := by show _ ≤ _; rw [List.length_take]; omega
          go_wp2_with fail
          with_reducible refine HPt.out.mono ?_
          rintro e w4 ⟨PA, pn, pc, rfl, hown4, hb4⟩
          have hs4 := hs3.below hb4
          have hpr4 := RowB.of_own hown4
          have HPn : Hid (pn ≤ 1000000) := by have h1 := HPl.out; rw [hown4.len] at h1; exact h1
          have c5 := hs4.cell 5 _ rfl
          have f5 := hs4.thaw 5
          have hs5 : OW (keptO w) w (w4.setCell ⟨w.heap.size + 1, 5, none⟩ (.slice PA pn pc)) (w.heap.size + 1) #[.int .i64 (sgn (n2at zs 2)), .int .i64 (sgn (n2at zs 4)), .int .i64 (sgn (n2at zs 6)), .int .i64 (sgn (n2at zs 8)), .slice IA m ic, .slice PA pn pc, .slice none 0 0] IA m ic (oEs zs m) none 0 0 [] := hs4.set 5 (.slice PA pn pc)
          have hpr5 : RowB (w4.setCell ⟨w.heap.size + 1, 5, none⟩ (.slice PA pn pc)) PA pn _ := hpr4.set hs4.box (by decide)
          clear hs3 hs4 hpr4 hown4 hb4 HPt HPl
          go_wp2_with fail
          clear c5 f5
          generalize w4.setCell _ _ = V5 at *
          rw [show (12 : Int) + 2 * (m : Int) + (sz : Int) = ((12 + 2 * m + sz : Nat) : Int) by omega]
          refine flags_loop A n c zs m cnt (12 + 2 * m + sz) w _ (HR.out.below hs5.bel) HB.out hn Hm0.out Hcnt.out hc1 HoA.out hat hs5.keepB hs5.bel ?_ ?_
          · intro a' w' h0 t2 t3 t4 t5 hh hb
            exact bodyPost_ret (v := .tuple #[.agg rg0, .int .i64 0, .bool false]) (results_three Try.results28 a'.tmps w' w.heap.size 38 rg0 (0, 0) _ t2 t3 t4 hh Try.underlying38 rfl (rg7 _ _ _ _ _ _ _ _ _ _ _ _ _).1) t5 ⟨hb, .inl ⟨h0, rfl⟩⟩
          intro u3 u4 u19 u20 u21 u121 u122 u123 u124 u125 u126 u127 u128 u129 u130 u131 u132 u133 u134 u135 u136 u137 u138 u139 u140 u141 u142 u143 u144 u145 u146 u147 u148 u149 u150 u151 u152 u153 u154 u155 u156 u157 u158 u159 u160 u161 u162 u163 u164 u165 u166 u167 u168 u169 u170 s FA cf wr6 hos hat6 hfb hown6 hb6
          have hN : s.fl.length = cnt := hown6.len
          have hs6 : OZ w wr6 (w.heap.size + 1) #[.int .i64 (sgn (n2at zs 2)), .int .i64 (sgn (n2at zs 4)), .int .i64 (sgn (n2at zs 6)), .int .i64 (sgn (n2at zs 8)), .slice IA m ic, .slice PA pn pc, .slice none 0 0] IA m ic (oEs zs m) none 0 0 [] PA pn ((zs.drop (12 + 2 * m)).take sz) FA cnt s.fl := ⟨hs5.below hb6, hpr5.below hb6, RowB.of_own hown6⟩
          have HN := Lib.hid hN
          have HFb := Lib.hid hfb
          have HOs := Lib.hid hos
          clear hs5 hpr5 hown6 hb6 hN hfb hos
          go_wp2_with fail
          refine xs_loop A n c zs m cnt s _ _ _ _ IA PA FA m ic pn pc cf _ _ w _ HR.out HB.out hn Hm0.out HOs.out HN.out hc1 HFb.out hat6 hs6 ?_ (fun _ _ _ _ hd h => ⟨hd.symm.trans h.1, h.2⟩) ?_
          · intro a' w' h0 t2 t3 t4 t5 hh hb
            exact bodyPost_ret (v := .tuple #[.agg rg0, .int .i64 0, .bool false]) (results_three Try.results28 a'.tmps w' w.heap.size 38 rg0 (0, 0) _ t2 t3 t4 hh Try.underlying38 rfl (rg7 _ _ _ _ _ _ _ _ _ _ _ _ _).1) t5 ⟨hb, .inl ⟨h0, rfl⟩⟩
          intro u3 u4 u25 u26 u27 u28 u174 u175 u176 u177 u178 u179 u180 u181 u182 u183 u184 u185 u186 u187 u188 u189 u190 u191 u192 u193 u194 u195 u196 u197 u198 u199 u200 u201 u202 u203 u204 u205 u206 u207 u208 QA qc wr7 hpk hle hs7
          have HPk := Lib.hid hpk
          have hXe : (pkAt zs 2 16 s.fl s.at_ cnt).1 = oXe zs s := by unfold oXe; rw [HN.out]
          rw [hXe] at hle ⊢
          clear hs6 hpk hXe hat6
          go_wp2_with fail
          refine ys_loop A n c zs m cnt s _ _ _ _ IA PA FA QA m ic pn pc cf qc _ _ w _ HR.out HB.out hn Hm0.out HOs.out HN.out hc1 HFb.out hle hs7 ?_ (fun _ _ _ _ hd h => ⟨hd.symm.trans h.1, h.2⟩) ?_
          · intro a' w' h0 t2 t3 t4 t5 hh hb
            exact bodyPost_ret (v := .tuple #[.agg rg0, .int .i64 0, .bool false]) (results_three Try.results28 a'.tmps w' w.heap.size 38 rg0 (0, 0) _ t2 t3 t4 hh Try.underlying38 rfl (rg7 _ _ _ _ _ _ _ _ _ _ _ _ _).1) t5 ⟨hb, .inl ⟨h0, rfl⟩⟩
          intro u3 u4 u29 u30 u31 u32 u33 u212 u213 u214 u215 u216 u217 u218 u219 u220 u221 u222 u223 u224 u225 u226 u227 u228 u229 u230 u231 u232 u233 u234 u235 u236 u237 u238 u239 u240 u241 u242 u243 u244 wr8 hpk8 hle8 hs8
          have hEn : (pkAt zs 4 32 s.fl (oXe zs s) cnt).1 = oEnd zs s := by unfold oEnd; rw [HN.out]
          rw [hEn] at hle8 ⊢
          have HY : Hid (oParse zs = some (oGl zs m s, oEnd zs s)) := by
            have := oYes (zs := zs) (s := s) (by have := Hm0.out; omega) HRi.out (by rw [Hm0.out]; exact HOs.out) (by rw [HN.out]; exact HPk.out) (by rw [HN.out]; exact hpk8) (by rw [Hl.out]; exact hle8)
            rwa [Hm0.out] at this
          clear hs7 hpk8 hEn hle
          have hbox := hs8.ow.box
          have hkb := hs8.ow.keepB
          have KR8 := Lib.hid (setRow_heap wr8 w.heap.size _ #[.int .i64 (sgn (n2at zs 2)), .int .i64 (sgn (n2at zs 4)), .int .i64 (sgn (n2at zs 6)), .int .i64 (sgn (n2at zs 8)), .slice IA m ic, .slice PA pn pc, .slice QA cnt qc] 38 (0, 0) hkb)
          have HBl8 := Lib.hid (below_rowO (B := w.heap.size) (Nat.le_refl _) #[.int .i64 (sgn (n2at zs 2)), .int .i64 (sgn (n2at zs 4)), .int .i64 (sgn (n2at zs 6)), .int .i64 (sgn (n2at zs 8)), .slice IA m ic, .slice PA pn pc, .slice QA cnt qc] hs8.ow.bel)
          have HRows : Hid (RlV.rows (wr8.setRow w.heap.size #[.int .i64 (sgn (n2at zs 2)), .int .i64 (sgn (n2at zs 4)), .int .i64 (sgn (n2at zs 6)), .int .i64 (sgn (n2at zs 8)), .slice IA m ic, .slice PA pn pc, .slice QA cnt qc]) ⟨oGl zs m s, IA, m, ic, PA, pn, pc, QA, cnt, qc⟩) := by
            refine ⟨hs8.ow.ia.row.keep (by simp) (fun g e _ => setRow_other _ _ _ _ (own_neS hs8.ow.ia hkb (by decide) g e)), ?_, ?_⟩
            · show Row _ PA pn (cellsOf .u8 ((zs.drop (12 + 2 * m)).take (oSz zs m)))
              rw [HoSz.out]
              exact (hs8.pr.row hkb (by decide)).1
            · show RowS encRp 3 _ QA cnt (oPs zs s s.fl.length)
              rw [HN.out]
              exact (hs8.ow.qa.row encRp_len).keep (by simp) (fun g e _ => setRow_other _ _ _ _ (ownS_ne hs8.ow.qa hkb (by decide) g e))
          have HFin : Hid (RetRP w zs (.returned (.tuple #[.agg #[.int .i64 (sgn (n2at zs 2)), .int .i64 (sgn (n2at zs 4)), .int .i64 (sgn (n2at zs 6)), .int .i64 (sgn (n2at zs 8)), .slice IA m ic, .slice PA pn pc, .slice QA cnt qc], .int .i64 (oEnd zs s : Nat), .bool true])) (wr8.setRow w.heap.size #[.int .i64 (sgn (n2at zs 2)), .int .i64 (sgn (n2at zs 4)), .int .i64 (sgn (n2at zs 6)), .int .i64 (sgn (n2at zs 8)), .slice IA m ic, .slice PA pn pc, .slice QA cnt qc])) :=
            ⟨HBl8.out, .inr ⟨_, _, ⟨oGl zs m s, IA, m, ic, PA, pn, pc, QA, cnt, qc⟩, HY.out, rfl, HRows.out, rfl, by show m ≤ 1000000; omega, HPn.out, by show cnt ≤ 1000000; omega⟩⟩
          unfold rg0 at hkb
          generalize sgn (n2at zs 2) = X0 at *
          generalize sgn (n2at zs 4) = X1 at *
          generalize sgn (n2at zs 6) = X2 at *
          generalize sgn (n2at zs 8) = X3 at *
          clear hs8 HBl8 HRows
          go_wp2_with (first
            | (with_reducible refine wpList_load_row rfl 38 (.tmp 5) rfl (w.heap.size + 1) rfl 38 #[.int .i64 X0, .int .i64 X1, .int .i64 X2, .int .i64 X3, .slice IA m ic, .slice PA pn pc, .slice QA cnt qc] (0, 0) _ hbox Try.underlying38 rfl (rg7 _ _ _ _ _ _ _ _ _ _ _ _ _).1 ?_)
            | (with_reducible refine wpList_store_row rfl 38 (.tmp 2) (.tmp 245) rfl w.heap.size #[.int .i64 X0, .int .i64 X1, .int .i64 X2, .int .i64 X3, .slice IA m ic, .slice PA pn pc, .slice QA cnt qc] rfl rfl 38 #[.int .i64 0, .int .i64 0, .int .i64 0, .int .i64 0, .slice none 0 0, .slice none 0 0, .slice none 0 0] hkb (rg7 _ _ _ _ _ _ _ _ _ _ _ _ _).1 (rg7 _ _ _ _ _ _ _ _ _ _ _ _ _).2.1 (rg7 _ _ _ _ _ _ _ _ _ _ _ _ _).2.2 ?_))
          exact bodyPost_ret (v := .tuple #[.agg #[.int .i64 X0, .int .i64 X1, .int .i64 X2, .int .i64 X3, .slice IA m ic, .slice PA pn pc, .slice QA cnt qc], .int .i64 (oEnd zs s : Nat), .bool true]) (results_three Try.results28 _ _ w.heap.size 38 _ (0, 0) _ rfl rfl rfl KR8.out Try.underlying38 rfl (rg7 _ _ _ _ _ _ _ _ _ _ _ _ _).1) rfl HFin.out
        · have HF : Hid (oParse zs = none) := oNo_at (by rw [Hm0.out, ← HoA.out, Hl.out]; omega)
          have hatI : (n : Int) < 12 + 2 * (m : Int) + (sz : Int) := by omega
          have hout := hs3.keepB
          have KR := Lib.hid (setRow_heap w3 w.heap.size _ rg0 38 (0, 0) hout)
          have HBl := Lib.hid (below_rowO (B := w.heap.size) (Nat.le_refl _) rg0 hs3.bel)
          unfold rg0 at KR HBl hout
          clear hs3
          go_wp2_with (with_reducible refine wpList_store_row rfl 38 (.tmp 2) (.tmp 113) rfl w.heap.size #[.int .i64 0, .int .i64 0, .int .i64 0, .int .i64 0, .slice none 0 0, .slice none 0 0, .slice none 0 0] rfl rfl 38 #[.int .i64 0, .int .i64 0, .int .i64 0, .int .i64 0, .slice none 0 0, .slice none 0 0, .slice none 0 0] hout (rg7 _ _ _ _ _ _ _ _ _ _ _ _ _).1 (rg7 _ _ _ _ _ _ _ _ _ _ _ _ _).2.1 (rg7 _ _ _ _ _ _ _ _ _ _ _ _ _).2.2 ?_)
          exact bodyPost_ret (v := .tuple #[.agg rg0, .int .i64 0, .bool false]) (results_three Try.results28 _ _ w.heap.size 38 _ (0, 0) _ rfl rfl rfl KR.out Try.underlying38 rfl (rg7 _ _ _ _ _ _ _ _ _ _ _ _ _).1) rfl ⟨HBl.out, .inl ⟨HF.out, rfl⟩⟩
      · have HF : Hid (oParse zs = none) := HL1.out (by omega)
        have hI : (n : Int) < 12 + 2 * (m : Int) := by omega
        have hI2 : ¬ (32767 : Int) < (m : Int) := by omega
        rw [decide_eq_true h2]
        unfold rg0 at hk3 hk4
        clear HL1 hb1
        go_wp2_with (first
          | (with_reducible refine wpList_load_row rfl 38 (.tmp 5) rfl (w.heap.size + 1) rfl 38 #[.int .i64 0, .int .i64 0, .int .i64 0, .int .i64 0, .slice none 0 0, .slice none 0 0, .slice none 0 0] (0, 0) _ hk4 Try.underlying38 rfl (rg7 _ _ _ _ _ _ _ _ _ _ _ _ _).1 ?_)
          | (with_reducible refine wpList_store_row rfl 38 (.tmp 2) (.tmp 53) rfl w.heap.size #[.int .i64 0, .int .i64 0, .int .i64 0, .int .i64 0, .slice none 0 0, .slice none 0 0, .slice none 0 0] rfl rfl 38 #[.int .i64 0, .int .i64 0, .int .i64 0, .int .i64 0, .slice none 0 0, .slice none 0 0, .slice none 0 0] hk3 (rg7 _ _ _ _ _ _ _ _ _ _ _ _ _).1 (rg7 _ _ _ _ _ _ _ _ _ _ _ _ _).2.1 (rg7 _ _ _ _ _ _ _ _ _ _ _ _ _).2.2 ?_))
        exact bodyPost_ret (v := .tuple #[.agg rg0, .int .i64 0, .bool false]) (results_three Try.results28 _ _ w.heap.size 38 _ (0, 0) _ rfl rfl rfl KR.out Try.underlying38 rfl (rg7 _ _ _ _ _ _ _ _ _ _ _ _ _).1) rfl ⟨HBl.out, .inl ⟨HF.out, rfl⟩⟩
    · have HF : Hid (oParse zs = none) := HL1.out (by omega)
      have hI : (32767 : Int) < (m : Int) := by omega
      rw [decide_eq_true h2]
      unfold rg0 at hk3 hk4
      clear HL1 hb1
      go_wp2_with (first
        | (with_reducible refine wpList_load_row rfl 38 (.tmp 5) rfl (w.heap.size + 1) rfl 38 #[.int .i64 0, .int .i64 0, .int .i64 0, .int .i64 0, .slice none 0 0, .slice none 0 0, .slice none 0 0] (0, 0) _ hk4 Try.underlying38 rfl (rg7 _ _ _ _ _ _ _ _ _ _ _ _ _).1 ?_)
        | (with_reducible refine wpList_store_row rfl 38 (.tmp 2) (.tmp 53) rfl w.heap.size #[.int .i64 0, .int .i64 0, .int .i64 0, .int .i64 0, .slice none 0 0, .slice none 0 0, .slice none 0 0] rfl rfl 38 #[.int .i64 0, .int .i64 0, .int .i64 0, .int .i64 0, .slice none 0 0, .slice none 0 0, .slice none 0 0] hk3 (rg7 _ _ _ _ _ _ _ _ _ _ _ _ _).1 (rg7 _ _ _ _ _ _ _ _ _ _ _ _ _).2.1 (rg7 _ _ _ _ _ _ _ _ _ _ _ _ _).2.2 ?_))
      exact bodyPost_ret (v := .tuple #[.agg rg0, .int .i64 0, .bool false]) (results_three Try.results28 _ _ w.heap.size 38 _ (0, 0) _ rfl rfl rfl KR.out Try.underlying38 rfl (rg7 _ _ _ _ _ _ _ _ _ _ _ _ _).1) rfl ⟨HBl.out, .inl ⟨HF.out, rfl⟩⟩
  · have HF : Hid (oParse zs = none) := HL1.out (by omega)
    
    rw [decide_eq_false h2]
    unfold rg0 at hk3 hk4
    clear HL1 hb1
    go_wp2_with (first
      | (with_reducible refine wpList_load_row rfl 38 (.tmp 5) rfl (w.heap.size + 1) rfl 38 #[.int .i64 0, .int .i64 0, .int .i64 0, .int .i64 0, .slice none 0 0, .slice none 0 0, .slice none 0 0] (0, 0) _ hk4 Try.underlying38 rfl (rg7 _ _ _ _ _ _ _ _ _ _ _ _ _).1 ?_)
      | (with_reducible refine wpList_store_row rfl 38 (.tmp 2) (.tmp 53) rfl w.heap.size #[.int .i64 0, .int .i64 0, .int .i64 0, .int .i64 0, .slice none 0 0, .slice none 0 0, .slice none 0 0] rfl rfl 38 #[.int .i64 0, .int .i64 0, .int .i64 0, .int .i64 0, .slice none 0 0, .slice none 0 0, .slice none 0 0] hk3 (rg7 _ _ _ _ _ _ _ _ _ _ _ _ _).1 (rg7 _ _ _ _ _ _ _ _ _ _ _ _ _).2.1 (rg7 _ _ _ _ _ _ _ _ _ _ _ _ _).2.2 ?_))
    exact bodyPost_ret (v := .tuple #[.agg rg0, .int .i64 0, .bool false]) (results_three Try.results28 _ _ w.heap.size 38 _ (0, 0) _ rfl rfl rfl KR.out Try.underlying38 rfl (rg7 _ _ _ _ _ _ _ _ _ _ _ _ _).1) rfl ⟨HBl.out, .inl ⟨HF.out, rfl⟩⟩

end Go.Proofs.Ytlcnonhebppeiaa
