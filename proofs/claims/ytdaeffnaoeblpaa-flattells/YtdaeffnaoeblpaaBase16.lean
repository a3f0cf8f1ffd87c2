/- What the laws of this seat lean on: FlR FlS DApp. -/
import Derived.Test.YtdaeffnaoeblpaaBase12
import Derived.StillTailTactics
import Derived.Deep.RegionWith
import Derived.Test.YtdaeffnaoeblpaaBase2
import Derived.Test.YtdaeffnaoeblpaaBase3
import Derived.Test.YtdaeffnaoeblpaaBase11
import Derived.Test.YtdaeffnaoeblpaaBase14

/- simple: the document's Parse, and that the lists are new. -/
namespace Go.Proofs.Ytdaeffnaoeblpaa
open Go.RowKit
set_option linter.unusedVariables false
set_option linter.unusedSimpArgs false

/-- The same, and that the lists are new. -/
def RetROf (w : World) (zs : List Int) (e : Ending) (w' : World) : Prop :=
  Below w.heap.size w w' ∧ ((oParse zs = none ∧ e = .returned (.tuple #[.agg rg0, .int .i64 0, .bool false])) ∨
    (∃ (g : Gl) (a : Nat) (v : RlV), oParse zs = some (g, a) ∧ e = .returned (.tuple #[v.val, .int .i64 (a : Nat), .bool true]) ∧ v.rows w' ∧ v.g = g ∧ v.n ≤ 1000000 ∧ v.pn ≤ 1000000 ∧ v.q ≤ 1000000 ∧ ∀ g, (blockOf v.IA = some g ∨ blockOf v.QA = some g) → w.heap.size ≤ g))

set_option maxRecDepth 1000000 in
set_option maxHeartbeats 8000000 in
theorem rparse12_anyF (A : Option Addr) (n c : Nat) (zs : List Int) (w : World) (hr : Row w A n (cellsOf .u8 zs)) (hB : Bytes zs) (hn : n ≤ 100000) :
    Calls Try.prog 107 #[.slice A n c] w (RetROf w zs) := by
  have Hl : Hid (zs.length = n) := hr.len
  have HR := Lib.hid hr
  have HB := Lib.hid hB
  have hA := (Below.refl w.heap.size w).alloc (Nat.le_refl _) (.cells rg0 179)
  have hA2 := hA.alloc hA.size (.cells rg0 179)
  have hk1 := kept_alloc (heap_alloc_new w (.cells rg0 179)) (.cells rg0 179)
  have hk2 := heap_alloc_new (w.alloc (.cells rg0 179)) (.cells rg0 179)
  rw [show (w.alloc (.cells rg0 179)).heap.size = w.heap.size + 1 by simp] at hk2
  have hv : Hid (n2b zs 0 = decide (2 ≤ n) ∧ (n < 2 → n2at zs 0 = 0)) := ⟨by unfold n2b; rw [Hl.out], fun h => by
    rw [← n2v_at]
    unfold n2v
    rw [List.getElem?_eq_none (l := zs) (i := 0 + 1) (by have := Hl.out; omega)]
    split
    · rename_i h1 h2; cases h2
    · rfl⟩
  obtain ⟨v0, v1⟩ := n2at_lt hB 0
  obtain ⟨m, hm⟩ : ∃ m : Nat, n2at zs 0 = (m : Int) := ⟨(n2at zs 0).toNat, by omega⟩
  have H2 : Hid (Calls Try.prog 98 #[.slice A n c, .int .i64 0] ((w.alloc (.cells rg0 179)).alloc (.cells rg0 179)) (Quiet ((w.alloc (.cells rg0 179)).alloc (.cells rg0 179)) (.tuple #[.int .i64 (m : Int), .bool (decide (2 ≤ n))]))) := by
    have := n2_any A n c zs 0 ((w.alloc (.cells rg0 179)).alloc (.cells rg0 179)) (hr.below hA2) hB (by omega) (by omega)
    rw [n2v_at, hv.out.1, hm] at this
    exact this
  have Hm0 : Hid ((n2at zs 0).toNat = m) := by show _ = _; omega
  have HL1 : Hid (32767 < m ∨ n < 12 + 2 * m → oParse zs = none) := fun h => oNo_len (by rw [Hm0.out, hm, Hl.out]; omega)
  have hm2 : m < 65536 := by omega
  clear hr hB hA hm v0 v1 hv
  unfold rg0 at H2 hA2 hk1 hk2
  go_enter Try.func107, Try.ntmps107
  go_wp2_with fail
  generalize (w.alloc _).alloc _ = V0 at *
  with_reducible refine H2.out.mono ?_
  rintro e w1 ⟨rfl, q, hq⟩
  have hb1 : Below w.heap.size w w1 := by rw [hq]; exact below_drewN hA2 q
  have hk3 : w1.heap[w.heap.size]? = some (.cells rg0 179 (0, 0)) := by rw [hq]; exact hk1
  have hk4 : w1.heap[w.heap.size + 1]? = some (.cells rg0 179 (0, 0)) := by rw [hq]; exact hk2
  have KR := Lib.hid (setRow_heap w1 w.heap.size _ rg0 179 (0, 0) hk3)
  have HBl := Lib.hid (below_rowO (B := w.heap.size) (Nat.le_refl _) rg0 hb1)
  unfold rg0 at KR HBl
  clear H2 hk1 hk2 hA2 hq
  by_cases h2 : 2 ≤ n
  · by_cases hm3 : m ≤ 32767
    · by_cases hlen : 12 + 2 * m ≤ n
      · have hs : OW (keptO w) w w1 (w.heap.size + 1) (rxC (boxN zs) 0 (.slice none 0 0)) none 0 0 [] none 0 0 [] := by
          rw [rxC_0]
          refine ⟨hk4, Own.nil _ _ _ _, OwnS.nil _ _ _ _ _, hb1, by omega, ?_, ?_⟩
          · intro p hp
            simp only [keptO, List.mem_cons, List.not_mem_nil, or_false] at hp
            subst hp
            exact hk3
          · intro p hp
            simp only [keptO, List.mem_cons, List.not_mem_nil, or_false] at hp
            subst hp
            exact ⟨by simp, by simp, by simp⟩
        have hlenI : (12 : Int) + 2 * (m : Int) ≤ (n : Int) := by omega
        have hlenN : ¬ (n : Int) < 12 + 2 * (m : Int) := by omega
        have hm3I : ¬ (32767 : Int) < (m : Int) := by omega
        rw [decide_eq_true h2]
        clear KR HBl hk3 hk4 hb1 HL1
        go_wp2_with fail
        refine box_loop A n c zs m w _ HR.out HB.out hn hlen hs ?_
        intro u9 u10 u54 u55 u56 u57 u58 u59 u60 u61 u62 u63 u64 u65 u66 u67 u68 u69 u70 wr hs1
        clear hs
        unfold boxN at hs1
        rw [rxC_4] at hs1
        go_wp2_with fail
        refine ends_loop A n c zs m _ _ _ _ w _ HR.out HB.out hn hlen Hm0.out hs1 ?_ ?_
        · intro a' w' h0 t2 t3 t4 t5 hh hb
          exact bodyPost_ret (v := .tuple #[.agg rg0, .int .i64 0, .bool false]) (results_three Try.results107 a'.tmps w' w.heap.size 179 rg0 (0, 0) _ t2 t3 t4 hh Try.underlying179 rfl (rg7 _ _ _ _ _ _ _ _ _ _ _ _ _).1) t5 ⟨hb, .inl ⟨h0, rfl⟩⟩
        intro u3 u4 u13 u14 u71 u72 u73 u74 u75 u76 u77 u78 u79 u80 u81 u82 u83 u84 u85 u86 u87 u88 u89 u90 u91 u92 u93 u94 u95 IA ic wr2 hri hs2
        clear hs1
        have HRi : Hid (riseN (oEs zs (n2at zs 0).toNat) (n2at zs 0).toNat = true) := by show _ = _; rw [Hm0.out]; exact hri
        have HEb := Lib.hid (oEs_bd HB.out m)
        have hEl := oEs_len zs m
        have HCn : Hid (cntK (oEs zs m) m = (cntE (oEs zs m) : Nat)) := by
          have := cntK_len HEb.out
          rwa [hEl] at this
        obtain ⟨cnt, hcnt⟩ : ∃ cnt, cntE (oEs zs m) = cnt := ⟨_, rfl⟩
        have hc1 : cnt ≤ 65536 := by rw [← hcnt]; exact cntE_le HEb.out
        have Hcnt := Lib.hid hcnt
        rw [HCn.out, hcnt]
        obtain ⟨z0, z1⟩ := n2at_lt HB.out (10 + 2 * m)
        obtain ⟨sz, hsz⟩ : ∃ sz : Nat, n2at zs (10 + 2 * m) = (sz : Int) := ⟨(n2at zs (10 + 2 * m)).toNat, by omega⟩
        have hoSz : oSz zs m = sz := by unfold oSz; omega
        have HoA : Hid (12 + 2 * m + sz = oA zs m) := by show _ = _; unfold oA; omega
        have HoSz := Lib.hid hoSz
        have H3 := Lib.hid (n2_any A n c zs (10 + 2 * m) wr2 (HR.out.below hs2.bel) HB.out (by omega) (by omega))
        rw [n2b_of (by have := Hl.out; omega), n2v_at, hsz, show ((10 + 2 * m : Nat) : Int) = 10 + 2 * (m : Int) by omega] at H3
        have hsz1 : sz < 65536 := by omega
        clear hri hEl hcnt z0 z1 hsz hoSz HEb HCn
        go_wp2_with fail
        with_reducible refine H3.out.mono ?_
        rintro e w3 ⟨rfl, q3, hq3⟩
        have hs3 := hs2.below (w' := w3) (by rw [hq3]; exact below_drewN (Below.refl _ _) q3)
        clear hs2 hq3 H3
        by_cases hat : 12 + 2 * m + sz ≤ n
        · have hatI : ¬ (n : Int) < 12 + 2 * (m : Int) + (sz : Int) := by omega
          have HPt := Lib.hid (part_any A n c zs (12 + 2 * (m : Int)) (12 + 2 * (m : Int) + (sz : Int)) w3 (HR.out.below hs3.bel) (by omega) (by omega))
          rw [show (12 + 2 * (m : Int)).toNat = 12 + 2 * m by omega, show (12 + 2 * (m : Int) + (sz : Int)).toNat = 12 + 2 * m + sz by omega, part_told] at HPt
          have HPl : Hid (((zs.drop (12 + 2 * m)).take sz).length ≤ 1000000) := by show _ ≤ _; rw [List.length_take]; omega
          go_wp2_with fail
          with_reducible refine HPt.out.mono ?_
          rintro e w4 ⟨PA, pn, pc, rfl, hown4, hb4⟩
          have hs4 := hs3.below hb4
          have hpr4 := RowB.of_own hown4
          have HPn : Hid (pn ≤ 1000000) := by have h1 := HPl.out; rw [hown4.len] at h1; exact h1
          have c5 := hs4.cell 5 _ rfl
          have f5 := hs4.thaw 5
          have hs5 : OW (keptO w) w (w4.setCell ⟨w.heap.size + 1, 5, none⟩ (.slice PA pn pc)) (w.heap.size + 1) #[.int .i64 (sgn (n2at zs 2)), .int .i64 (sgn (n2at zs 4)), .int .i64 (sgn (n2at zs 6)), .int .i64 (sgn (n2at zs 8)), .slice IA m ic, .slice PA pn pc, .slice none 0 0] IA m ic (oEs zs m) none 0 0 [] := hs4.set 5 (.slice PA pn pc)
          have hpr5 : RowB (w4.setCell ⟨w.heap.size + 1, 5, none⟩ (.slice PA pn pc)) PA pn _ := hpr4.set hs4.box (by decide)
          clear hs3 hs4 hpr4 hown4 hb4 HPt HPl
          go_wp2_with fail
          clear c5 f5
          generalize w4.setCell _ _ = V5 at *
          rw [show (12 : Int) + 2 * (m : Int) + (sz : Int) = ((12 + 2 * m + sz : Nat) : Int) by omega]
          refine flags_loop A n c zs m cnt (12 + 2 * m + sz) w _ (HR.out.below hs5.bel) HB.out hn Hm0.out Hcnt.out hc1 HoA.out hat hs5.keepB hs5.bel ?_ ?_
          · intro a' w' h0 t2 t3 t4 t5 hh hb
            exact bodyPost_ret (v := .tuple #[.agg rg0, .int .i64 0, .bool false]) (results_three Try.results107 a'.tmps w' w.heap.size 179 rg0 (0, 0) _ t2 t3 t4 hh Try.underlying179 rfl (rg7 _ _ _ _ _ _ _ _ _ _ _ _ _).1) t5 ⟨hb, .inl ⟨h0, rfl⟩⟩
          intro u3 u4 u19 u20 u21 u121 u122 u123 u124 u125 u126 u127 u128 u129 u130 u131 u132 u133 u134 u135 u136 u137 u138 u139 u140 u141 u142 u143 u144 u145 u146 u147 u148 u149 u150 u151 u152 u153 u154 u155 u156 u157 u158 u159 u160 u161 u162 u163 u164 u165 u166 u167 u168 u169 u170 s FA cf wr6 hos hat6 hfb hown6 hb6
          have hN : s.fl.length = cnt := hown6.len
          have hs6 : OZ w wr6 (w.heap.size + 1) #[.int .i64 (sgn (n2at zs 2)), .int .i64 (sgn (n2at zs 4)), .int .i64 (sgn (n2at zs 6)), .int .i64 (sgn (n2at zs 8)), .slice IA m ic, .slice PA pn pc, .slice none 0 0] IA m ic (oEs zs m) none 0 0 [] PA pn ((zs.drop (12 + 2 * m)).take sz) FA cnt s.fl := ⟨hs5.below hb6, hpr5.below hb6, RowB.of_own hown6⟩
          have HN := Lib.hid hN
          have HFb := Lib.hid hfb
          have HOs := Lib.hid hos
          clear hs5 hpr5 hown6 hb6 hN hfb hos
          go_wp2_with fail
          refine xs_loop A n c zs m cnt s _ _ _ _ IA PA FA m ic pn pc cf _ _ w _ HR.out HB.out hn Hm0.out HOs.out HN.out hc1 HFb.out hat6 hs6 ?_ (fun _ _ _ _ hd h => ⟨hd.symm.trans h.1, h.2⟩) ?_
          · intro a' w' h0 t2 t3 t4 t5 hh hb
            exact bodyPost_ret (v := .tuple #[.agg rg0, .int .i64 0, .bool false]) (results_three Try.results107 a'.tmps w' w.heap.size 179 rg0 (0, 0) _ t2 t3 t4 hh Try.underlying179 rfl (rg7 _ _ _ _ _ _ _ _ _ _ _ _ _).1) t5 ⟨hb, .inl ⟨h0, rfl⟩⟩
          intro u3 u4 u25 u26 u27 u28 u174 u175 u176 u177 u178 u179 u180 u181 u182 u183 u184 u185 u186 u187 u188 u189 u190 u191 u192 u193 u194 u195 u196 u197 u198 u199 u200 u201 u202 u203 u204 u205 u206 u207 u208 QA qc wr7 hpk hle hs7
          have HPk := Lib.hid hpk
          have hXe : (pkAt zs 2 16 s.fl s.at_ cnt).1 = oXe zs s := by unfold oXe; rw [HN.out]
          rw [hXe] at hle ⊢
          clear hs6 hpk hXe hat6
          go_wp2_with fail
          refine ys_loop A n c zs m cnt s _ _ _ _ IA PA FA QA m ic pn pc cf qc _ _ w _ HR.out HB.out hn Hm0.out HOs.out HN.out hc1 HFb.out hle hs7 ?_ (fun _ _ _ _ hd h => ⟨hd.symm.trans h.1, h.2⟩) ?_
          · intro a' w' h0 t2 t3 t4 t5 hh hb
            exact bodyPost_ret (v := .tuple #[.agg rg0, .int .i64 0, .bool false]) (results_three Try.results107 a'.tmps w' w.heap.size 179 rg0 (0, 0) _ t2 t3 t4 hh Try.underlying179 rfl (rg7 _ _ _ _ _ _ _ _ _ _ _ _ _).1) t5 ⟨hb, .inl ⟨h0, rfl⟩⟩
          intro u3 u4 u29 u30 u31 u32 u33 u212 u213 u214 u215 u216 u217 u218 u219 u220 u221 u222 u223 u224 u225 u226 u227 u228 u229 u230 u231 u232 u233 u234 u235 u236 u237 u238 u239 u240 u241 u242 u243 u244 wr8 hpk8 hle8 hs8
          have hEn : (pkAt zs 4 32 s.fl (oXe zs s) cnt).1 = oEnd zs s := by unfold oEnd; rw [HN.out]
          rw [hEn] at hle8 ⊢
          have HY : Hid (oParse zs = some (oGl zs m s, oEnd zs s)) := by
            have := oYes (zs := zs) (s := s) (by have := Hm0.out; omega) HRi.out (by rw [Hm0.out]; exact HOs.out) (by rw [HN.out]; exact HPk.out) (by rw [HN.out]; exact hpk8) (by rw [Hl.out]; exact hle8)
            rwa [Hm0.out] at this
          clear hs7 hpk8 hEn hle
          have hbox := hs8.ow.box
          have hkb := hs8.ow.keepB
          have KR8 := Lib.hid (setRow_heap wr8 w.heap.size _ #[.int .i64 (sgn (n2at zs 2)), .int .i64 (sgn (n2at zs 4)), .int .i64 (sgn (n2at zs 6)), .int .i64 (sgn (n2at zs 8)), .slice IA m ic, .slice PA pn pc, .slice QA cnt qc] 179 (0, 0) hkb)
          have HBl8 := Lib.hid (below_rowO (B := w.heap.size) (Nat.le_refl _) #[.int .i64 (sgn (n2at zs 2)), .int .i64 (sgn (n2at zs 4)), .int .i64 (sgn (n2at zs 6)), .int .i64 (sgn (n2at zs 8)), .slice IA m ic, .slice PA pn pc, .slice QA cnt qc] hs8.ow.bel)
          have HRows : Hid (RlV.rows (wr8.setRow w.heap.size #[.int .i64 (sgn (n2at zs 2)), .int .i64 (sgn (n2at zs 4)), .int .i64 (sgn (n2at zs 6)), .int .i64 (sgn (n2at zs 8)), .slice IA m ic, .slice PA pn pc, .slice QA cnt qc]) ⟨oGl zs m s, IA, m, ic, PA, pn, pc, QA, cnt, qc⟩) := by
            refine ⟨hs8.ow.ia.row.keep (by simp) (fun g e _ => setRow_other _ _ _ _ (own_neS hs8.ow.ia hkb (by decide) g e)), ?_, ?_⟩
            · show Row _ PA pn (cellsOf .u8 ((zs.drop (12 + 2 * m)).take (oSz zs m)))
              rw [HoSz.out]
              exact (hs8.pr.row hkb (by decide)).1
            · show RowS encRp 3 _ QA cnt (oPs zs s s.fl.length)
              rw [HN.out]
              exact (hs8.ow.qa.row encRp_len).keep (by simp) (fun g e _ => setRow_other _ _ _ _ (ownS_ne hs8.ow.qa hkb (by decide) g e))
          have HFr : Hid (∀ g, (blockOf IA = some g ∨ blockOf QA = some g) → w.heap.size ≤ g) := Lib.hid fun g hg => hg.elim (fun h => (hs8.ow.ia.from_ g h).1) (fun h => (hs8.ow.qa.from_ g h).1)
          have HFin : Hid (RetROf w zs (.returned (.tuple #[.agg #[.int .i64 (sgn (n2at zs 2)), .int .i64 (sgn (n2at zs 4)), .int .i64 (sgn (n2at zs 6)), .int .i64 (sgn (n2at zs 8)), .slice IA m ic, .slice PA pn pc, .slice QA cnt qc], .int .i64 (oEnd zs s : Nat), .bool true])) (wr8.setRow w.heap.size #[.int .i64 (sgn (n2at zs 2)), .int .i64 (sgn (n2at zs 4)), .int .i64 (sgn (n2at zs 6)), .int .i64 (sgn (n2at zs 8)), .slice IA m ic, .slice PA pn pc, .slice QA cnt qc])) :=
            ⟨HBl8.out, .inr ⟨_, _, ⟨oGl zs m s, IA, m, ic, PA, pn, pc, QA, cnt, qc⟩, HY.out, rfl, HRows.out, rfl, by show m ≤ 1000000; omega, HPn.out, by show cnt ≤ 1000000; omega, HFr.out⟩⟩
          unfold rg0 at hkb
          generalize sgn (n2at zs 2) = X0 at *
          generalize sgn (n2at zs 4) = X1 at *
          generalize sgn (n2at zs 6) = X2 at *
          generalize sgn (n2at zs 8) = X3 at *
          clear hs8 HBl8 HRows
          go_wp2_with (first
            | (with_reducible refine wpList_load_row rfl 179 (.tmp 5) rfl (w.heap.size + 1) rfl 179 #[.int .i64 X0, .int .i64 X1, .int .i64 X2, .int .i64 X3, .slice IA m ic, .slice PA pn pc, .slice QA cnt qc] (0, 0) _ hbox Try.underlying179 rfl (rg7 _ _ _ _ _ _ _ _ _ _ _ _ _).1 ?_)
            | (with_reducible refine wpList_store_row rfl 179 (.tmp 2) (.tmp 245) rfl w.heap.size #[.int .i64 X0, .int .i64 X1, .int .i64 X2, .int .i64 X3, .slice IA m ic, .slice PA pn pc, .slice QA cnt qc] rfl rfl 179 #[.int .i64 0, .int .i64 0, .int .i64 0, .int .i64 0, .slice none 0 0, .slice none 0 0, .slice none 0 0] hkb (rg7 _ _ _ _ _ _ _ _ _ _ _ _ _).1 (rg7 _ _ _ _ _ _ _ _ _ _ _ _ _).2.1 (rg7 _ _ _ _ _ _ _ _ _ _ _ _ _).2.2 ?_))
          exact bodyPost_ret (v := .tuple #[.agg #[.int .i64 X0, .int .i64 X1, .int .i64 X2, .int .i64 X3, .slice IA m ic, .slice PA pn pc, .slice QA cnt qc], .int .i64 (oEnd zs s : Nat), .bool true]) (results_three Try.results107 _ _ w.heap.size 179 _ (0, 0) _ rfl rfl rfl KR8.out Try.underlying179 rfl (rg7 _ _ _ _ _ _ _ _ _ _ _ _ _).1) rfl HFin.out
        · have HF : Hid (oParse zs = none) := oNo_at (by rw [Hm0.out, ← HoA.out, Hl.out]; omega)
          have hatI : (n : Int) < 12 + 2 * (m : Int) + (sz : Int) := by omega
          have hout := hs3.keepB
          have KR := Lib.hid (setRow_heap w3 w.heap.size _ rg0 179 (0, 0) hout)
          have HBl := Lib.hid (below_rowO (B := w.heap.size) (Nat.le_refl _) rg0 hs3.bel)
          unfold rg0 at KR HBl hout
          clear hs3
          go_wp2_with (with_reducible refine wpList_store_row rfl 179 (.tmp 2) (.tmp 113) rfl w.heap.size #[.int .i64 0, .int .i64 0, .int .i64 0, .int .i64 0, .slice none 0 0, .slice none 0 0, .slice none 0 0] rfl rfl 179 #[.int .i64 0, .int .i64 0, .int .i64 0, .int .i64 0, .slice none 0 0, .slice none 0 0, .slice none 0 0] hout (rg7 _ _ _ _ _ _ _ _ _ _ _ _ _).1 (rg7 _ _ _ _ _ _ _ _ _ _ _ _ _).2.1 (rg7 _ _ _ _ _ _ _ _ _ _ _ _ _).2.2 ?_)
          exact bodyPost_ret (v := .tuple #[.agg rg0, .int .i64 0, .bool false]) (results_three Try.results107 _ _ w.heap.size 179 _ (0, 0) _ rfl rfl rfl KR.out Try.underlying179 rfl (rg7 _ _ _ _ _ _ _ _ _ _ _ _ _).1) rfl ⟨HBl.out, .inl ⟨HF.out, rfl⟩⟩
      · have HF : Hid (oParse zs = none) := HL1.out (by omega)
        have hI : (n : Int) < 12 + 2 * (m : Int) := by omega
        have hI2 : ¬ (32767 : Int) < (m : Int) := by omega
        rw [decide_eq_true h2]
        unfold rg0 at hk3 hk4
        clear HL1 hb1
        go_wp2_with (first
          | (with_reducible refine wpList_load_row rfl 179 (.tmp 5) rfl (w.heap.size + 1) rfl 179 #[.int .i64 0, .int .i64 0, .int .i64 0, .int .i64 0, .slice none 0 0, .slice none 0 0, .slice none 0 0] (0, 0) _ hk4 Try.underlying179 rfl (rg7 _ _ _ _ _ _ _ _ _ _ _ _ _).1 ?_)
          | (with_reducible refine wpList_store_row rfl 179 (.tmp 2) (.tmp 53) rfl w.heap.size #[.int .i64 0, .int .i64 0, .int .i64 0, .int .i64 0, .slice none 0 0, .slice none 0 0, .slice none 0 0] rfl rfl 179 #[.int .i64 0, .int .i64 0, .int .i64 0, .int .i64 0, .slice none 0 0, .slice none 0 0, .slice none 0 0] hk3 (rg7 _ _ _ _ _ _ _ _ _ _ _ _ _).1 (rg7 _ _ _ _ _ _ _ _ _ _ _ _ _).2.1 (rg7 _ _ _ _ _ _ _ _ _ _ _ _ _).2.2 ?_))
        exact bodyPost_ret (v := .tuple #[.agg rg0, .int .i64 0, .bool false]) (results_three Try.results107 _ _ w.heap.size 179 _ (0, 0) _ rfl rfl rfl KR.out Try.underlying179 rfl (rg7 _ _ _ _ _ _ _ _ _ _ _ _ _).1) rfl ⟨HBl.out, .inl ⟨HF.out, rfl⟩⟩
    · have HF : Hid (oParse zs = none) := HL1.out (by omega)
      have hI : (32767 : Int) < (m : Int) := by omega
      rw [decide_eq_true h2]
      unfold rg0 at hk3 hk4
      clear HL1 hb1
      go_wp2_with (first
        | (with_reducible refine wpList_load_row rfl 179 (.tmp 5) rfl (w.heap.size + 1) rfl 179 #[.int .i64 0, .int .i64 0, .int .i64 0, .int .i64 0, .slice none 0 0, .slice none 0 0, .slice none 0 0] (0, 0) _ hk4 Try.underlying179 rfl (rg7 _ _ _ _ _ _ _ _ _ _ _ _ _).1 ?_)
        | (with_reducible refine wpList_store_row rfl 179 (.tmp 2) (.tmp 53) rfl w.heap.size #[.int .i64 0, .int .i64 0, .int .i64 0, .int .i64 0, .slice none 0 0, .slice none 0 0, .slice none 0 0] rfl rfl 179 #[.int .i64 0, .int .i64 0, .int .i64 0, .int .i64 0, .slice none 0 0, .slice none 0 0, .slice none 0 0] hk3 (rg7 _ _ _ _ _ _ _ _ _ _ _ _ _).1 (rg7 _ _ _ _ _ _ _ _ _ _ _ _ _).2.1 (rg7 _ _ _ _ _ _ _ _ _ _ _ _ _).2.2 ?_))
      exact bodyPost_ret (v := .tuple #[.agg rg0, .int .i64 0, .bool false]) (results_three Try.results107 _ _ w.heap.size 179 _ (0, 0) _ rfl rfl rfl KR.out Try.underlying179 rfl (rg7 _ _ _ _ _ _ _ _ _ _ _ _ _).1) rfl ⟨HBl.out, .inl ⟨HF.out, rfl⟩⟩
  · have HF : Hid (oParse zs = none) := HL1.out (by omega)
    
    rw [decide_eq_false h2]
    unfold rg0 at hk3 hk4
    clear HL1 hb1
    go_wp2_with (first
      | (with_reducible refine wpList_load_row rfl 179 (.tmp 5) rfl (w.heap.size + 1) rfl 179 #[.int .i64 0, .int .i64 0, .int .i64 0, .int .i64 0, .slice none 0 0, .slice none 0 0, .slice none 0 0] (0, 0) _ hk4 Try.underlying179 rfl (rg7 _ _ _ _ _ _ _ _ _ _ _ _ _).1 ?_)
      | (with_reducible refine wpList_store_row rfl 179 (.tmp 2) (.tmp 53) rfl w.heap.size #[.int .i64 0, .int .i64 0, .int .i64 0, .int .i64 0, .slice none 0 0, .slice none 0 0, .slice none 0 0] rfl rfl 179 #[.int .i64 0, .int .i64 0, .int .i64 0, .int .i64 0, .slice none 0 0, .slice none 0 0, .slice none 0 0] hk3 (rg7 _ _ _ _ _ _ _ _ _ _ _ _ _).1 (rg7 _ _ _ _ _ _ _ _ _ _ _ _ _).2.1 (rg7 _ _ _ _ _ _ _ _ _ _ _ _ _).2.2 ?_))
    exact bodyPost_ret (v := .tuple #[.agg rg0, .int .i64 0, .bool false]) (results_three Try.results107 _ _ w.heap.size 179 _ (0, 0) _ rfl rfl rfl KR.out Try.underlying179 rfl (rg7 _ _ _ _ _ _ _ _ _ _ _ _ _).1) rfl ⟨HBl.out, .inl ⟨HF.out, rfl⟩⟩

end Go.Proofs.Ytdaeffnaoeblpaa

/- flat: the document's contours, as a contract over this seat's translation. -/
namespace Go.Proofs.Ytdaeffnaoeblpaa
open Go.RowKit
set_option linter.unusedVariables false
set_option linter.unusedSimpArgs false

theorem Try.rptinfo : (Try.prog.info? 56).map (fun i => (i.zero, i.size, i.bytes)) = some (some (.agg #[.int .i64 0, .int .i64 0, .bool false]), 3, 24) := by kernel_rfl
theorem Try.rptsinfo : (Try.prog.info? 106).map (fun i => (i.zero, i.size, i.bytes)) = some (some (.slice none 0 0), 1, 24) := by kernel_rfl

/-- Behind an append of one contour. -/
theorem AccT.push {tp tq : TypeId} (hne : tp ≠ tq) {w w' : World} {B : Nat} {A A2 : Option Addr} {n c c2 : Nat} {cs : List (List Sp)} {S : List Sl} {M : Option Addr} {m k : Nat} {z : List Sp} (hd : OwnS tq encSl 1 w B A n c S) (hi : InT tp w S cs) (ho : OwnS tq encSl 1 w' B A2 (n + 1) c2 (S ++ [(M, m, k)])) (hg : w.grownBy w' (blockOf A)) (hr : RowS encRp 3 w M m z) (hk : m ≤ k) (ht : ∀ g, blockOf M = some g → Typed w g tp) : AccT tp tq w' B A2 (n + 1) c2 (cs ++ [z]) := by
  have hsame : ∀ g, Typed w g tp → w'.heap[g]? = w.heap[g]? := fun g a => hg.block g a.lt fun e => (a.ne (hd.typed g e.symm) hne) rfl
  exact ⟨_, ho, (hi.keep hg.size hsame).push (hr.keep hg.size fun g hq _ => hsame g (ht g hq)) hk fun g hq => (ht g hq).keep (hsame g (ht g hq))⟩
theorem drop_take_succ {ps : List Sp} {f a : Nat} {p : Sp} (h : ps[a]? = some p) (hf : f ≤ a) : (ps.take (a + 1)).drop f = (ps.take a).drop f ++ [p] := by
  have hl := (List.getElem?_eq_some_iff.1 h).1
  rw [List.take_add_one, h, List.drop_append_of_le_length (by rw [List.length_take]; omega)]
  rfl

set_option maxRecDepth 100000 in
set_option maxHeartbeats 4000000 in
theorem rcont_any (v : RlV) (w : World) (hr : v.rows w) (ho : v.g.ok) (hR : oRight v.g = true) (hq : v.q ≤ 1000000) : Calls Try.prog 109 #[v.val] w fun e w' => ∃ A n c, e = .returned (.slice A n c) ∧ AccT 56 106 w' w.heap.size A n c (ctsG v.g) ∧ Below w.heap.size w w' := by
  obtain ⟨i0, hi, hz0, hz1, hz2⟩ := info_parts Try.rptinfo
  obtain ⟨i1, hi1, hz01, hz11, hz21⟩ := info_parts Try.rptsinfo
  have hA := (Below.refl w.heap.size w).alloc (Nat.le_refl _) (.cells v.cells 179)
  have hk := heap_alloc_new w (.cells v.cells 179)
  obtain ⟨⟨he32, _, hrise, hcnt⟩, _, _⟩ := oRight_parts hR
  have HSeg : Hid (∀ i, i < v.g.es.length → segF v.g.es i < segT v.g.es i ∧ segT v.g.es i ≤ v.g.ps.length) := fun i hi => seg_bounds ho.es hrise hcnt hi
  have HE : Hid (v.g.es.length = v.n) := hr.es.len
  have HS : Hid (v.g.ps.length = v.q) := hr.ps.len
  have Hre := Lib.hid (hr.es.below hA)
  have Hrs := Lib.hid (hr.ps.below hA)
  have HEs := Lib.hid ho.es
  have HG : Hid (∀ i, i < v.g.es.length → (ctsG v.g)[i]? = some (seg v.g.ps v.g.es i)) := fun i hi => ctsG_get hR hi
  have HGl : Hid ((ctsG v.g).length = v.g.es.length) := ctsG_len hR
  clear hr ho hrise hcnt
  unfold RlV.val at *
  unfold RlV.cells at *
  obtain ⟨⟨x0, x1, x2, x3, es, pr, ps⟩, EA, en, ec, PA, pn, pc, SA, sn, sc⟩ := v
  simp only at *
  generalize ctsG ⟨x0, x1, x2, x3, es, pr, ps⟩ = cg at *
  clear hR
  go_enter Try.func109, Try.ntmps109
  go_upto_region 3 with fail
  generalize hW : w.alloc (.cells #[.int .i64 x0, .int .i64 x1, .int .i64 x2, .int .i64 x3, .slice EA en ec, .slice PA pn pc, .slice SA sn sc] 179) = W at *
  obtain ⟨b0, b1, b2, b3, b4, b5, b6⟩ := cells7 hk
  go_wp2_with fail
  clear b0 b1 b2 b3 b4 b5 b6
  go_loopw [3, 4, 11] (fun out a' i' wr => ∃ (j : Nat) (DA : Option Addr) (dc : Nat), j ≤ en ∧ i' = .int .i64 j ∧ a' = .int .i64 (segF es j : Nat) ∧ out = .slice DA j dc ∧ AccT 56 106 wr W.heap.size DA j dc (cg.take j) ∧ Below W.heap.size W wr) (fun _ _ i' _ => en - (intOf i').toNat)
  case atStart => exact ⟨0, none, 0, Nat.zero_le _, rfl, rfl, rfl, AccT.nil _ _, Below.refl _ _⟩
  case round =>
    obtain ⟨j, DA, dc, hj, rfl, rfl, rfl, hacc, hbel⟩ := hrel
    obtain ⟨wo, rfl⟩ : ∃ wo, wo = wr := ⟨_, rfl⟩
    by_cases hlt : j < en
    · obtain ⟨x, hx⟩ := get_some (zs := es) (k := j) (by have := HE.out; omega)
      obtain ⟨u0, u1⟩ := HEs.out x (List.mem_of_getElem? hx)
      obtain ⟨s0, s1⟩ := HSeg.out j (by have := HE.out; omega)
      have hxT : ((segT es j : Nat) : Int) = x + 1 := by
        unfold segT
        rw [show es.getD j 0 = x by simp [hx]]
        omega
      obtain ⟨ge, oe, rfl, hge, hce⟩ := (Hre.out.below hbel).at (cellsOf_get (k := .i64) hx)
      have hgj := HG.out j (by have := HE.out; omega)
      have hFs := segF_succ es j
      have hsT : segT es j ≤ sn := by have := HS.out; omega
      have HxT := Lib.hid hxT
      have hen : en ≤ 32767 := by have := HE.out; omega
      clear hx hxT
      go_wp2_with fail
      generalize hf : segF es j = f at *
      generalize hT : segT es j = T at *
      have hseg : seg ps es j = (ps.take T).drop f := by unfold seg; rw [hT, hf]
      have hne7 : ∀ W', Below wo.heap.size wo W' → W'.heap[w.heap.size]? = some (.cells #[.int .i64 x0, .int .i64 x1, .int .i64 x2, .int .i64 x3, .slice (some ⟨ge, oe, none⟩) en ec, .slice PA pn pc, .slice SA sn sc] 179 (0, 0)) := fun W' h => kept_block (kept_block hk hbel) h
      go_loopw [4, 7] (fun a' l' wr2 => ∃ (a : Nat) (LA : Option Addr) (lc : Nat), f ≤ a ∧ a ≤ T ∧ a' = .int .i64 a ∧ l' = .slice LA (a - f) lc ∧ OwnS 56 encRp 3 wr2 wo.heap.size LA (a - f) lc ((ps.take a).drop f) ∧ Below wo.heap.size wo wr2) (fun a' _ _ => T - (intOf a').toNat)
      case atStart => exact ⟨f, none, 0, Nat.le_refl _, by omega, rfl, by rw [Nat.sub_self], by rw [Nat.sub_self, show (ps.take f).drop f = [] by rw [List.drop_eq_nil_iff]; simp; omega]; exact OwnS.nil _ _ _ _ _, Below.refl _ _⟩
      case round =>
        obtain ⟨a, LA, lc, hfa, haT, rfl, rfl, hown, hb2⟩ := hrel
        have hbW := hbel.trans (hb2.mono hbel.size)
        by_cases hlt2 : a < T
        · have hax : (a : Int) ≤ x := by have := HxT.out; omega
          obtain ⟨p, hp⟩ : ∃ p, ps[a]? = some p := ⟨ps[a]'(by have := HS.out; omega), List.getElem?_eq_getElem (by have := HS.out; omega)⟩
          obtain ⟨gs, os, rfl, hgs, q0, q1, q2⟩ := atRp (Hrs.out.below hbW) hp
          have hds := drop_take_succ hp hfa
          obtain ⟨px, py, po⟩ := p
          simp only at q0 q1 q2
          have hbxr := hne7 wr hb2
          obtain ⟨c0, c1, c2, c3, c4, c5, c6⟩ := cells7 hbxr
          have hi0 : (0 : Int) ≤ (a : Int) := by omega
          have hi1 : (a : Int) < (sn : Int) := by omega
          have hbd := (Below.refl wr.heap.size wr).drew
          have hownd := hown.below hbd
          have hb2d := hb2.drew
          clear hown hb2 hbW hp
          go_upto_region 9 with fail
          have hbx : wr.drew.heap[w.heap.size]? = some (.cells #[.int .i64 x0, .int .i64 x1, .int .i64 x2, .int .i64 x3, .slice (some ⟨ge, oe, none⟩) en ec, .slice PA pn pc, .slice (some ⟨gs, os, none⟩) sn sc] 179 (0, 0)) := hbxr
          have q0' : wr.drew.cell? ⟨gs, os + a * 3, none⟩ = some (.int .i64 px) := q0
          have q1' : wr.drew.cell? ⟨gs, os + a * 3 + 1, none⟩ = some (.int .i64 py) := q1
          have q2' : wr.drew.cell? ⟨gs, os + a * 3 + 2, none⟩ = some (.bool po) := q2
          clear c0 c1 c2 c3 c4 c5 c6 q0 q1 q2 hbxr
          have hx0 : Ext wr.drew wr.drew := Ext.refl _
          refine regT_start 21 (Ext wr.drew) (by kernel_rfl) ?_
          generalize wr.drew = V at *
          refine regT_take (i := 0) (d := some 20) (v := ?_) [] hx0 rfl rfl (by kernel_rfl) (by kernel_rfl) (by kernel_rfl) (by kernel_rfl) (by kernel_rfl) (by decide) (fun _ _ _ h => h) (Or.inl ⟨by rfl, ?_⟩) ?_
          rotate_left
          · intro w' hx; (go_simp <;> with_reducible rfl)
          simp only [Act.put, List.setIfInBounds_toArray, List.set_cons_zero, List.set_cons_succ]
          refine regT_take (i := 1) (d := some 21) (v := ?_) [20, 19, 6, 5, 4, 2] hx0 rfl rfl (by kernel_rfl) (by kernel_rfl) (by kernel_rfl) (by kernel_rfl) (by kernel_rfl) (by decide) (fun _ _ _ h => h) (Or.inl ⟨by rfl, ?_⟩) ?_
          rotate_left
          · intro w' hx; (go_simp <;> with_reducible rfl)
          simp only [Act.put, List.setIfInBounds_toArray, List.set_cons_zero, List.set_cons_succ]
          refine regT_take (i := 2) (d := some 22) (v := ?_) [20, 19, 6, 5, 4] hx0 rfl rfl (by kernel_rfl) (by kernel_rfl) (by kernel_rfl) (by kernel_rfl) (by kernel_rfl) (by decide) (fun _ _ _ h => h) (Or.inl ⟨by rfl, ?_⟩) ?_
          rotate_left
          · intro w' hx; obtain ⟨c0, c1, c2, c3, c4, c5, c6⟩ := cells7 (kept_block hbx hx); (go_simp <;> with_reducible rfl)
          simp only [Act.put, List.setIfInBounds_toArray, List.set_cons_zero, List.set_cons_succ]
          refine regT_take (i := 3) (d := some 23) (v := ?_) [20, 19, 6, 5, 4] hx0 rfl rfl (by kernel_rfl) (by kernel_rfl) (by kernel_rfl) (by kernel_rfl) (by kernel_rfl) (by decide) (fun _ _ _ h => h) (Or.inl ⟨by rfl, ?_⟩) ?_
          rotate_left
          · intro w' hx; (go_simp <;> with_reducible rfl)
          simp only [Act.put, List.setIfInBounds_toArray, List.set_cons_zero, List.set_cons_succ]
          refine regT_take (i := 4) (d := some 24) (v := ?_) [20, 19, 6, 5] hx0 rfl rfl (by kernel_rfl) (by kernel_rfl) (by kernel_rfl) (by kernel_rfl) (by kernel_rfl) (by decide) (fun _ _ _ h => h) (Or.inl ⟨by rfl, ?_⟩) ?_
          rotate_left
          · intro w' hx; (go_simp <;> with_reducible rfl)
          simp only [Act.put, List.setIfInBounds_toArray, List.set_cons_zero, List.set_cons_succ]
          refine regT_take (i := 5) (d := some 25) (v := ?_) [20, 19, 6] hx0 rfl rfl (by kernel_rfl) (by kernel_rfl) (by kernel_rfl) (by kernel_rfl) (by kernel_rfl) (by decide) (fun _ _ _ h => h) (Or.inl ⟨by rfl, ?_⟩) ?_
          rotate_left
          · intro w' hx; (go_simp <;> with_reducible rfl)
          simp only [Act.put, List.setIfInBounds_toArray, List.set_cons_zero, List.set_cons_succ]
          refine regT_take (i := 6) (d := some 26) (v := ?_) [20, 19] hx0 rfl rfl (by kernel_rfl) (by kernel_rfl) (by kernel_rfl) (by kernel_rfl) (by kernel_rfl) (by decide) (fun _ _ _ h => h) (Or.inl ⟨by rfl, ?_⟩) ?_
          rotate_left
          · intro w' hx; have r0 := Ext.cell hx q0'; have r1 := Ext.cell hx q1'; have r2 := Ext.cell hx q2'; (go_simp <;> with_reducible rfl)
          simp only [Act.put, List.setIfInBounds_toArray, List.set_cons_zero, List.set_cons_succ]
          refine regT_take (i := 7) (d := some 27) (v := ?_) [20, 19, 12, 11, 10, 8] hx0 rfl rfl (by kernel_rfl) (by kernel_rfl) (by kernel_rfl) (by kernel_rfl) (by kernel_rfl) (by decide) (fun _ _ _ h => h) (Or.inl ⟨by rfl, ?_⟩) ?_
          rotate_left
          · intro w' hx; (go_simp <;> with_reducible rfl)
          simp only [Act.put, List.setIfInBounds_toArray, List.set_cons_zero, List.set_cons_succ]
          refine regT_take (i := 8) (d := some 28) (v := ?_) [20, 19, 12, 11, 10] hx0 rfl rfl (by kernel_rfl) (by kernel_rfl) (by kernel_rfl) (by kernel_rfl) (by kernel_rfl) (by decide) (fun _ _ _ h => h) (Or.inl ⟨by rfl, ?_⟩) ?_
          rotate_left
          · intro w' hx; obtain ⟨c0, c1, c2, c3, c4, c5, c6⟩ := cells7 (kept_block hbx hx); (go_simp <;> with_reducible rfl)
          simp only [Act.put, List.setIfInBounds_toArray, List.set_cons_zero, List.set_cons_succ]
          refine regT_take (i := 9) (d := some 29) (v := ?_) [20, 19, 12, 11, 10] hx0 rfl rfl (by kernel_rfl) (by kernel_rfl) (by kernel_rfl) (by kernel_rfl) (by kernel_rfl) (by decide) (fun _ _ _ h => h) (Or.inl ⟨by rfl, ?_⟩) ?_
          rotate_left
          · intro w' hx; (go_simp <;> with_reducible rfl)
          simp only [Act.put, List.setIfInBounds_toArray, List.set_cons_zero, List.set_cons_succ]
          refine regT_take (i := 10) (d := some 30) (v := ?_) [20, 19, 12, 11] hx0 rfl rfl (by kernel_rfl) (by kernel_rfl) (by kernel_rfl) (by kernel_rfl) (by kernel_rfl) (by decide) (fun _ _ _ h => h) (Or.inl ⟨by rfl, ?_⟩) ?_
          rotate_left
          · intro w' hx; (go_simp <;> with_reducible rfl)
          simp only [Act.put, List.setIfInBounds_toArray, List.set_cons_zero, List.set_cons_succ]
          refine regT_take (i := 11) (d := some 31) (v := ?_) [20, 19, 12] hx0 rfl rfl (by kernel_rfl) (by kernel_rfl) (by kernel_rfl) (by kernel_rfl) (by kernel_rfl) (by decide) (fun _ _ _ h => h) (Or.inl ⟨by rfl, ?_⟩) ?_
          rotate_left
          · intro w' hx; (go_simp <;> with_reducible rfl)
          simp only [Act.put, List.setIfInBounds_toArray, List.set_cons_zero, List.set_cons_succ]
          refine regT_take (i := 12) (d := some 32) (v := ?_) [20, 19] hx0 rfl rfl (by kernel_rfl) (by kernel_rfl) (by kernel_rfl) (by kernel_rfl) (by kernel_rfl) (by decide) (fun _ _ _ h => h) (Or.inl ⟨by rfl, ?_⟩) ?_
          rotate_left
          · intro w' hx; have r0 := Ext.cell hx q0'; have r1 := Ext.cell hx q1'; have r2 := Ext.cell hx q2'; (go_simp <;> with_reducible rfl)
          simp only [Act.put, List.setIfInBounds_toArray, List.set_cons_zero, List.set_cons_succ]
          refine regT_take (i := 13) (d := some 33) (v := ?_) [20, 19, 18, 17, 16, 14] hx0 rfl rfl (by kernel_rfl) (by kernel_rfl) (by kernel_rfl) (by kernel_rfl) (by kernel_rfl) (by decide) (fun _ _ _ h => h) (Or.inl ⟨by rfl, ?_⟩) ?_
          rotate_left
          · intro w' hx; (go_simp <;> with_reducible rfl)
          simp only [Act.put, List.setIfInBounds_toArray, List.set_cons_zero, List.set_cons_succ]
          refine regT_take (i := 14) (d := some 34) (v := ?_) [20, 19, 18, 17, 16] hx0 rfl rfl (by kernel_rfl) (by kernel_rfl) (by kernel_rfl) (by kernel_rfl) (by kernel_rfl) (by decide) (fun _ _ _ h => h) (Or.inl ⟨by rfl, ?_⟩) ?_
          rotate_left
          · intro w' hx; obtain ⟨c0, c1, c2, c3, c4, c5, c6⟩ := cells7 (kept_block hbx hx); (go_simp <;> with_reducible rfl)
          simp only [Act.put, List.setIfInBounds_toArray, List.set_cons_zero, List.set_cons_succ]
          refine regT_take (i := 15) (d := some 35) (v := ?_) [20, 19, 18, 17, 16] hx0 rfl rfl (by kernel_rfl) (by kernel_rfl) (by kernel_rfl) (by kernel_rfl) (by kernel_rfl) (by decide) (fun _ _ _ h => h) (Or.inl ⟨by rfl, ?_⟩) ?_
          rotate_left
          · intro w' hx; (go_simp <;> with_reducible rfl)
          simp only [Act.put, List.setIfInBounds_toArray, List.set_cons_zero, List.set_cons_succ]
          refine regT_take (i := 16) (d := some 36) (v := ?_) [20, 19, 18, 17] hx0 rfl rfl (by kernel_rfl) (by kernel_rfl) (by kernel_rfl) (by kernel_rfl) (by kernel_rfl) (by decide) (fun _ _ _ h => h) (Or.inl ⟨by rfl, ?_⟩) ?_
          rotate_left
          · intro w' hx; (go_simp <;> with_reducible rfl)
          simp only [Act.put, List.setIfInBounds_toArray, List.set_cons_zero, List.set_cons_succ]
          refine regT_take (i := 17) (d := some 37) (v := ?_) [20, 19, 18] hx0 rfl rfl (by kernel_rfl) (by kernel_rfl) (by kernel_rfl) (by kernel_rfl) (by kernel_rfl) (by decide) (fun _ _ _ h => h) (Or.inl ⟨by rfl, ?_⟩) ?_
          rotate_left
          · intro w' hx; (go_simp <;> with_reducible rfl)
          simp only [Act.put, List.setIfInBounds_toArray, List.set_cons_zero, List.set_cons_succ]
          refine regT_take (i := 18) (d := some 38) (v := ?_) [20, 19] hx0 rfl rfl (by kernel_rfl) (by kernel_rfl) (by kernel_rfl) (by kernel_rfl) (by kernel_rfl) (by decide) (fun _ _ _ h => h) (Or.inl ⟨by rfl, ?_⟩) ?_
          rotate_left
          · intro w' hx; have r0 := Ext.cell hx q0'; have r1 := Ext.cell hx q1'; have r2 := Ext.cell hx q2'; (go_simp <;> with_reducible rfl)
          simp only [Act.put, List.setIfInBounds_toArray, List.set_cons_zero, List.set_cons_succ]
          refine regT_take (i := 19) (d := some 39) (v := ?_) [20] hx0 rfl rfl (by kernel_rfl) (by kernel_rfl) (by kernel_rfl) (by kernel_rfl) (by kernel_rfl) (by decide) (fun _ _ _ h => h) (Or.inl ⟨by rfl, ?_⟩) ?_
          rotate_left
          · intro w' hx; (go_simp <;> with_reducible rfl)
          simp only [Act.put, List.setIfInBounds_toArray, List.set_cons_zero, List.set_cons_succ]
          refine regT_one 20 _ (by kernel_rfl) rfl ?_
          intro K hK
          go_simp
          have hA2 := (Below.refl V.heap.size V).alloc (Nat.le_refl _) (.cells #[.int .i64 px, .int .i64 py, .bool po] 56)
          have hown2 := hownd.below hA2
          have hrow2 : RowS encRp 3 (V.alloc (.cells #[.int .i64 px, .int .i64 py, .bool po] 56)) (some ⟨V.heap.size, 0, none⟩) 1 [(px, py, po)] := rowS_vals encRp_len V 56 [(px, py, po)] _ rfl 1 rfl
          have hb3 := hb2d.trans (hA2.mono hb2d.size)
          refine hK.out _ _ (fun _ => hA2) ?_
          clear hK K hownd hb2d hx0 hbx q0' q1' q2'
          have hsz3 := hb3.size
          refine regT_one 21 _ (by kernel_rfl) rfl ?_
          intro K hK
          refine step_append_rowS rfl (.tmp 20) (.tmp 40) _ rfl 56 encRp 3 encRp_len (by omega) encRp_one wo.heap.size i0 _ 24 Try.underlying106 hi hz0 hz1 rfl hz2 LA (a - f) lc _ rfl hown2 (some ⟨V.heap.size, 0, none⟩) 1 1 [(px, py, po)] rfl hrow2 (by omega) (by omega) hsz3 ?_
          intro A4 c4 w4 hown4 hg4
          rw [← hds] at hown4
          have hb4 := hb3.grown hg4 hb3.size (fun k e => (hown2.from_ k e).1)
          rw [show a - f + 1 = a + 1 - f by omega] at hown4 ⊢
          refine hK.out _ _ (fun h => absurd h (by decide)) ?_
          clear hK K hown2 hrow2 hg4 hb3 hsz3 hds hA2
          simp only [Act.put, List.setIfInBounds_toArray, List.set_cons_zero, List.set_cons_succ]
          refine regT_one 22 _ (by kernel_rfl) rfl ?_
          intro K hK
          go_simp
          refine hK.out _ _ (fun h => absurd h (by decide)) ?_
          clear hK K
          refine regT_done (by kernel_rfl) ?_ _
          go_wp2_with fail
          go_roundw
          case rel => exact ⟨a + 1, A4, c4, by omega, by omega, by go_num, rfl, hown4, hb4⟩
          case measure => simp [intOf]; omega
        · obtain rfl : a = T := by omega
          have hax : ¬ (a : Int) ≤ x := by have := HxT.out; omega
          have hcs : cg.take j ++ [seg ps es j] = cg.take (j + 1) := by rw [List.take_add_one, hgj]; rfl
          rw [hseg] at hcs
          have hA2 := (Below.refl wr.heap.size wr).alloc (Nat.le_refl _) (.cells #[.slice LA (a - f) lc] 106)
          have hacc2 := (hacc.below hb2).below hA2
          have hbW2 := hbW.trans (hA2.mono hbW.size)
          have hrl := (hown.row encRp_len).below hA2
          have htl : ∀ g, blockOf LA = some g → Typed (wr.alloc (.cells #[.slice LA (a - f) lc] 106)) g 56 := fun g hg => (hown.typed g hg).keep (hA2.block g (hown.typed g hg).lt)
          have hcl := hown.cap
          have hrow2 : RowS encSl 1 (wr.alloc (.cells #[.slice LA (a - f) lc] 106)) (some ⟨wr.heap.size, 0, none⟩) 1 [(LA, a - f, lc)] := rowS_vals encSl_len wr 106 [(LA, a - f, lc)] _ rfl 1 rfl
          obtain ⟨S, hSo, hSi⟩ := hacc2
          have HSo := Lib.hid hSo
          have hsw : W.heap.size ≤ wr.heap.size + 1 := by
            have h1 := hbW.size
            omega
          clear hacc hb2 hown hA2 hbW
          go_wp2_with (at_builtin; refine wpList_append_atS rfl (.tmp 42) (.tmp 44) _ rfl 106 encSl 1 encSl_len (by omega) encSl_one W.heap.size i1 _ 24 Try.underlying30 hi1 hz01 hz11 rfl hz21 DA j dc S rfl HSo.out (some ⟨wr.heap.size, 0, none⟩) 1 1 [(LA, a - f, lc)] rfl hrow2 (by omega) (by omega) (by omega) (by simpa using hsw) ?_)
          intro A4 c4 w4 hown4 hg4 _
          have hacc4 := AccT.push (by decide) hSo hSi hown4 hg4 hrl hcl htl
          rw [hcs] at hacc4
          have hb4 := hbW2.grown hg4 hbW2.size (fun k e => (hSo.from_ k e).1)
          clear hSo hSi HSo hown4 hg4 hrl htl hrow2 hbW2 hcs
          go_wp2_with fail
          go_roundw
          case rel => exact ⟨j + 1, A4, c4, by omega, by go_num, by rw [hFs, HxT.out], rfl, hacc4, hb4⟩
          case measure => simp [intOf]; omega
    · obtain rfl : j = en := by omega
      have hcs : cg.take j = cg := List.take_of_length_le (by have := HGl.out; have := HE.out; omega)
      rw [hcs] at hacc
      have hbf := hA.trans (hbel.mono hA.size)
      go_wp2_with fail
      go_ret
      exact ⟨_, _, _, rfl, hacc.mono hA.size, hbf⟩

end Go.Proofs.Ytdaeffnaoeblpaa

/- The document's Right of longer outlines, as a contract over this seat's translation. -/
namespace Go.Proofs.Ytdaeffnaoeblpaa
open Go.RowKit
set_option linter.unusedVariables false

set_option maxRecDepth 100000 in
set_option maxHeartbeats 4000000 in
theorem rright12_mid (v : RlV) (w : World) (hr : v.rows w) (f0 : v.n ≤ 32767) (f1 : v.pn ≤ 65535) (f2 : v.q ≤ 1000000) (ho : v.g.ok) :
    Calls Try.prog 108 #[v.val] w (Ret w (.bool (oRight v.g))) := by
  have hA := (Below.refl w.heap.size w).alloc (Nat.le_refl _) (.cells v.cells 179)
  have hk := heap_alloc_new w (.cells v.cells 179)
  have HE : Hid (v.g.es.length = v.n) := hr.es.len
  have HP : Hid (v.g.pr.length = v.pn) := hr.pr.len
  have HS : Hid (v.g.ps.length = v.q) := hr.ps.len
  have HRt : Hid (oRight v.g = (riseN v.g.es v.n && decide (v.q = cntE v.g.es) && fitL (chs (xsOf v.g.ps)) && fitL (chs (ysOf v.g.ps)))) := by
    show _ = _
    unfold oRight
    rw [HE.out, HP.out, HS.out, decide_eq_true (by omega), decide_eq_true (by omega)]
    simp
  have Hre := Lib.hid hr.es
  have Hrs := Lib.hid hr.ps
  have Ho := Lib.hid ho
  have HEs := Lib.hid ho.es
  have HPs := Lib.hid ho.ps
  have HCn : Hid (cntK v.g.es v.n = (cntE v.g.es : Nat)) := by show _ = _; rw [← HE.out]; exact cntK_len ho.es
  have HB : Hid (∀ k, (-32768 ≤ (ahdP v.g.ps k).1 ∧ (ahdP v.g.ps k).1 ≤ 32767) ∧ (-32768 ≤ (ahdP v.g.ps k).2.1 ∧ (ahdP v.g.ps k).2.1 ≤ 32767)) := fun k => ahdP_bd ho k
  clear hr ho
  unfold RlV.val at *
  unfold RlV.cells at *
  obtain ⟨⟨x0, x1, x2, x3, es, pr, ps⟩, IA, n, ic, PA, pn, pc, QA, q, qc⟩ := v
  simp only at *
  rw [HRt.out]
  go_enter Try.func108, Try.ntmps108
  go_wp2
  go_loop [3, 22] (fun a i' => ∃ k : Nat, k ≤ n ∧ i' = .int .i64 k ∧ a = .int .i64 (cntK es k) ∧ Hid (riseN es k = true)) (fun _ i' => n - (intOf i').toNat)
  case atStart => exact ⟨0, Nat.zero_le _, rfl, rfl, Lib.hid rfl⟩
  case round =>
    obtain ⟨k, hk', rfl, rfl, HR⟩ := hrel
    obtain ⟨c0, c1⟩ := cntK_bd HEs.out k
    by_cases hlt : k < n
    · obtain ⟨x, hx⟩ := get_some (zs := es) (k := k) (by have := HE.out; omega)
      obtain ⟨u0, u1⟩ := HEs.out x (List.mem_of_getElem? hx)
      obtain ⟨g, off, rfl, hg, hc⟩ := (Hre.out.below hA).at (cellsOf_get (k := .i64) hx)
      have HA := Lib.hid (riseA_cnt hx u0)
      have HC := Lib.hid (cntK_succ hx)
      have hgn : g < w.heap.size := by
        obtain ⟨g', off', e', hg', _⟩ := Hre.out.at (cellsOf_get (k := .i64) hx)
        simp only [Option.some.injEq, Addr.mk.injEq, and_true] at e'
        rw [e'.1]
        exact hg'
      have hgn2 : g ≠ w.heap.size := by omega
      clear hx
      by_cases hd : x < cntK es k
      · have HF : Hid (riseN es n = false) := riseN_not (by rw [HA.out, decide_eq_true hd]; rfl) hlt
        rw [HF.out]
        clear HA HC HR
        go_wp2
        go_ret
        exact ⟨rfl, hA⟩
      · have HT : Hid (riseN es (k + 1) = true) := by show _ = _; rw [riseN_succ, HR.out, HA.out, decide_eq_false hd]; rfl
        clear HA HR
        go_wp2
        go_round
        case rel => exact ⟨k + 1, by omega, by go_num, by rw [HC.out], HT⟩
        case measure => simp [intOf]; omega
    · obtain rfl : k = n := by omega
      rw [HCn.out] at c0 c1 ⊢
      have hA2 := hA.alloc hA.size (.cells #[.int .i64 0, .int .i64 0, .bool false] 215)
      have hkb := kept_alloc hk (.cells #[.int .i64 0, .int .i64 0, .bool false] 215)
      have hkl := heap_alloc_new (w.alloc (.cells #[.int .i64 x0, .int .i64 x1, .int .i64 x2, .int .i64 x3, .slice IA k ic, .slice PA pn pc, .slice QA q qc] 179)) (.cells #[.int .i64 0, .int .i64 0, .bool false] 215)
      rw [show (w.alloc (.cells #[.int .i64 x0, .int .i64 x1, .int .i64 x2, .int .i64 x3, .slice IA k ic, .slice PA pn pc, .slice QA q qc] 179)).heap.size = w.heap.size + 1 by simp] at hkl
      go_wp2
      generalize (w.alloc _).alloc _ = V at *
      clear hA hk hlt
      go_loopw [36] (fun i' wr => ∃ j : Nat, j ≤ q ∧ i' = .int .i64 j ∧ wr.heap[w.heap.size + 1]? = some (.cells #[.int .i64 (ahdP ps j).1, .int .i64 (ahdP ps j).2.1, .bool (ahdP ps j).2.2] 215 (0, 0)) ∧ wr.heap[w.heap.size]? = some (.cells #[.int .i64 x0, .int .i64 x1, .int .i64 x2, .int .i64 x3, .slice IA k ic, .slice PA pn pc, .slice QA q qc] 179 (0, 0)) ∧ Below w.heap.size w wr ∧ Hid (∀ m, m < j → fitsB (chA (xsOf ps) m) = true ∧ fitsB (chA (ysOf ps) m) = true)) (fun i' _ => q - (intOf i').toNat)
      case atStart => exact ⟨0, Nat.zero_le _, rfl, hkl, hkb, hA2, Lib.hid (fun m hm => by omega)⟩
      case round =>
        clear hkl hkb hA2
        obtain ⟨j, hj, rfl, hkl, hkb, hbel, HFt⟩ := hrel
        by_cases hlt : j < q
        · obtain ⟨p, hp⟩ : ∃ p, ps[j]? = some p := ⟨ps[j]'(by have := HS.out; omega), List.getElem?_eq_getElem (by have := HS.out; omega)⟩
          obtain ⟨⟨u0, u1⟩, ⟨u2, u3⟩⟩ := HPs.out p (List.mem_of_getElem? hp)
          obtain ⟨⟨v0, v1⟩, ⟨v2, v3⟩⟩ := HB.out j
          obtain ⟨g, off, rfl, hg, q0, q1, q2⟩ := atRp (Hrs.out.below hbel) hp
          have HCx := Lib.hid (chA_xs hp)
          have HCy := Lib.hid (chA_ys hp)
          have HAh := Lib.hid (ahdP_succ hp)
          have HNx : Hid (fitsB (chA (xsOf ps) j) = false → fitL (chs (xsOf ps)) = false) := fun h => fitL_not (by rw [xsOf_len, HS.out]; exact hlt) h
          have HNy : Hid (fitsB (chA (ysOf ps) j) = false → fitL (chs (ysOf ps)) = false) := fun h => fitL_not (by rw [ysOf_len, HS.out]; exact hlt) h
          rw [HCx.out] at HNx
          rw [HCy.out] at HNy
          obtain ⟨px, py, po⟩ := p
          simp only at q0 q1 q2 u0 u1 u2 u3 HCx HCy HNx HNy
          have hA3 := (Below.refl wr.heap.size wr).alloc (Nat.le_refl _) (.cells #[.int .i64 px, .int .i64 py, .bool po] 215)
          have hkl2 := kept_block hkl hA3
          have hkb2 := kept_block hkb hA3
          have hkp2 := heap_alloc_new wr (.cells #[.int .i64 px, .int .i64 py, .bool po] 215)
          have hbel2 := hbel.trans (hA3.mono hbel.size)
          have hln : w.heap.size + 1 ≠ wr.heap.size := by have := lt_of_block hkl; omega
          have hln2 : wr.heap.size ≠ w.heap.size + 1 := fun e => hln e.symm
          have hgn : g ≠ wr.heap.size := by omega
          clear hp hkl hkb hbel hA3
          generalize hap : ahdP ps j = a at *
          obtain ⟨ax, ay, ao⟩ := a
          simp only at *
          have HFx := Lib.hid (fun W => rwithin_any (px - ax) W)
          have HFy := Lib.hid (fun W => rwithin_any (py - ay) W)
          have l0 := cell_of_row _ _ 0 _ _ _ hkl2
          have l1 := cell_of_row _ _ 1 _ _ _ hkl2
          have l2 := cell_of_row _ _ 2 _ _ _ hkl2
          simp only [List.getElem?_toArray, List.getElem?_cons_zero, List.getElem?_cons_succ] at l0 l1 l2
          have fz := thawed hkl2
          have hb1 := hbel2.setCell (p := ⟨w.heap.size + 1, 0, none⟩) (by simp) (.int .i64 px)
          have hb2 := hb1.setCell (p := ⟨w.heap.size + 1, 1, none⟩) (by simp) (.int .i64 py)
          have hb3 := Lib.hid (hb2.setCell (p := ⟨w.heap.size + 1, 2, none⟩) (by simp) (.bool po))
          have hl3 := Lib.hid (set_block (set_block (set_block hkl2 0 (.int .i64 px)) 1 (.int .i64 py)) 2 (.bool po))
          have hk3 : Hid (((((wr.alloc (.cells #[.int .i64 px, .int .i64 py, .bool po] 215)).setCell ⟨w.heap.size + 1, 0, none⟩ (.int .i64 px)).setCell ⟨w.heap.size + 1, 1, none⟩ (.int .i64 py)).setCell ⟨w.heap.size + 1, 2, none⟩ (.bool po)).heap[w.heap.size]? = some (.cells #[.int .i64 x0, .int .i64 x1, .int .i64 x2, .int .i64 x3, .slice IA k ic, .slice PA pn pc, .slice (some ⟨g, off, none⟩) q qc] 179 (0, 0))) := by
            show _ = _
            rw [Below.heap_setCell _ _ _ _ (show w.heap.size ≠ w.heap.size + 1 by omega), Below.heap_setCell _ _ _ _ (show w.heap.size ≠ w.heap.size + 1 by omega), Below.heap_setCell _ _ _ _ (show w.heap.size ≠ w.heap.size + 1 by omega)]
            exact hkb2
          have HBel2 := Lib.hid hbel2
          have Hap := Lib.hid hap
          clear hb1 hb2 hbel2 hkl2 hkb2 hkp2 hap
          go_wp2_with fail
          with_reducible refine (HFx.out _).mono ?_
          rintro e w3 ⟨rfl, rfl⟩
          cases hfx : fitsB (px - ax) with
          | false =>
            have HN := Lib.hid (HNx.out hfx)
            clear HNx HNy hfx
            go_wp2
            go_ret
            exact ⟨by rw [HN.out]; simp, HBel2.out⟩
          | true =>
            go_wp2_with fail
            with_reducible refine (HFy.out _).mono ?_
            rintro e w3 ⟨rfl, rfl⟩
            cases hfy : fitsB (py - ay) with
            | false =>
              have HN := Lib.hid (HNy.out hfy)
              clear HNx HNy hfx hfy
              go_wp2
              go_ret
              exact ⟨by rw [HN.out]; simp, HBel2.out⟩
            | true =>
              have HFt2 : Hid (∀ m, m < j + 1 → fitsB (chA (xsOf ps) m) = true ∧ fitsB (chA (ysOf ps) m) = true) := fun m hm => by
                rcases Nat.lt_or_ge m j with h | h
                · exact HFt.out m h
                · obtain rfl : m = j := by omega
                  rw [HCx.out, HCy.out]
                  exact ⟨hfx, hfy⟩
              clear HNx HNy hfx hfy HFt HCx HCy
              go_wp2
              go_roundw
              case rel => exact ⟨j + 1, by omega, by go_num, by rw [HAh.out]; exact hl3.out, hk3.out, hb3.out, HFt2⟩
              case measure => simp [intOf]; omega
        · obtain rfl : j = q := by omega
          have HFx : Hid (fitL (chs (xsOf ps)) = true) := fitL_of (fun m hm => (HFt.out m (by rw [xsOf_len, HS.out] at hm; exact hm)).1)
          have HFy : Hid (fitL (chs (ysOf ps)) = true) := fitL_of (fun m hm => (HFt.out m (by rw [ysOf_len, HS.out] at hm; exact hm)).2)
          have c6 : wr.cell? ⟨w.heap.size, 6, none⟩ = some (.slice QA j qc) := cell_of_row wr _ 6 _ _ _ hkb
          have HBel2 := Lib.hid hbel
          clear hkl hkb hbel
          by_cases hc : j = cntE es
          · have e1 : ((j : Int) == (cntE es : Nat)) = true := by simp [hc]
            have HD : Hid (decide (j = cntE es) = true) := decide_eq_true hc
            generalize cntE es = cn at *
            clear hc
            go_wp2
            go_ret
            exact ⟨by rw [HR.out, HD.out, HFx.out, HFy.out]; simp, HBel2.out⟩
          · have e1 : ((j : Int) == (cntE es : Nat)) = false := by simp; omega
            have HD : Hid (decide (j = cntE es) = false) := decide_eq_false hc
            generalize cntE es = cn at *
            clear hc
            go_wp2
            go_ret
            exact ⟨by rw [HR.out, HD.out, HFx.out, HFy.out]; simp, HBel2.out⟩

end Go.Proofs.Ytdaeffnaoeblpaa

/- The document's Apply, as a contract over this seat's translation. -/
namespace Go.Proofs.Ytdaeffnaoeblpaa
open Go.RowKit
set_option linter.unusedVariables false

set_option maxRecDepth 100000 in
set_option maxHeartbeats 1000000 in
theorem rapply_any (a b c d x y : Int) (on : Bool) (dx dy : Int) (w : World) (a0 : -32768 ≤ a) (a1 : a ≤ 32767) (b0 : -32768 ≤ b) (b1 : b ≤ 32767) (c0 : -32768 ≤ c) (c1 : c ≤ 32767) (d0 : -32768 ≤ d) (d1 : d ≤ 32767)
    (x0 : -70368744177664 ≤ x) (x1 : x ≤ 70368744177664) (y0 : -70368744177664 ≤ y) (y1 : y ≤ 70368744177664) (u0 : -70368744177664 ≤ dx) (u1 : dx ≤ 70368744177664) (v0 : -70368744177664 ≤ dy) (v1 : dy ≤ 70368744177664) :
    Calls Try.prog 23 #[.agg #[.int .i64 a, .int .i64 b, .int .i64 c, .int .i64 d], ptV x y on, .int .i64 dx, .int .i64 dy] w fun e w' => e = .returned (ptV (rnd (a * x + c * y) + dx) (rnd (b * x + d * y) + dy) on) ∧ Below w.heap.size w w' := by
  obtain ⟨p0, p1⟩ := mul_bd a x a0 a1 x0 x1
  obtain ⟨q0, q1⟩ := mul_bd c y c0 c1 y0 y1
  obtain ⟨r0, r1⟩ := mul_bd b x b0 b1 x0 x1
  obtain ⟨s0, s1⟩ := mul_bd d y d0 d1 y0 y1
  have e1 : IntKind.i64.wrap (a * x) = a * x := IntWalk.i64_in _ (by omega)
  have e2 : IntKind.i64.wrap (c * y) = c * y := IntWalk.i64_in _ (by omega)
  have e3 : IntKind.i64.wrap (b * x) = b * x := IntWalk.i64_in _ (by omega)
  have e4 : IntKind.i64.wrap (d * y) = d * y := IntWalk.i64_in _ (by omega)
  have e5 : IntKind.i64.wrap (a * x + c * y) = a * x + c * y := IntWalk.i64_in _ (by omega)
  have e6 : IntKind.i64.wrap (b * x + d * y) = b * x + d * y := IntWalk.i64_in _ (by omega)
  have g1 : -562949953421312 ≤ rnd (a * x + c * y) ∧ rnd (a * x + c * y) ≤ 562949953421312 := by unfold rnd; omega
  have g2 : -562949953421312 ≤ rnd (b * x + d * y) ∧ rnd (b * x + d * y) ≤ 562949953421312 := by unfold rnd; omega
  have e7 : IntKind.i64.wrap (rnd (a * x + c * y) + dx) = rnd (a * x + c * y) + dx := IntWalk.i64_in _ (by omega)
  have e8 : IntKind.i64.wrap (rnd (b * x + d * y) + dy) = rnd (b * x + d * y) + dy := IntWalk.i64_in _ (by omega)
  have k1 := fun W => rround_any (a * x + c * y) W (by omega) (by omega)
  have k2 := fun W => rround_any (b * x + d * y) W (by omega) (by omega)
  have K1 := Lib.hid k1
  have K2 := Lib.hid k2
  clear k1 k2
  go_enter Try.func23, Try.ntmps23
  go_wp2_with fail
  refine region_tail 31 (by kernel_rfl) (by kernel_rfl) ?_
  simp only [List.take_succ_cons, List.take_zero, List.drop_succ_cons, List.drop_zero]
  repeat still_step
  still_call (K1.out _)
  repeat still_step
  still_call (K2.out _)
  repeat still_step
  refine wpStill_nil ?_
  go_wp2
  refine bodyPost_ret (v := ptV (rnd (a * x + c * y) + dx) (rnd (b * x + d * y) + dy) on) (by simp [results, Try.results23, go_sem]) rfl ⟨rfl, ?_⟩
  exact ((((Below.refl _ _).alloc (Nat.le_refl _) _).alloc (by simp) _).alloc (by simp; omega) _).drew

end Go.Proofs.Ytdaeffnaoeblpaa
