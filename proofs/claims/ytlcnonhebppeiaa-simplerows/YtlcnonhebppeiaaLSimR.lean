/- The law SimpleRows. -/
import Derived.Test.YtlcnonhebppeiaaSimW2
import Derived.Test.YtlcnonhebppeiaaSimE2
import Derived.Test.YtlcnonhebppeiaaSimV3
namespace Go.Proofs.Ytlcnonhebppeiaa
open Go.RowKit
set_option linter.unusedVariables false

/-- Points that go on alike. -/
def rowsP (x y : Int) (on : Bool) (k : Nat) : List Sp := (List.range k).map fun (i : Nat) => (x * ((i : Int) + 1), y * ((i : Int) + 1), on)
theorem rowsP_len (x y : Int) (on : Bool) (k : Nat) : (rowsP x y on k).length = k := by simp [rowsP]
theorem rowsP_succ (x y : Int) (on : Bool) (k : Nat) : rowsP x y on (k + 1) = rowsP x y on k ++ [(x * ((k : Int) + 1), y * ((k : Int) + 1), on)] := by simp [rowsP, List.range_succ]
theorem rowsP_get (x y : Int) (on : Bool) {k i : Nat} (h : i < k) : (rowsP x y on k)[i]? = some (x * ((i : Int) + 1), y * ((i : Int) + 1), on) := by simp [rowsP, h]
theorem mul_step (x : Int) (i : Nat) : x * (((i + 1 : Nat) : Int) + 1) - x * ((i : Int) + 1) = x := by
  rw [← Int.mul_sub]
  have : (((i + 1 : Nat) : Int) + 1) - ((i : Int) + 1) = 1 := by omega
  rw [this, Int.mul_one]
theorem rows_chx (x y : Int) (on : Bool) {k i : Nat} (h : i < k) : chA (xsOf (rowsP x y on k)) i = x := by
  unfold chA
  rw [xsOf_get (rowsP_get x y on h)]
  cases i with
  | zero => simp
  | succ i => rw [if_neg (by omega), Nat.add_sub_cancel, xsOf_get (rowsP_get x y on (show i < k by omega))]; exact mul_step x i
theorem rows_chy (x y : Int) (on : Bool) {k i : Nat} (h : i < k) : chA (ysOf (rowsP x y on k)) i = y := by
  unfold chA
  rw [ysOf_get (rowsP_get x y on h)]
  cases i with
  | zero => simp
  | succ i => rw [if_neg (by omega), Nat.add_sub_cancel, ysOf_get (rowsP_get x y on (show i < k by omega))]; exact mul_step y i
theorem map_range_const {α : Type} (f : Nat → α) (c : α) (k : Nat) (h : ∀ i, i < k → f i = c) : (List.range k).map f = List.replicate k c := by
  apply List.ext_getElem?
  intro i
  by_cases hi : i < k
  · simp [hi, h i hi]
  · rw [List.getElem?_eq_none (by simp; omega), List.getElem?_eq_none (by simp; omega)]
theorem rows_chs (x y : Int) (on : Bool) (k : Nat) : chs (xsOf (rowsP x y on k)) = List.replicate k x ∧ chs (ysOf (rowsP x y on k)) = List.replicate k y := by
  constructor
  · unfold chs chK
    rw [xsOf_len, rowsP_len]
    exact map_range_const _ _ _ fun i hi => rows_chx x y on hi
  · unfold chs chK
    rw [ysOf_len, rowsP_len]
    exact map_range_const _ _ _ fun i hi => rows_chy x y on hi
theorem rows_fls (x y : Int) (on : Bool) (k : Nat) : fls (rowsP x y on k) = List.replicate k (flagOf x y on) := by
  unfold fls flK
  rw [rowsP_len]
  refine map_range_const _ _ _ fun i hi => ?_
  unfold flA
  rw [rows_chx x y on hi, rows_chy x y on hi, List.getD_eq_getElem?_getD, rowsP_get x y on hi]
  rfl
theorem rle_replicate (f : Int) {k : Nat} (h0 : 0 < k) (h1 : k ≤ 256) : (rle (List.replicate k f)).length = if k = 1 then 1 else 2 := by
  have hne : List.replicate k f ≠ [] := by intro h; have := congrArg List.length h; simp at this; omega
  have hhd : (List.replicate k f).headD 0 = f := by cases k with
    | zero => omega
    | succ k => rfl
  have hr : rowOf (List.replicate k f) = k := rowOf_of h1 (by simp) (fun i hi => by rw [hhd]; simp [hi]) (.inr (.inl (by simp)))
  rw [rle_step hne, hr, List.drop_of_length_le (by simp), rle_nil, List.append_nil]
  unfold rleHead
  rw [hr]
  split <;> simp
theorem cbs_replicate (d : Int) (k : Nat) : (cbs (List.replicate k d)).length = k * (cb d).length := by
  induction k with
  | zero => simp [cbs]
  | succ k ih =>
    unfold cbs at *
    rw [List.replicate_succ, List.flatMap_cons, List.length_append, ih, Nat.succ_mul]
    omega
theorem cb_small {d : Int} (h0 : -128 ≤ d) (h1 : d ≤ 127) : (cb d).length = if d = 0 then 0 else 1 := by
  unfold cb
  split
  · rfl
  · rw [if_pos (by omega)]
    rfl
def rowsG (x y : Int) (on : Bool) (k : Nat) : Gl := ⟨0, 0, 0, 0, [(k : Int) - 1], [], rowsP x y on k⟩
theorem mul_bd8 {x : Int} {i : Nat} (h0 : -128 ≤ x) (h1 : x ≤ 127) (hi : i < 120) : -16000 ≤ x * ((i : Int) + 1) ∧ x * ((i : Int) + 1) ≤ 16000 := by
  have a : x.natAbs ≤ 128 := by omega
  have b : ((i : Int) + 1).natAbs ≤ 120 := by omega
  have c : (x * ((i : Int) + 1)).natAbs ≤ 128 * 120 := by
    rw [Int.natAbs_mul]
    exact Nat.mul_le_mul a b
  omega
theorem rowsG_ok {x y : Int} (on : Bool) {k : Nat} (x0 : -128 ≤ x) (x1 : x ≤ 127) (y0 : -128 ≤ y) (y1 : y ≤ 127) (h0 : 0 < k) (h1 : k ≤ 120) : (rowsG x y on k).ok := by
  refine ⟨by simp [Gl.box, rowsG], fun z hz => by simp [rowsG] at hz; omega, (fun z hz => by cases hz), fun p hp => ?_⟩
  simp only [rowsG, rowsP, List.mem_map, List.mem_range] at hp
  obtain ⟨i, hi, rfl⟩ := hp
  have a := mul_bd8 (i := i) x0 x1 (by omega)
  have b := mul_bd8 (i := i) y0 y1 (by omega)
  simp only
  omega
theorem rowsG_right {x y : Int} (on : Bool) {k : Nat} (x0 : -128 ≤ x) (x1 : x ≤ 127) (y0 : -128 ≤ y) (y1 : y ≤ 127) (h0 : 0 < k) (h1 : k ≤ 120) : oRight (rowsG x y on k) = true := by
  obtain ⟨e1, e2⟩ := rows_chs x y on k
  have f1 : fitsB x = true := fitsB_of (by omega) (by omega)
  have f2 : fitsB y = true := fitsB_of (by omega) (by omega)
  unfold oRight rowsG
  simp only
  rw [e1, e2]
  simp [fitL, f1, f2, rowsP_len, cntE, riseN, riseA]
  omega
theorem rowsG_len {x y : Int} (on : Bool) {k : Nat} (x0 : -128 ≤ x) (x1 : x ≤ 127) (y0 : -128 ≤ y) (y1 : y ≤ 127) (h0 : 0 < k) (h1 : k ≤ 120) :
    (oB (rowsG x y on k)).length = 14 + (if k = 1 then 1 else 2) + ((if x = 0 then 0 else 1) + (if y = 0 then 0 else 1)) * k := by
  obtain ⟨e1, e2⟩ := rows_chs x y on k
  unfold oB
  rw [List.length_append, List.length_append, List.length_append, oFront_len]
  unfold rowsG
  simp only
  rw [e1, e2, rows_fls, rle_replicate _ h0 (by omega), cbs_replicate, cbs_replicate, cb_small x0 x1, cb_small y0 y1, Nat.add_mul, Nat.mul_comm k, Nat.mul_comm k]
  simp
  omega

/-- A block of an outline under way, with fresh points. -/
structure PW (w wr : World) (bx : Nat) (cs : Array Value) (QA : Option Addr) (q qc : Nat) (ps : List Sp) : Prop where
  box : wr.heap[bx]? = some (.cells cs 29 (0, 0))
  qa : OwnS 60 encSp 3 wr w.heap.size QA q qc ps
  bel : Below w.heap.size w wr
  lx : w.heap.size ≤ bx
theorem ownS_neP {α : Type} {t t' : TypeId} {enc : α → List Value} {k : Nat} {w : World} {B g n c : Nat} {A : Option Addr} {l : List α} {cur : Array Value} (h : OwnS t enc k w B A n c l) (h' : w.heap[g]? = some (.cells cur t' (0, 0))) (ht : t ≠ t') : ∀ q, blockOf A = some q → q ≠ g := by
  intro q hq
  rintro rfl
  rcases h.shape with ⟨rfl, _⟩ | ⟨g', cur, rfl, _, _, hh, _⟩
  · simp [blockOf] at hq
  · simp [blockOf] at hq
    subst hq
    rw [hh] at h'
    simp at h'
    exact ht h'.2
section
variable {w wr w' : World} {bx : Nat} {cs : Array Value} {QA : Option Addr} {q qc : Nat} {ps : List Sp}
theorem PW.below (h : PW w wr bx cs QA q qc ps) (hb : Below wr.heap.size wr w') : PW w w' bx cs QA q qc ps := ⟨kept_block h.box hb, h.qa.below hb, h.bel.trans (hb.mono h.bel.size), h.lx⟩
theorem PW.set (h : PW w wr bx cs QA q qc ps) (j : Nat) (v : Value) : PW w (wr.setCell ⟨bx, j, none⟩ v) bx (cs.setIfInBounds j v) QA q qc ps :=
  ⟨set_block h.box j v, h.qa.keep (fun g e => Below.heap_setCell wr _ v _ (ownS_neP h.qa h.box (by decide) g e)), h.bel.setCell (p := ⟨bx, j, none⟩) h.lx v, h.lx⟩
theorem PW.app (h : PW w wr bx cs QA q qc ps) {A2 : Option Addr} {n2 c2 : Nat} {ps2 : List Sp} (ho : OwnS 60 encSp 3 w' w.heap.size A2 n2 c2 ps2) (hg : wr.grownBy w' (blockOf QA)) : PW w w' bx cs A2 n2 c2 ps2 :=
  ⟨(hg.block bx (lt_of_block h.box) (fun e => ownS_neP h.qa h.box (by decide) bx e.symm rfl)).trans h.box, ho, h.bel.grown hg h.bel.size (fun g e => (h.qa.from_ g e).1), h.lx⟩
theorem PW.cell (h : PW w wr bx cs QA q qc ps) (j : Nat) (v : Value) (hq : cs[j]? = some v) : wr.cell? ⟨bx, j, none⟩ = some v := (cell_of_row wr _ j _ _ _ h.box).trans hq
theorem PW.thaw (h : PW w wr bx cs QA q qc ps) (o : Nat) : wr.frozen? ⟨bx, o, none⟩ = false := thawed h.box o
end

set_option maxRecDepth 100000 in
set_option maxHeartbeats 8000000 in
theorem law_SimpleRows (n x y : Int) (on : Bool) (w : World) (n0 : 0 ≤ n) (n1 : n ≤ 255) (x0 : -128 ≤ x) (x1 : x ≤ 127) (y0 : -128 ≤ y) (y1 : y ≤ 127) :
    Calls Try.prog 8 #[.int .u8 n, .int .i8 x, .int .i8 y, .bool on] w (True_ w) := by
  obtain ⟨i1, hi1, hz01, hz11, hz21⟩ := info_parts Try.spinfo
  obtain ⟨k, hk⟩ : ∃ k : Nat, 1 + n % 120 = (k : Int) := ⟨(1 + n % 120).toNat, by omega⟩
  have k0 : 0 < k := by omega
  have k1 : k ≤ 120 := by omega
  have HLen := Lib.hid (rowsG_len (x := x) (y := y) on x0 x1 y0 y1 k0 k1)
  have HOk := Lib.hid (rowsG_ok (x := x) (y := y) on x0 x1 y0 y1 k0 k1)
  have HRt := Lib.hid (rowsG_right (x := x) (y := y) on x0 x1 y0 y1 k0 k1)
  have HMx : Hid (∀ i : Nat, i < 120 → -16000 ≤ x * ((i : Int) + 1) ∧ x * ((i : Int) + 1) ≤ 16000) := fun i hi => mul_bd8 x0 x1 hi
  have HMy : Hid (∀ i : Nat, i < 120 → -16000 ≤ y * ((i : Int) + 1) ∧ y * ((i : Int) + 1) ≤ 16000) := fun i hi => mul_bd8 y0 y1 hi
  have HAw := Lib.hid (awake12_any w)
  go_enter Try.func8, Try.ntmps8
  go_wp2_with fail
  with_reducible refine HAw.out.mono ?_
  rintro e w0 ⟨rfl, hb0⟩
  have hA := (Below.refl w0.heap.size w0).alloc (Nat.le_refl _) (.cells glZ 29)
  have hs : PW w (w0.alloc (.cells glZ 29)) w0.heap.size glZ none 0 0 [] := ⟨heap_alloc_new _ _, OwnS.nil _ _ _ _ _, hb0.trans (hA.mono hb0.size), hb0.size⟩
  clear HAw hA hb0
  unfold glZ at hs
  go_wp2
  generalize w0.alloc _ = V at *
  generalize w0.heap.size = bx at *
  clear hk
  go_loopw [25] (fun i' wr => ∃ (j : Nat) (QA : Option Addr) (qc : Nat), j ≤ k ∧ i' = .int .i64 j ∧ PW w wr bx #[.int .i16 0, .int .i16 0, .int .i16 0, .int .i16 0, .slice none 0 0, .slice none 0 0, .slice QA j qc] QA j qc (rowsP x y on j)) (fun i' _ => k - (intOf i').toNat)
  case atStart => exact ⟨0, none, 0, Nat.zero_le _, rfl, hs⟩
  case round =>
    clear hs
    obtain ⟨j, QA, qc, hj, rfl, hs⟩ := hrel
    have hsz := hs.bel.size
    by_cases hlt : j < k
    · obtain ⟨a0, a1⟩ := HMx.out j (by omega)
      obtain ⟨a2, a3⟩ := HMy.out j (by omega)
      have HT := Lib.hid (rowsP_succ x y on j)
      have c6 := hs.cell 6 _ rfl
      have hA2 := (Below.refl wr.heap.size wr).alloc (Nat.le_refl _) (.cells #[.int .i16 (x * ((j : Int) + 1)), .int .i16 (y * ((j : Int) + 1)), .bool on] 60)
      have hs2 := hs.below hA2
      have hrow := rowS_vals encSp_len wr 60 [(x * ((j : Int) + 1), y * ((j : Int) + 1), on)] #[.int .i16 (x * ((j : Int) + 1)), .int .i16 (y * ((j : Int) + 1)), .bool on] rfl 1 rfl
      clear hs hA2
      generalize hpx : x * ((j : Int) + 1) = px at a0 a1 HT hs2 hrow
      generalize hpy : y * ((j : Int) + 1) = py at a2 a3 HT hs2 hrow
      have e1 : IntKind.i16.wrap (x * ((j : Int) + 1)) = px := by rw [hpx]; exact IntWalk.i16_in _ (by omega)
      have e2 : IntKind.i16.wrap (y * ((j : Int) + 1)) = py := by rw [hpy]; exact IntWalk.i16_in _ (by omega)
      have Hpx := Lib.hid hpx
      have Hpy := Lib.hid hpy
      clear hpx hpy
      go_wp2_with (at_builtin; refine wpList_append_rowS rfl (.tmp 29) (.tmp 44) _ rfl 60 encSp 3 encSp_len (by omega) encSp_one w.heap.size i1 _ 6 Try.underlying24 hi1 hz01 hz11 rfl hz21 QA j qc _ rfl hs2.qa (some ⟨wr.heap.size, 0, none⟩) 1 1 [(px, py, on)] rfl hrow (by omega) (by omega) (by simp; omega) ?_; intro A3 c3 w1 hown1 hg1; have hs3 := hs2.app hown1 hg1; have c6' := hs3.cell 6 _ rfl; have f6' := hs3.thaw 6)
      rw [← HT.out] at hs3
      have hs4 : PW w (w1.setCell ⟨bx, 6, none⟩ (.slice A3 (j + 1) c3)) bx #[.int .i16 0, .int .i16 0, .int .i16 0, .int .i16 0, .slice none 0 0, .slice none 0 0, .slice A3 (j + 1) c3] A3 (j + 1) c3 (rowsP x y on (j + 1)) := hs3.set 6 (.slice A3 (j + 1) c3)
      clear hs2 hs3 hown1 hg1 c6' f6' c6 hrow
      go_roundw
      case rel => exact ⟨j + 1, A3, c3, by omega, by go_num, hs4⟩
      case measure => simp [intOf]; omega
    · obtain rfl : j = k := by omega
      have hA2 := (Below.refl wr.heap.size wr).alloc (Nat.le_refl _) (.cells #[.int .u16 ((j : Int) - 1)] 54)
      have hs2 := hs.below hA2
      have hre := row_one wr .u16 ((j : Int) - 1) 54
      have c4 := hs2.cell 4 _ rfl
      have f4 := hs2.thaw 4
      have hs3 : PW w ((wr.alloc (.cells #[.int .u16 ((j : Int) - 1)] 54)).setCell ⟨bx, 4, none⟩ (.slice (some ⟨wr.heap.size, 0, none⟩) 1 1)) bx #[.int .i16 0, .int .i16 0, .int .i16 0, .int .i16 0, .slice (some ⟨wr.heap.size, 0, none⟩) 1 1, .slice none 0 0, .slice QA j qc] QA j qc (rowsP x y on j) := hs2.set 4 _
      have hrow : GlV.rows ((wr.alloc (.cells #[.int .u16 ((j : Int) - 1)] 54)).setCell ⟨bx, 4, none⟩ (.slice (some ⟨wr.heap.size, 0, none⟩) 1 1)) ⟨rowsG x y on j, some ⟨wr.heap.size, 0, none⟩, 1, 1, none, 0, 0, QA, j, qc⟩ := by
        refine ⟨hre.keep (by simp [World.setCell]) (fun g e _ => Below.heap_setCell _ _ _ _ ?_), Row.empty _ _, hs3.qa.row encSp_len⟩
        simp [blockOf] at e
        subst e
        have := lt_of_block hs.box
        show wr.heap.size ≠ bx
        omega
      have hbn : bx ≠ wr.heap.size := by have := lt_of_block hs.box; omega
      clear hs hA2 hs2 hre
      have HB : Hid (Calls Try.prog 18 #[.agg #[.int .i16 0, .int .i16 0, .int .i16 0, .int .i16 0, .slice (some ⟨wr.heap.size, 0, none⟩) 1 1, .slice none 0 0, .slice QA j qc]] ((wr.alloc (.cells #[.int .u16 ((j : Int) - 1)] 54)).setCell ⟨bx, 4, none⟩ (.slice (some ⟨wr.heap.size, 0, none⟩) 1 1)) (RetB ((wr.alloc (.cells #[.int .u16 ((j : Int) - 1)] 54)).setCell ⟨bx, 4, none⟩ (.slice (some ⟨wr.heap.size, 0, none⟩) 1 1)) (oB (rowsG x y on j)))) := by
        have := obytes_any _ _ hrow ⟨by show (1 : Nat) ≤ 10000; omega, by show (0 : Nat) ≤ 10000; omega, by show j ≤ 10000; omega⟩ HOk.out
        unfold oBytes at this
        rw [if_pos HRt.out] at this
        exact this
      obtain ⟨b0, b1, b2, b3, b4, b5, b6⟩ := cells7 hs3.box
      have HPar := Lib.hid (oParse_oB (rowsG x y on j) HOk.out HRt.out)
      have HByt : Hid (Bytes (oB (rowsG x y on j))) := oB_bytes _ (fun x hx => by cases hx)
      clear hlt hj
      by_cases hx : x = 0
      · have HLx : Hid ((if x = 0 then 0 else 1 : Nat) = 0) := if_pos hx
        have ex : (x != 0) = false := by simp [hx]
        clear hx
        by_cases hy : y = 0
        · have HLy : Hid ((if y = 0 then 0 else 1 : Nat) = 0) := if_pos hy
          have ey : (y != 0) = false := by simp [hy]
          clear hy
          by_cases hj1 : j = 1
          · skip
            have HL2 : Hid ((oB (rowsG x y on j)).length = 15 + 0 * j) := by show _ = _; rw [HLen.out, HLx.out, HLy.out, if_pos hj1]
            have hle : j ≤ 1 := by omega
            have hgt : decide ((1 : Int) < (j : Int)) = false := by simp [hj1]
            clear hj1
            go_wp2_with fail
            with_reducible refine HB.out.mono ?_
            rintro e w5 ⟨A5, n5, c5, rfl, ho5, hb5⟩
            have hs5 := hs3.below hb5
            have hrow5 := hrow.below hb5
            have hl5 : n5 = 15 + 0 * j := by rw [← HL2.out]; exact ho5.len.symm
            have Hl5 := Lib.hid hl5
            have hn5 : n5 ≤ 1000 := by omega
            have q0 : ((n5 : Int) == 15) = true := by simp [hl5]
            have HP := Lib.hid (oparse_any A5 n5 c5 _ w5 ho5.row HByt.out (by omega) ho5.cap)
            clear hs3 hrow b0 b1 b2 b3 b4 b5 b6 HB hl5
            go_wp2_with fail
            with_reducible refine HP.out.mono ?_
            rintro e w6 ⟨hb6, ⟨hno, rfl⟩ | ⟨g, a, v, hyes, rfl, hrv, hvg⟩⟩
            · rw [HPar.out] at hno
              cases hno
            · rw [HPar.out] at hyes
              simp only [Option.some.injEq, Prod.mk.injEq] at hyes
              obtain ⟨rfl, ha⟩ := hyes
              obtain rfl : n5 = a := by rw [← ha]; exact ho5.len.symm
              have hs6 := hs5.below hb6
              have hrow6 := hrow5.below hb6
              clear ha hs5 hrow5 hb6 hb5 HP HL2 ho5
              unfold GlV.val GlV.cells
              obtain ⟨⟨z0, z1, z2, z3, zes, zpr, zps⟩, EA, en, ec, PA, pn, pc, TA, tn, tc⟩ := v
              simp only at hvg ⊢
              have hA7 := (Below.refl w6.heap.size w6).alloc (Nat.le_refl _) (.cells #[.int .i16 z0, .int .i16 z1, .int .i16 z2, .int .i16 z3, .slice EA en ec, .slice PA pn pc, .slice TA tn tc] 29)
              have hs7 := hs6.below hA7
              have hrow7 := hrow6.below hA7
              have hrv7 := hrv.below hA7
              have hnew := heap_alloc_new w6 (.cells glZ 29)
              have hnew7 := heap_alloc_new w6 (.cells #[.int .i16 z0, .int .i16 z1, .int .i16 z2, .int .i16 z3, .slice EA en ec, .slice PA pn pc, .slice TA tn tc] 29)
              unfold glZ at hnew
              have zl0 : en = 1 := by have := hrv.es.len; rw [show zes = [((j : Int) : Int) - 1] from by have := congrArg Gl.es hvg; simpa [rowsG] using this] at this; simpa using this.symm
              have zl1 : pn = 0 := by have := hrv.pr.len; rw [show zpr = [] from congrArg Gl.pr hvg] at this; simpa using this.symm
              have zl2 : tn = j := by have := hrv.ps.len; rw [show zps = rowsP x y on j from congrArg Gl.ps hvg] at this; rw [rowsP_len] at this; exact this.symm
              have HSm := Lib.hid (osame_any _ _ _ hrv7 hrow7 (by show en ≤ 1000000; omega) (by show pn ≤ 1000000; omega) (by show tn ≤ 1000000; omega) (by show (1 : Nat) ≤ 1000000; omega) (by show (0 : Nat) ≤ 1000000; omega) (by show j ≤ 1000000; omega))
              rw [show glSame ({ g := ⟨z0, z1, z2, z3, zes, zpr, zps⟩, EA := EA, en := en, ec := ec, PA := PA, pn := pn, pc := pc, SA := TA, sn := tn, sc := tc } : GlV).g (rowsG x y on j) = true by rw [show ({ g := ⟨z0, z1, z2, z3, zes, zpr, zps⟩, EA := EA, en := en, ec := ec, PA := PA, pn := pn, pc := pc, SA := TA, sn := tn, sc := tc } : GlV).g = rowsG x y on j from hvg]; exact glSame_refl _] at HSm
              have HSm2 : Hid (Calls Try.prog 27 #[.agg #[.int .i16 z0, .int .i16 z1, .int .i16 z2, .int .i16 z3, .slice EA en ec, .slice PA pn pc, .slice TA tn tc], .agg #[.int .i16 0, .int .i16 0, .int .i16 0, .int .i16 0, .slice (some ⟨wr.heap.size, 0, none⟩) 1 1, .slice none 0 0, .slice QA j qc]] (w6.alloc (.cells #[.int .i16 z0, .int .i16 z1, .int .i16 z2, .int .i16 z3, .slice EA en ec, .slice PA pn pc, .slice TA tn tc] 29)) (Ret (w6.alloc (.cells #[.int .i16 z0, .int .i16 z1, .int .i16 z2, .int .i16 z3, .slice EA en ec, .slice PA pn pc, .slice TA tn tc] 29)) (.bool true))) := HSm.out
              obtain ⟨b0, b1, b2, b3, b4, b5, b6⟩ := cells7 hs7.box
              have hbx6 : bx < w6.heap.size := lt_of_block hs6.box
              have hbx7 : bx ≠ w6.heap.size := by omega
              clear hvg hrv hs6 hrow6 hrow7 hrv7 hA7 HSm zl0 zl1 zl2 HLen
              go_wp2_with (with_reducible refine wpList_store_row rfl 29 (.tmp 15) (.tmp 68) rfl w6.heap.size #[.int .i16 z0, .int .i16 z1, .int .i16 z2, .int .i16 z3, .slice EA en ec, .slice PA pn pc, .slice TA tn tc] rfl rfl 29 #[.int .i16 0, .int .i16 0, .int .i16 0, .int .i16 0, .slice none 0 0, .slice none 0 0, .slice none 0 0] hnew (gl7 _ _ _ _ _ _ _ _ _ _ _ _ _).1 (gl7 _ _ _ _ _ _ _ _ _ _ _ _ _).2.1 (gl7 _ _ _ _ _ _ _ _ _ _ _ _ _).2.2 ?_; rw [World.setRow_alloc_new])
              with_reducible refine HSm2.out.mono ?_
              rintro e w8 ⟨rfl, hb8⟩
              have hbf := hs7.bel.trans (hb8.mono hs7.bel.size)
              go_wp2
              go_ret
              exact ⟨rfl, hbf⟩
          · skip
            have HL2 : Hid ((oB (rowsG x y on j)).length = 16 + 0 * j) := by show _ = _; rw [HLen.out, HLx.out, HLy.out, if_neg hj1]
            go_wp2_with fail
            with_reducible refine HB.out.mono ?_
            rintro e w5 ⟨A5, n5, c5, rfl, ho5, hb5⟩
            have hs5 := hs3.below hb5
            have hrow5 := hrow.below hb5
            have hl5 : n5 = 16 + 0 * j := by rw [← HL2.out]; exact ho5.len.symm
            have Hl5 := Lib.hid hl5
            have hn5 : n5 ≤ 1000 := by omega
            have q0 : ((n5 : Int) == 16) = true := by simp [hl5]
            have HP := Lib.hid (oparse_any A5 n5 c5 _ w5 ho5.row HByt.out (by omega) ho5.cap)
            clear hs3 hrow b0 b1 b2 b3 b4 b5 b6 HB hl5
            go_wp2_with fail
            with_reducible refine HP.out.mono ?_
            rintro e w6 ⟨hb6, ⟨hno, rfl⟩ | ⟨g, a, v, hyes, rfl, hrv, hvg⟩⟩
            · rw [HPar.out] at hno
              cases hno
            · rw [HPar.out] at hyes
              simp only [Option.some.injEq, Prod.mk.injEq] at hyes
              obtain ⟨rfl, ha⟩ := hyes
              obtain rfl : n5 = a := by rw [← ha]; exact ho5.len.symm
              have hs6 := hs5.below hb6
              have hrow6 := hrow5.below hb6
              clear ha hs5 hrow5 hb6 hb5 HP HL2 ho5
              unfold GlV.val GlV.cells
              obtain ⟨⟨z0, z1, z2, z3, zes, zpr, zps⟩, EA, en, ec, PA, pn, pc, TA, tn, tc⟩ := v
              simp only at hvg ⊢
              have hA7 := (Below.refl w6.heap.size w6).alloc (Nat.le_refl _) (.cells #[.int .i16 z0, .int .i16 z1, .int .i16 z2, .int .i16 z3, .slice EA en ec, .slice PA pn pc, .slice TA tn tc] 29)
              have hs7 := hs6.below hA7
              have hrow7 := hrow6.below hA7
              have hrv7 := hrv.below hA7
              have hnew := heap_alloc_new w6 (.cells glZ 29)
              have hnew7 := heap_alloc_new w6 (.cells #[.int .i16 z0, .int .i16 z1, .int .i16 z2, .int .i16 z3, .slice EA en ec, .slice PA pn pc, .slice TA tn tc] 29)
              unfold glZ at hnew
              have zl0 : en = 1 := by have := hrv.es.len; rw [show zes = [((j : Int) : Int) - 1] from by have := congrArg Gl.es hvg; simpa [rowsG] using this] at this; simpa using this.symm
              have zl1 : pn = 0 := by have := hrv.pr.len; rw [show zpr = [] from congrArg Gl.pr hvg] at this; simpa using this.symm
              have zl2 : tn = j := by have := hrv.ps.len; rw [show zps = rowsP x y on j from congrArg Gl.ps hvg] at this; rw [rowsP_len] at this; exact this.symm
              have HSm := Lib.hid (osame_any _ _ _ hrv7 hrow7 (by show en ≤ 1000000; omega) (by show pn ≤ 1000000; omega) (by show tn ≤ 1000000; omega) (by show (1 : Nat) ≤ 1000000; omega) (by show (0 : Nat) ≤ 1000000; omega) (by show j ≤ 1000000; omega))
              rw [show glSame ({ g := ⟨z0, z1, z2, z3, zes, zpr, zps⟩, EA := EA, en := en, ec := ec, PA := PA, pn := pn, pc := pc, SA := TA, sn := tn, sc := tc } : GlV).g (rowsG x y on j) = true by rw [show ({ g := ⟨z0, z1, z2, z3, zes, zpr, zps⟩, EA := EA, en := en, ec := ec, PA := PA, pn := pn, pc := pc, SA := TA, sn := tn, sc := tc } : GlV).g = rowsG x y on j from hvg]; exact glSame_refl _] at HSm
              have HSm2 : Hid (Calls Try.prog 27 #[.agg #[.int .i16 z0, .int .i16 z1, .int .i16 z2, .int .i16 z3, .slice EA en ec, .slice PA pn pc, .slice TA tn tc], .agg #[.int .i16 0, .int .i16 0, .int .i16 0, .int .i16 0, .slice (some ⟨wr.heap.size, 0, none⟩) 1 1, .slice none 0 0, .slice QA j qc]] (w6.alloc (.cells #[.int .i16 z0, .int .i16 z1, .int .i16 z2, .int .i16 z3, .slice EA en ec, .slice PA pn pc, .slice TA tn tc] 29)) (Ret (w6.alloc (.cells #[.int .i16 z0, .int .i16 z1, .int .i16 z2, .int .i16 z3, .slice EA en ec, .slice PA pn pc, .slice TA tn tc] 29)) (.bool true))) := HSm.out
              obtain ⟨b0, b1, b2, b3, b4, b5, b6⟩ := cells7 hs7.box
              have hbx6 : bx < w6.heap.size := lt_of_block hs6.box
              have hbx7 : bx ≠ w6.heap.size := by omega
              clear hvg hrv hs6 hrow6 hrow7 hrv7 hA7 HSm zl0 zl1 zl2 HLen
              go_wp2_with (with_reducible refine wpList_store_row rfl 29 (.tmp 15) (.tmp 68) rfl w6.heap.size #[.int .i16 z0, .int .i16 z1, .int .i16 z2, .int .i16 z3, .slice EA en ec, .slice PA pn pc, .slice TA tn tc] rfl rfl 29 #[.int .i16 0, .int .i16 0, .int .i16 0, .int .i16 0, .slice none 0 0, .slice none 0 0, .slice none 0 0] hnew (gl7 _ _ _ _ _ _ _ _ _ _ _ _ _).1 (gl7 _ _ _ _ _ _ _ _ _ _ _ _ _).2.1 (gl7 _ _ _ _ _ _ _ _ _ _ _ _ _).2.2 ?_; rw [World.setRow_alloc_new])
              with_reducible refine HSm2.out.mono ?_
              rintro e w8 ⟨rfl, hb8⟩
              have hbf := hs7.bel.trans (hb8.mono hs7.bel.size)
              go_wp2
              go_ret
              exact ⟨rfl, hbf⟩
        · have HLy : Hid ((if y = 0 then 0 else 1 : Nat) = 1) := if_neg hy
          have ey : (y != 0) = true := by simp [hy]
          clear hy
          by_cases hj1 : j = 1
          · skip
            have HL2 : Hid ((oB (rowsG x y on j)).length = 15 + 1 * j) := by show _ = _; rw [HLen.out, HLx.out, HLy.out, if_pos hj1]
            have hle : j ≤ 1 := by omega
            have hgt : decide ((1 : Int) < (j : Int)) = false := by simp [hj1]
            clear hj1
            go_wp2_with fail
            with_reducible refine HB.out.mono ?_
            rintro e w5 ⟨A5, n5, c5, rfl, ho5, hb5⟩
            have hs5 := hs3.below hb5
            have hrow5 := hrow.below hb5
            have hl5 : n5 = 15 + 1 * j := by rw [← HL2.out]; exact ho5.len.symm
            have Hl5 := Lib.hid hl5
            have hn5 : n5 ≤ 1000 := by omega
            have q0 : ((n5 : Int) == 15 + (j : Int)) = true := by simp [hl5]
            have HP := Lib.hid (oparse_any A5 n5 c5 _ w5 ho5.row HByt.out (by omega) ho5.cap)
            clear hs3 hrow b0 b1 b2 b3 b4 b5 b6 HB hl5
            go_wp2_with fail
            with_reducible refine HP.out.mono ?_
            rintro e w6 ⟨hb6, ⟨hno, rfl⟩ | ⟨g, a, v, hyes, rfl, hrv, hvg⟩⟩
            · rw [HPar.out] at hno
              cases hno
            · rw [HPar.out] at hyes
              simp only [Option.some.injEq, Prod.mk.injEq] at hyes
              obtain ⟨rfl, ha⟩ := hyes
              obtain rfl : n5 = a := by rw [← ha]; exact ho5.len.symm
              have hs6 := hs5.below hb6
              have hrow6 := hrow5.below hb6
              clear ha hs5 hrow5 hb6 hb5 HP HL2 ho5
              unfold GlV.val GlV.cells
              obtain ⟨⟨z0, z1, z2, z3, zes, zpr, zps⟩, EA, en, ec, PA, pn, pc, TA, tn, tc⟩ := v
              simp only at hvg ⊢
              have hA7 := (Below.refl w6.heap.size w6).alloc (Nat.le_refl _) (.cells #[.int .i16 z0, .int .i16 z1, .int .i16 z2, .int .i16 z3, .slice EA en ec, .slice PA pn pc, .slice TA tn tc] 29)
              have hs7 := hs6.below hA7
              have hrow7 := hrow6.below hA7
              have hrv7 := hrv.below hA7
              have hnew := heap_alloc_new w6 (.cells glZ 29)
              have hnew7 := heap_alloc_new w6 (.cells #[.int .i16 z0, .int .i16 z1, .int .i16 z2, .int .i16 z3, .slice EA en ec, .slice PA pn pc, .slice TA tn tc] 29)
              unfold glZ at hnew
              have zl0 : en = 1 := by have := hrv.es.len; rw [show zes = [((j : Int) : Int) - 1] from by have := congrArg Gl.es hvg; simpa [rowsG] using this] at this; simpa using this.symm
              have zl1 : pn = 0 := by have := hrv.pr.len; rw [show zpr = [] from congrArg Gl.pr hvg] at this; simpa using this.symm
              have zl2 : tn = j := by have := hrv.ps.len; rw [show zps = rowsP x y on j from congrArg Gl.ps hvg] at this; rw [rowsP_len] at this; exact this.symm
              have HSm := Lib.hid (osame_any _ _ _ hrv7 hrow7 (by show en ≤ 1000000; omega) (by show pn ≤ 1000000; omega) (by show tn ≤ 1000000; omega) (by show (1 : Nat) ≤ 1000000; omega) (by show (0 : Nat) ≤ 1000000; omega) (by show j ≤ 1000000; omega))
              rw [show glSame ({ g := ⟨z0, z1, z2, z3, zes, zpr, zps⟩, EA := EA, en := en, ec := ec, PA := PA, pn := pn, pc := pc, SA := TA, sn := tn, sc := tc } : GlV).g (rowsG x y on j) = true by rw [show ({ g := ⟨z0, z1, z2, z3, zes, zpr, zps⟩, EA := EA, en := en, ec := ec, PA := PA, pn := pn, pc := pc, SA := TA, sn := tn, sc := tc } : GlV).g = rowsG x y on j from hvg]; exact glSame_refl _] at HSm
              have HSm2 : Hid (Calls Try.prog 27 #[.agg #[.int .i16 z0, .int .i16 z1, .int .i16 z2, .int .i16 z3, .slice EA en ec, .slice PA pn pc, .slice TA tn tc], .agg #[.int .i16 0, .int .i16 0, .int .i16 0, .int .i16 0, .slice (some ⟨wr.heap.size, 0, none⟩) 1 1, .slice none 0 0, .slice QA j qc]] (w6.alloc (.cells #[.int .i16 z0, .int .i16 z1, .int .i16 z2, .int .i16 z3, .slice EA en ec, .slice PA pn pc, .slice TA tn tc] 29)) (Ret (w6.alloc (.cells #[.int .i16 z0, .int .i16 z1, .int .i16 z2, .int .i16 z3, .slice EA en ec, .slice PA pn pc, .slice TA tn tc] 29)) (.bool true))) := HSm.out
              obtain ⟨b0, b1, b2, b3, b4, b5, b6⟩ := cells7 hs7.box
              have hbx6 : bx < w6.heap.size := lt_of_block hs6.box
              have hbx7 : bx ≠ w6.heap.size := by omega
              clear hvg hrv hs6 hrow6 hrow7 hrv7 hA7 HSm zl0 zl1 zl2 HLen
              go_wp2_with (with_reducible refine wpList_store_row rfl 29 (.tmp 15) (.tmp 68) rfl w6.heap.size #[.int .i16 z0, .int .i16 z1, .int .i16 z2, .int .i16 z3, .slice EA en ec, .slice PA pn pc, .slice TA tn tc] rfl rfl 29 #[.int .i16 0, .int .i16 0, .int .i16 0, .int .i16 0, .slice none 0 0, .slice none 0 0, .slice none 0 0] hnew (gl7 _ _ _ _ _ _ _ _ _ _ _ _ _).1 (gl7 _ _ _ _ _ _ _ _ _ _ _ _ _).2.1 (gl7 _ _ _ _ _ _ _ _ _ _ _ _ _).2.2 ?_; rw [World.setRow_alloc_new])
              with_reducible refine HSm2.out.mono ?_
              rintro e w8 ⟨rfl, hb8⟩
              have hbf := hs7.bel.trans (hb8.mono hs7.bel.size)
              go_wp2
              go_ret
              exact ⟨rfl, hbf⟩
          · skip
            have HL2 : Hid ((oB (rowsG x y on j)).length = 16 + 1 * j) := by show _ = _; rw [HLen.out, HLx.out, HLy.out, if_neg hj1]
            go_wp2_with fail
            with_reducible refine HB.out.mono ?_
            rintro e w5 ⟨A5, n5, c5, rfl, ho5, hb5⟩
            have hs5 := hs3.below hb5
            have hrow5 := hrow.below hb5
            have hl5 : n5 = 16 + 1 * j := by rw [← HL2.out]; exact ho5.len.symm
            have Hl5 := Lib.hid hl5
            have hn5 : n5 ≤ 1000 := by omega
            have q0 : ((n5 : Int) == 16 + (j : Int)) = true := by simp [hl5]
            have HP := Lib.hid (oparse_any A5 n5 c5 _ w5 ho5.row HByt.out (by omega) ho5.cap)
            clear hs3 hrow b0 b1 b2 b3 b4 b5 b6 HB hl5
            go_wp2_with fail
            with_reducible refine HP.out.mono ?_
            rintro e w6 ⟨hb6, ⟨hno, rfl⟩ | ⟨g, a, v, hyes, rfl, hrv, hvg⟩⟩
            · rw [HPar.out] at hno
              cases hno
            · rw [HPar.out] at hyes
              simp only [Option.some.injEq, Prod.mk.injEq] at hyes
              obtain ⟨rfl, ha⟩ := hyes
              obtain rfl : n5 = a := by rw [← ha]; exact ho5.len.symm
              have hs6 := hs5.below hb6
              have hrow6 := hrow5.below hb6
              clear ha hs5 hrow5 hb6 hb5 HP HL2 ho5
              unfold GlV.val GlV.cells
              obtain ⟨⟨z0, z1, z2, z3, zes, zpr, zps⟩, EA, en, ec, PA, pn, pc, TA, tn, tc⟩ := v
              simp only at hvg ⊢
              have hA7 := (Below.refl w6.heap.size w6).alloc (Nat.le_refl _) (.cells #[.int .i16 z0, .int .i16 z1, .int .i16 z2, .int .i16 z3, .slice EA en ec, .slice PA pn pc, .slice TA tn tc] 29)
              have hs7 := hs6.below hA7
              have hrow7 := hrow6.below hA7
              have hrv7 := hrv.below hA7
              have hnew := heap_alloc_new w6 (.cells glZ 29)
              have hnew7 := heap_alloc_new w6 (.cells #[.int .i16 z0, .int .i16 z1, .int .i16 z2, .int .i16 z3, .slice EA en ec, .slice PA pn pc, .slice TA tn tc] 29)
              unfold glZ at hnew
              have zl0 : en = 1 := by have := hrv.es.len; rw [show zes = [((j : Int) : Int) - 1] from by have := congrArg Gl.es hvg; simpa [rowsG] using this] at this; simpa using this.symm
              have zl1 : pn = 0 := by have := hrv.pr.len; rw [show zpr = [] from congrArg Gl.pr hvg] at this; simpa using this.symm
              have zl2 : tn = j := by have := hrv.ps.len; rw [show zps = rowsP x y on j from congrArg Gl.ps hvg] at this; rw [rowsP_len] at this; exact this.symm
              have HSm := Lib.hid (osame_any _ _ _ hrv7 hrow7 (by show en ≤ 1000000; omega) (by show pn ≤ 1000000; omega) (by show tn ≤ 1000000; omega) (by show (1 : Nat) ≤ 1000000; omega) (by show (0 : Nat) ≤ 1000000; omega) (by show j ≤ 1000000; omega))
              rw [show glSame ({ g := ⟨z0, z1, z2, z3, zes, zpr, zps⟩, EA := EA, en := en, ec := ec, PA := PA, pn := pn, pc := pc, SA := TA, sn := tn, sc := tc } : GlV).g (rowsG x y on j) = true by rw [show ({ g := ⟨z0, z1, z2, z3, zes, zpr, zps⟩, EA := EA, en := en, ec := ec, PA := PA, pn := pn, pc := pc, SA := TA, sn := tn, sc := tc } : GlV).g = rowsG x y on j from hvg]; exact glSame_refl _] at HSm
              have HSm2 : Hid (Calls Try.prog 27 #[.agg #[.int .i16 z0, .int .i16 z1, .int .i16 z2, .int .i16 z3, .slice EA en ec, .slice PA pn pc, .slice TA tn tc], .agg #[.int .i16 0, .int .i16 0, .int .i16 0, .int .i16 0, .slice (some ⟨wr.heap.size, 0, none⟩) 1 1, .slice none 0 0, .slice QA j qc]] (w6.alloc (.cells #[.int .i16 z0, .int .i16 z1, .int .i16 z2, .int .i16 z3, .slice EA en ec, .slice PA pn pc, .slice TA tn tc] 29)) (Ret (w6.alloc (.cells #[.int .i16 z0, .int .i16 z1, .int .i16 z2, .int .i16 z3, .slice EA en ec, .slice PA pn pc, .slice TA tn tc] 29)) (.bool true))) := HSm.out
              obtain ⟨b0, b1, b2, b3, b4, b5, b6⟩ := cells7 hs7.box
              have hbx6 : bx < w6.heap.size := lt_of_block hs6.box
              have hbx7 : bx ≠ w6.heap.size := by omega
              clear hvg hrv hs6 hrow6 hrow7 hrv7 hA7 HSm zl0 zl1 zl2 HLen
              go_wp2_with (with_reducible refine wpList_store_row rfl 29 (.tmp 15) (.tmp 68) rfl w6.heap.size #[.int .i16 z0, .int .i16 z1, .int .i16 z2, .int .i16 z3, .slice EA en ec, .slice PA pn pc, .slice TA tn tc] rfl rfl 29 #[.int .i16 0, .int .i16 0, .int .i16 0, .int .i16 0, .slice none 0 0, .slice none 0 0, .slice none 0 0] hnew (gl7 _ _ _ _ _ _ _ _ _ _ _ _ _).1 (gl7 _ _ _ _ _ _ _ _ _ _ _ _ _).2.1 (gl7 _ _ _ _ _ _ _ _ _ _ _ _ _).2.2 ?_; rw [World.setRow_alloc_new])
              with_reducible refine HSm2.out.mono ?_
              rintro e w8 ⟨rfl, hb8⟩
              have hbf := hs7.bel.trans (hb8.mono hs7.bel.size)
              go_wp2
              go_ret
              exact ⟨rfl, hbf⟩
      · have HLx : Hid ((if x = 0 then 0 else 1 : Nat) = 1) := if_neg hx
        have ex : (x != 0) = true := by simp [hx]
        clear hx
        by_cases hy : y = 0
        · have HLy : Hid ((if y = 0 then 0 else 1 : Nat) = 0) := if_pos hy
          have ey : (y != 0) = false := by simp [hy]
          clear hy
          by_cases hj1 : j = 1
          · skip
            have HL2 : Hid ((oB (rowsG x y on j)).length = 15 + 1 * j) := by show _ = _; rw [HLen.out, HLx.out, HLy.out, if_pos hj1]
            have hle : j ≤ 1 := by omega
            have hgt : decide ((1 : Int) < (j : Int)) = false := by simp [hj1]
            clear hj1
            go_wp2_with fail
            with_reducible refine HB.out.mono ?_
            rintro e w5 ⟨A5, n5, c5, rfl, ho5, hb5⟩
            have hs5 := hs3.below hb5
            have hrow5 := hrow.below hb5
            have hl5 : n5 = 15 + 1 * j := by rw [← HL2.out]; exact ho5.len.symm
            have Hl5 := Lib.hid hl5
            have hn5 : n5 ≤ 1000 := by omega
            have q0 : ((n5 : Int) == 15 + (j : Int)) = true := by simp [hl5]
            have HP := Lib.hid (oparse_any A5 n5 c5 _ w5 ho5.row HByt.out (by omega) ho5.cap)
            clear hs3 hrow b0 b1 b2 b3 b4 b5 b6 HB hl5
            go_wp2_with fail
            with_reducible refine HP.out.mono ?_
            rintro e w6 ⟨hb6, ⟨hno, rfl⟩ | ⟨g, a, v, hyes, rfl, hrv, hvg⟩⟩
            · rw [HPar.out] at hno
              cases hno
            · rw [HPar.out] at hyes
              simp only [Option.some.injEq, Prod.mk.injEq] at hyes
              obtain ⟨rfl, ha⟩ := hyes
              obtain rfl : n5 = a := by rw [← ha]; exact ho5.len.symm
              have hs6 := hs5.below hb6
              have hrow6 := hrow5.below hb6
              clear ha hs5 hrow5 hb6 hb5 HP HL2 ho5
              unfold GlV.val GlV.cells
              obtain ⟨⟨z0, z1, z2, z3, zes, zpr, zps⟩, EA, en, ec, PA, pn, pc, TA, tn, tc⟩ := v
              simp only at hvg ⊢
              have hA7 := (Below.refl w6.heap.size w6).alloc (Nat.le_refl _) (.cells #[.int .i16 z0, .int .i16 z1, .int .i16 z2, .int .i16 z3, .slice EA en ec, .slice PA pn pc, .slice TA tn tc] 29)
              have hs7 := hs6.below hA7
              have hrow7 := hrow6.below hA7
              have hrv7 := hrv.below hA7
              have hnew := heap_alloc_new w6 (.cells glZ 29)
              have hnew7 := heap_alloc_new w6 (.cells #[.int .i16 z0, .int .i16 z1, .int .i16 z2, .int .i16 z3, .slice EA en ec, .slice PA pn pc, .slice TA tn tc] 29)
              unfold glZ at hnew
              have zl0 : en = 1 := by have := hrv.es.len; rw [show zes = [((j : Int) : Int) - 1] from by have := congrArg Gl.es hvg; simpa [rowsG] using this] at this; simpa using this.symm
              have zl1 : pn = 0 := by have := hrv.pr.len; rw [show zpr = [] from congrArg Gl.pr hvg] at this; simpa using this.symm
              have zl2 : tn = j := by have := hrv.ps.len; rw [show zps = rowsP x y on j from congrArg Gl.ps hvg] at this; rw [rowsP_len] at this; exact this.symm
              have HSm := Lib.hid (osame_any _ _ _ hrv7 hrow7 (by show en ≤ 1000000; omega) (by show pn ≤ 1000000; omega) (by show tn ≤ 1000000; omega) (by show (1 : Nat) ≤ 1000000; omega) (by show (0 : Nat) ≤ 1000000; omega) (by show j ≤ 1000000; omega))
              rw [show glSame ({ g := ⟨z0, z1, z2, z3, zes, zpr, zps⟩, EA := EA, en := en, ec := ec, PA := PA, pn := pn, pc := pc, SA := TA, sn := tn, sc := tc } : GlV).g (rowsG x y on j) = true by rw [show ({ g := ⟨z0, z1, z2, z3, zes, zpr, zps⟩, EA := EA, en := en, ec := ec, PA := PA, pn := pn, pc := pc, SA := TA, sn := tn, sc := tc } : GlV).g = rowsG x y on j from hvg]; exact glSame_refl _] at HSm
              have HSm2 : Hid (Calls Try.prog 27 #[.agg #[.int .i16 z0, .int .i16 z1, .int .i16 z2, .int .i16 z3, .slice EA en ec, .slice PA pn pc, .slice TA tn tc], .agg #[.int .i16 0, .int .i16 0, .int .i16 0, .int .i16 0, .slice (some ⟨wr.heap.size, 0, none⟩) 1 1, .slice none 0 0, .slice QA j qc]] (w6.alloc (.cells #[.int .i16 z0, .int .i16 z1, .int .i16 z2, .int .i16 z3, .slice EA en ec, .slice PA pn pc, .slice TA tn tc] 29)) (Ret (w6.alloc (.cells #[.int .i16 z0, .int .i16 z1, .int .i16 z2, .int .i16 z3, .slice EA en ec, .slice PA pn pc, .slice TA tn tc] 29)) (.bool true))) := HSm.out
              obtain ⟨b0, b1, b2, b3, b4, b5, b6⟩ := cells7 hs7.box
              have hbx6 : bx < w6.heap.size := lt_of_block hs6.box
              have hbx7 : bx ≠ w6.heap.size := by omega
              clear hvg hrv hs6 hrow6 hrow7 hrv7 hA7 HSm zl0 zl1 zl2 HLen
              go_wp2_with (with_reducible refine wpList_store_row rfl 29 (.tmp 15) (.tmp 68) rfl w6.heap.size #[.int .i16 z0, .int .i16 z1, .int .i16 z2, .int .i16 z3, .slice EA en ec, .slice PA pn pc, .slice TA tn tc] rfl rfl 29 #[.int .i16 0, .int .i16 0, .int .i16 0, .int .i16 0, .slice none 0 0, .slice none 0 0, .slice none 0 0] hnew (gl7 _ _ _ _ _ _ _ _ _ _ _ _ _).1 (gl7 _ _ _ _ _ _ _ _ _ _ _ _ _).2.1 (gl7 _ _ _ _ _ _ _ _ _ _ _ _ _).2.2 ?_; rw [World.setRow_alloc_new])
              with_reducible refine HSm2.out.mono ?_
              rintro e w8 ⟨rfl, hb8⟩
              have hbf := hs7.bel.trans (hb8.mono hs7.bel.size)
              go_wp2
              go_ret
              exact ⟨rfl, hbf⟩
          · skip
            have HL2 : Hid ((oB (rowsG x y on j)).length = 16 + 1 * j) := by show _ = _; rw [HLen.out, HLx.out, HLy.out, if_neg hj1]
            go_wp2_with fail
            with_reducible refine HB.out.mono ?_
            rintro e w5 ⟨A5, n5, c5, rfl, ho5, hb5⟩
            have hs5 := hs3.below hb5
            have hrow5 := hrow.below hb5
            have hl5 : n5 = 16 + 1 * j := by rw [← HL2.out]; exact ho5.len.symm
            have Hl5 := Lib.hid hl5
            have hn5 : n5 ≤ 1000 := by omega
            have q0 : ((n5 : Int) == 16 + (j : Int)) = true := by simp [hl5]
            have HP := Lib.hid (oparse_any A5 n5 c5 _ w5 ho5.row HByt.out (by omega) ho5.cap)
            clear hs3 hrow b0 b1 b2 b3 b4 b5 b6 HB hl5
            go_wp2_with fail
            with_reducible refine HP.out.mono ?_
            rintro e w6 ⟨hb6, ⟨hno, rfl⟩ | ⟨g, a, v, hyes, rfl, hrv, hvg⟩⟩
            · rw [HPar.out] at hno
              cases hno
            · rw [HPar.out] at hyes
              simp only [Option.some.injEq, Prod.mk.injEq] at hyes
              obtain ⟨rfl, ha⟩ := hyes
              obtain rfl : n5 = a := by rw [← ha]; exact ho5.len.symm
              have hs6 := hs5.below hb6
              have hrow6 := hrow5.below hb6
              clear ha hs5 hrow5 hb6 hb5 HP HL2 ho5
              unfold GlV.val GlV.cells
              obtain ⟨⟨z0, z1, z2, z3, zes, zpr, zps⟩, EA, en, ec, PA, pn, pc, TA, tn, tc⟩ := v
              simp only at hvg ⊢
              have hA7 := (Below.refl w6.heap.size w6).alloc (Nat.le_refl _) (.cells #[.int .i16 z0, .int .i16 z1, .int .i16 z2, .int .i16 z3, .slice EA en ec, .slice PA pn pc, .slice TA tn tc] 29)
              have hs7 := hs6.below hA7
              have hrow7 := hrow6.below hA7
              have hrv7 := hrv.below hA7
              have hnew := heap_alloc_new w6 (.cells glZ 29)
              have hnew7 := heap_alloc_new w6 (.cells #[.int .i16 z0, .int .i16 z1, .int .i16 z2, .int .i16 z3, .slice EA en ec, .slice PA pn pc, .slice TA tn tc] 29)
              unfold glZ at hnew
              have zl0 : en = 1 := by have := hrv.es.len; rw [show zes = [((j : Int) : Int) - 1] from by have := congrArg Gl.es hvg; simpa [rowsG] using this] at this; simpa using this.symm
              have zl1 : pn = 0 := by have := hrv.pr.len; rw [show zpr = [] from congrArg Gl.pr hvg] at this; simpa using this.symm
              have zl2 : tn = j := by have := hrv.ps.len; rw [show zps = rowsP x y on j from congrArg Gl.ps hvg] at this; rw [rowsP_len] at this; exact this.symm
              have HSm := Lib.hid (osame_any _ _ _ hrv7 hrow7 (by show en ≤ 1000000; omega) (by show pn ≤ 1000000; omega) (by show tn ≤ 1000000; omega) (by show (1 : Nat) ≤ 1000000; omega) (by show (0 : Nat) ≤ 1000000; omega) (by show j ≤ 1000000; omega))
              rw [show glSame ({ g := ⟨z0, z1, z2, z3, zes, zpr, zps⟩, EA := EA, en := en, ec := ec, PA := PA, pn := pn, pc := pc, SA := TA, sn := tn, sc := tc } : GlV).g (rowsG x y on j) = true by rw [show ({ g := ⟨z0, z1, z2, z3, zes, zpr, zps⟩, EA := EA, en := en, ec := ec, PA := PA, pn := pn, pc := pc, SA := TA, sn := tn, sc := tc } : GlV).g = rowsG x y on j from hvg]; exact glSame_refl _] at HSm
              have HSm2 : Hid (Calls Try.prog 27 #[.agg #[.int .i16 z0, .int .i16 z1, .int .i16 z2, .int .i16 z3, .slice EA en ec, .slice PA pn pc, .slice TA tn tc], .agg #[.int .i16 0, .int .i16 0, .int .i16 0, .int .i16 0, .slice (some ⟨wr.heap.size, 0, none⟩) 1 1, .slice none 0 0, .slice QA j qc]] (w6.alloc (.cells #[.int .i16 z0, .int .i16 z1, .int .i16 z2, .int .i16 z3, .slice EA en ec, .slice PA pn pc, .slice TA tn tc] 29)) (Ret (w6.alloc (.cells #[.int .i16 z0, .int .i16 z1, .int .i16 z2, .int .i16 z3, .slice EA en ec, .slice PA pn pc, .slice TA tn tc] 29)) (.bool true))) := HSm.out
              obtain ⟨b0, b1, b2, b3, b4, b5, b6⟩ := cells7 hs7.box
              have hbx6 : bx < w6.heap.size := lt_of_block hs6.box
              have hbx7 : bx ≠ w6.heap.size := by omega
              clear hvg hrv hs6 hrow6 hrow7 hrv7 hA7 HSm zl0 zl1 zl2 HLen
              go_wp2_with (with_reducible refine wpList_store_row rfl 29 (.tmp 15) (.tmp 68) rfl w6.heap.size #[.int .i16 z0, .int .i16 z1, .int .i16 z2, .int .i16 z3, .slice EA en ec, .slice PA pn pc, .slice TA tn tc] rfl rfl 29 #[.int .i16 0, .int .i16 0, .int .i16 0, .int .i16 0, .slice none 0 0, .slice none 0 0, .slice none 0 0] hnew (gl7 _ _ _ _ _ _ _ _ _ _ _ _ _).1 (gl7 _ _ _ _ _ _ _ _ _ _ _ _ _).2.1 (gl7 _ _ _ _ _ _ _ _ _ _ _ _ _).2.2 ?_; rw [World.setRow_alloc_new])
              with_reducible refine HSm2.out.mono ?_
              rintro e w8 ⟨rfl, hb8⟩
              have hbf := hs7.bel.trans (hb8.mono hs7.bel.size)
              go_wp2
              go_ret
              exact ⟨rfl, hbf⟩
        · have HLy : Hid ((if y = 0 then 0 else 1 : Nat) = 1) := if_neg hy
          have ey : (y != 0) = true := by simp [hy]
          clear hy
          by_cases hj1 : j = 1
          · skip
            have HL2 : Hid ((oB (rowsG x y on j)).length = 15 + 2 * j) := by show _ = _; rw [HLen.out, HLx.out, HLy.out, if_pos hj1]
            have hle : j ≤ 1 := by omega
            have hgt : decide ((1 : Int) < (j : Int)) = false := by simp [hj1]
            clear hj1
            go_wp2_with fail
            with_reducible refine HB.out.mono ?_
            rintro e w5 ⟨A5, n5, c5, rfl, ho5, hb5⟩
            have hs5 := hs3.below hb5
            have hrow5 := hrow.below hb5
            have hl5 : n5 = 15 + 2 * j := by rw [← HL2.out]; exact ho5.len.symm
            have Hl5 := Lib.hid hl5
            have hn5 : n5 ≤ 1000 := by omega
            have q0 : ((n5 : Int) == 15 + 2 * (j : Int)) = true := by simp [hl5]
            have HP := Lib.hid (oparse_any A5 n5 c5 _ w5 ho5.row HByt.out (by omega) ho5.cap)
            clear hs3 hrow b0 b1 b2 b3 b4 b5 b6 HB hl5
            go_wp2_with fail
            with_reducible refine HP.out.mono ?_
            rintro e w6 ⟨hb6, ⟨hno, rfl⟩ | ⟨g, a, v, hyes, rfl, hrv, hvg⟩⟩
            · rw [HPar.out] at hno
              cases hno
            · rw [HPar.out] at hyes
              simp only [Option.some.injEq, Prod.mk.injEq] at hyes
              obtain ⟨rfl, ha⟩ := hyes
              obtain rfl : n5 = a := by rw [← ha]; exact ho5.len.symm
              have hs6 := hs5.below hb6
              have hrow6 := hrow5.below hb6
              clear ha hs5 hrow5 hb6 hb5 HP HL2 ho5
              unfold GlV.val GlV.cells
              obtain ⟨⟨z0, z1, z2, z3, zes, zpr, zps⟩, EA, en, ec, PA, pn, pc, TA, tn, tc⟩ := v
              simp only at hvg ⊢
              have hA7 := (Below.refl w6.heap.size w6).alloc (Nat.le_refl _) (.cells #[.int .i16 z0, .int .i16 z1, .int .i16 z2, .int .i16 z3, .slice EA en ec, .slice PA pn pc, .slice TA tn tc] 29)
              have hs7 := hs6.below hA7
              have hrow7 := hrow6.below hA7
              have hrv7 := hrv.below hA7
              have hnew := heap_alloc_new w6 (.cells glZ 29)
              have hnew7 := heap_alloc_new w6 (.cells #[.int .i16 z0, .int .i16 z1, .int .i16 z2, .int .i16 z3, .slice EA en ec, .slice PA pn pc, .slice TA tn tc] 29)
              unfold glZ at hnew
              have zl0 : en = 1 := by have := hrv.es.len; rw [show zes = [((j : Int) : Int) - 1] from by have := congrArg Gl.es hvg; simpa [rowsG] using this] at this; simpa using this.symm
              have zl1 : pn = 0 := by have := hrv.pr.len; rw [show zpr = [] from congrArg Gl.pr hvg] at this; simpa using this.symm
              have zl2 : tn = j := by have := hrv.ps.len; rw [show zps = rowsP x y on j from congrArg Gl.ps hvg] at this; rw [rowsP_len] at this; exact this.symm
              have HSm := Lib.hid (osame_any _ _ _ hrv7 hrow7 (by show en ≤ 1000000; omega) (by show pn ≤ 1000000; omega) (by show tn ≤ 1000000; omega) (by show (1 : Nat) ≤ 1000000; omega) (by show (0 : Nat) ≤ 1000000; omega) (by show j ≤ 1000000; omega))
              rw [show glSame ({ g := ⟨z0, z1, z2, z3, zes, zpr, zps⟩, EA := EA, en := en, ec := ec, PA := PA, pn := pn, pc := pc, SA := TA, sn := tn, sc := tc } : GlV).g (rowsG x y on j) = true by rw [show ({ g := ⟨z0, z1, z2, z3, zes, zpr, zps⟩, EA := EA, en := en, ec := ec, PA := PA, pn := pn, pc := pc, SA := TA, sn := tn, sc := tc } : GlV).g = rowsG x y on j from hvg]; exact glSame_refl _] at HSm
              have HSm2 : Hid (Calls Try.prog 27 #[.agg #[.int .i16 z0, .int .i16 z1, .int .i16 z2, .int .i16 z3, .slice EA en ec, .slice PA pn pc, .slice TA tn tc], .agg #[.int .i16 0, .int .i16 0, .int .i16 0, .int .i16 0, .slice (some ⟨wr.heap.size, 0, none⟩) 1 1, .slice none 0 0, .slice QA j qc]] (w6.alloc (.cells #[.int .i16 z0, .int .i16 z1, .int .i16 z2, .int .i16 z3, .slice EA en ec, .slice PA pn pc, .slice TA tn tc] 29)) (Ret (w6.alloc (.cells #[.int .i16 z0, .int .i16 z1, .int .i16 z2, .int .i16 z3, .slice EA en ec, .slice PA pn pc, .slice TA tn tc] 29)) (.bool true))) := HSm.out
              obtain ⟨b0, b1, b2, b3, b4, b5, b6⟩ := cells7 hs7.box
              have hbx6 : bx < w6.heap.size := lt_of_block hs6.box
              have hbx7 : bx ≠ w6.heap.size := by omega
              clear hvg hrv hs6 hrow6 hrow7 hrv7 hA7 HSm zl0 zl1 zl2 HLen
              go_wp2_with (with_reducible refine wpList_store_row rfl 29 (.tmp 15) (.tmp 68) rfl w6.heap.size #[.int .i16 z0, .int .i16 z1, .int .i16 z2, .int .i16 z3, .slice EA en ec, .slice PA pn pc, .slice TA tn tc] rfl rfl 29 #[.int .i16 0, .int .i16 0, .int .i16 0, .int .i16 0, .slice none 0 0, .slice none 0 0, .slice none 0 0] hnew (gl7 _ _ _ _ _ _ _ _ _ _ _ _ _).1 (gl7 _ _ _ _ _ _ _ _ _ _ _ _ _).2.1 (gl7 _ _ _ _ _ _ _ _ _ _ _ _ _).2.2 ?_; rw [World.setRow_alloc_new])
              with_reducible refine HSm2.out.mono ?_
              rintro e w8 ⟨rfl, hb8⟩
              have hbf := hs7.bel.trans (hb8.mono hs7.bel.size)
              go_wp2
              go_ret
              exact ⟨rfl, hbf⟩
          · skip
            have HL2 : Hid ((oB (rowsG x y on j)).length = 16 + 2 * j) := by show _ = _; rw [HLen.out, HLx.out, HLy.out, if_neg hj1]
            go_wp2_with fail
            with_reducible refine HB.out.mono ?_
            rintro e w5 ⟨A5, n5, c5, rfl, ho5, hb5⟩
            have hs5 := hs3.below hb5
            have hrow5 := hrow.below hb5
            have hl5 : n5 = 16 + 2 * j := by rw [← HL2.out]; exact ho5.len.symm
            have Hl5 := Lib.hid hl5
            have hn5 : n5 ≤ 1000 := by omega
            have q0 : ((n5 : Int) == 16 + 2 * (j : Int)) = true := by simp [hl5]
            have HP := Lib.hid (oparse_any A5 n5 c5 _ w5 ho5.row HByt.out (by omega) ho5.cap)
            clear hs3 hrow b0 b1 b2 b3 b4 b5 b6 HB hl5
            go_wp2_with fail
            with_reducible refine HP.out.mono ?_
            rintro e w6 ⟨hb6, ⟨hno, rfl⟩ | ⟨g, a, v, hyes, rfl, hrv, hvg⟩⟩
            · rw [HPar.out] at hno
              cases hno
            · rw [HPar.out] at hyes
              simp only [Option.some.injEq, Prod.mk.injEq] at hyes
              obtain ⟨rfl, ha⟩ := hyes
              obtain rfl : n5 = a := by rw [← ha]; exact ho5.len.symm
              have hs6 := hs5.below hb6
              have hrow6 := hrow5.below hb6
              clear ha hs5 hrow5 hb6 hb5 HP HL2 ho5
              unfold GlV.val GlV.cells
              obtain ⟨⟨z0, z1, z2, z3, zes, zpr, zps⟩, EA, en, ec, PA, pn, pc, TA, tn, tc⟩ := v
              simp only at hvg ⊢
              have hA7 := (Below.refl w6.heap.size w6).alloc (Nat.le_refl _) (.cells #[.int .i16 z0, .int .i16 z1, .int .i16 z2, .int .i16 z3, .slice EA en ec, .slice PA pn pc, .slice TA tn tc] 29)
              have hs7 := hs6.below hA7
              have hrow7 := hrow6.below hA7
              have hrv7 := hrv.below hA7
              have hnew := heap_alloc_new w6 (.cells glZ 29)
              have hnew7 := heap_alloc_new w6 (.cells #[.int .i16 z0, .int .i16 z1, .int .i16 z2, .int .i16 z3, .slice EA en ec, .slice PA pn pc, .slice TA tn tc] 29)
              unfold glZ at hnew
              have zl0 : en = 1 := by have := hrv.es.len; rw [show zes = [((j : Int) : Int) - 1] from by have := congrArg Gl.es hvg; simpa [rowsG] using this] at this; simpa using this.symm
              have zl1 : pn = 0 := by have := hrv.pr.len; rw [show zpr = [] from congrArg Gl.pr hvg] at this; simpa using this.symm
              have zl2 : tn = j := by have := hrv.ps.len; rw [show zps = rowsP x y on j from congrArg Gl.ps hvg] at this; rw [rowsP_len] at this; exact this.symm
              have HSm := Lib.hid (osame_any _ _ _ hrv7 hrow7 (by show en ≤ 1000000; omega) (by show pn ≤ 1000000; omega) (by show tn ≤ 1000000; omega) (by show (1 : Nat) ≤ 1000000; omega) (by show (0 : Nat) ≤ 1000000; omega) (by show j ≤ 1000000; omega))
              rw [show glSame ({ g := ⟨z0, z1, z2, z3, zes, zpr, zps⟩, EA := EA, en := en, ec := ec, PA := PA, pn := pn, pc := pc, SA := TA, sn := tn, sc := tc } : GlV).g (rowsG x y on j) = true by rw [show ({ g := ⟨z0, z1, z2, z3, zes, zpr, zps⟩, EA := EA, en := en, ec := ec, PA := PA, pn := pn, pc := pc, SA := TA, sn := tn, sc := tc } : GlV).g = rowsG x y on j from hvg]; exact glSame_refl _] at HSm
              have HSm2 : Hid (Calls Try.prog 27 #[.agg #[.int .i16 z0, .int .i16 z1, .int .i16 z2, .int .i16 z3, .slice EA en ec, .slice PA pn pc, .slice TA tn tc], .agg #[.int .i16 0, .int .i16 0, .int .i16 0, .int .i16 0, .slice (some ⟨wr.heap.size, 0, none⟩) 1 1, .slice none 0 0, .slice QA j qc]] (w6.alloc (.cells #[.int .i16 z0, .int .i16 z1, .int .i16 z2, .int .i16 z3, .slice EA en ec, .slice PA pn pc, .slice TA tn tc] 29)) (Ret (w6.alloc (.cells #[.int .i16 z0, .int .i16 z1, .int .i16 z2, .int .i16 z3, .slice EA en ec, .slice PA pn pc, .slice TA tn tc] 29)) (.bool true))) := HSm.out
              obtain ⟨b0, b1, b2, b3, b4, b5, b6⟩ := cells7 hs7.box
              have hbx6 : bx < w6.heap.size := lt_of_block hs6.box
              have hbx7 : bx ≠ w6.heap.size := by omega
              clear hvg hrv hs6 hrow6 hrow7 hrv7 hA7 HSm zl0 zl1 zl2 HLen
              go_wp2_with (with_reducible refine wpList_store_row rfl 29 (.tmp 15) (.tmp 68) rfl w6.heap.size #[.int .i16 z0, .int .i16 z1, .int .i16 z2, .int .i16 z3, .slice EA en ec, .slice PA pn pc, .slice TA tn tc] rfl rfl 29 #[.int .i16 0, .int .i16 0, .int .i16 0, .int .i16 0, .slice none 0 0, .slice none 0 0, .slice none 0 0] hnew (gl7 _ _ _ _ _ _ _ _ _ _ _ _ _).1 (gl7 _ _ _ _ _ _ _ _ _ _ _ _ _).2.1 (gl7 _ _ _ _ _ _ _ _ _ _ _ _ _).2.2 ?_; rw [World.setRow_alloc_new])
              with_reducible refine HSm2.out.mono ?_
              rintro e w8 ⟨rfl, hb8⟩
              have hbf := hs7.bel.trans (hb8.mono hs7.bel.size)
              go_wp2
              go_ret
              exact ⟨rfl, hbf⟩

end Go.Proofs.Ytlcnonhebppeiaa
