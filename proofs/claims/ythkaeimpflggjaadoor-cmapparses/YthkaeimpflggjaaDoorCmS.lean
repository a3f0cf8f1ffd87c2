/- cmap.Parse: a contract over this seat's translation. -/
import Derived.Test.YthkaeimpflggjaaDoorCmR
namespace Go.Proofs.YthkaeimpflggjaaDoor
open Go.RowKit Go.Maps
set_option linter.unusedVariables false

/-- The kinds that are read, as the variable holds them. -/
def rkL : List Int := [3, 10, 0, 4, 3, 1, 0, 3]
def Rk (w : World) : Prop := Row w (some ⟨0, 0, none⟩) 8 (cellsOf .u16 rkL)
theorem Rk.below {w w' : World} (h : Rk w) (hb : Below w.heap.size w w') : Rk w' := Row.below h hb
theorem Rk.cells {w : World} (h : Rk w) : w.cell? ⟨0, 0, none⟩ = some (.int .u16 3) ∧ w.cell? ⟨0, 1, none⟩ = some (.int .u16 10) ∧ w.cell? ⟨0, 2, none⟩ = some (.int .u16 0) ∧ w.cell? ⟨0, 3, none⟩ = some (.int .u16 4) ∧ w.cell? ⟨0, 4, none⟩ = some (.int .u16 3) ∧ w.cell? ⟨0, 5, none⟩ = some (.int .u16 1) ∧ w.cell? ⟨0, 6, none⟩ = some (.int .u16 0) ∧ w.cell? ⟨0, 7, none⟩ = some (.int .u16 3) := by
  have key : ∀ (i : Nat) (x : Int), rkL[i]? = some x → w.cell? ⟨0, i, none⟩ = some (.int .u16 x) := by
    intro i x hx
    obtain ⟨g', off', e', _, hc⟩ := Row.at h (j := i) (u := .int .u16 x) (cellsOf_get hx)
    simp only [Option.some.injEq, Addr.mk.injEq, and_true] at e'
    obtain ⟨rfl, rfl⟩ := e'
    simpa using hc
  exact ⟨key 0 3 rfl, key 1 10 rfl, key 2 0 rfl, key 3 4 rfl, key 4 3 rfl, key 5 1 rfl, key 6 0 rfl, key 7 3 rfl⟩

/-- What Parse leaves. -/
def RetPC (w : World) (zs : List Int) (e : Ending) (w' : World) : Prop :=
  Below w.heap.size w w' ∧ ((cFind zs = none ∧ e = .returned (.tuple #[cmV0, .int .i64 2])) ∨
    (∃ (wd : Bool) (v : Nat), cFind zs = some (wd, v) ∧ ∃ A c g, e = .returned (.tuple #[cmV wd A (cCnt wd (zs.drop v)) c, .int .i64 0]) ∧ CMap w' wd (zs.drop v) A g))

/-- The kinds one by one. -/
def ksL : List (Int × Int) := [(3, 10), (0, 4), (3, 1), (0, 3)]
/-- None of the first k kinds is there. -/
def NoK (zs : List Int) (k : Nat) : Prop := ∀ j x, j < k → ksL[j]? = some x → cFst zs x.1 x.2 (cN zs) = none
theorem noK_pick {zs : List Int} {k : Nat} {x : Int × Int} {v : Int} (h : NoK zs k) (hx : ksL[k]? = some x) (hv : cFst zs x.1 x.2 (cN zs) = some v) : cPick zs = some (decide (x.2 = 10 ∨ x.2 = 4), v) := by
  unfold cPick
  rcases k with _ | _ | _ | _ | k
  · simp [ksL] at hx; subst hx; rw [hv]; rfl
  · simp [ksL] at hx; subst hx
    rw [h 0 (3, 10) (by omega) rfl, hv]; rfl
  · simp [ksL] at hx; subst hx
    rw [h 0 (3, 10) (by omega) rfl, h 1 (0, 4) (by omega) rfl, hv]; rfl
  · simp [ksL] at hx; subst hx
    rw [h 0 (3, 10) (by omega) rfl, h 1 (0, 4) (by omega) rfl, h 2 (3, 1) (by omega) rfl, hv]; rfl
  · simp [ksL] at hx
theorem noK_none {zs : List Int} (h : NoK zs 4) : cPick zs = none := by
  unfold cPick
  rw [h 0 (3, 10) (by omega) rfl, h 1 (0, 4) (by omega) rfl, h 2 (3, 1) (by omega) rfl, h 3 (0, 3) (by omega) rfl]
theorem noK_succ {zs : List Int} {k : Nat} {x : Int × Int} (h : NoK zs k) (hx : ksL[k]? = some x) (hv : cFst zs x.1 x.2 (cN zs) = none) : NoK zs (k + 1) := by
  intro j y hj hy
  rcases Nat.lt_or_ge j k with h1 | h1
  · exact h j y h1 hy
  · obtain rfl : j = k := by omega
    rw [hx] at hy
    cases hy
    exact hv
theorem ksL_kind {k : Nat} {x : Int × Int} (hx : ksL[k]? = some x) : (x.1 = 3 ∧ x.2 = 10) ∨ (x.1 = 0 ∧ x.2 = 4) ∨ (x.1 = 3 ∧ x.2 = 1) ∨ (x.1 = 0 ∧ x.2 = 3) := by
  rcases k with _ | _ | _ | _ | k <;> simp [ksL] at hx <;> subst hx <;> simp

theorem RowS.keepI {α : Type} {enc : α → List Value} {k : Nat} {w w' : World} {A : Option Addr} {n : Nat} {l : List α} (hk : ∀ x, (enc x).length = k) (hk0 : 0 < k) (h : RowS enc k w A n l) (hs : w.heap.size ≤ w'.heap.size) (first : ∀ x, ∃ q y, (enc x)[0]? = some (.int q y))
    (hkp : ∀ g o q y, w.cell? ⟨g, o, none⟩ = some (.int q y) → w'.heap[g]? = w.heap[g]?) : RowS enc k w' A n l := by
  cases l with
  | nil =>
    have hn : n = 0 := h.1.symm
    subst hn
    refine ⟨rfl, ?_⟩
    rw [Nat.zero_mul]
    exact ⟨rfl, fun h => absurd h (by omega)⟩
  | cons x r =>
    obtain ⟨g, off, e, hg, hc⟩ := h.at hk hk0 (j := 0) (x := x) rfl
    refine h.keep hs (fun g' e' hg' => ?_)
    rw [e] at e'
    simp [blockOf] at e'
    subst e'
    obtain ⟨q, y, hx⟩ := first x
    exact hkp _ _ q y (hc 0 _ hx)
theorem CMap.keepI {w w' : World} {wd : Bool} {t : List Int} {A : Option Addr} {g : Nat} (h : CMap w wd t A g) (hs : w.heap.size ≤ w'.heap.size) (hkp : ∀ g o q y, w.cell? ⟨g, o, none⟩ = some (.int q y) → w'.heap[g]? = w.heap[g]?) : CMap w' wd t A g := by
  cases wd with
  | true => exact ⟨⟨h.1.row.keepI encG_len (by omega) hs (fun x => ⟨_, _, rfl⟩) hkp, h.1.ok, h.1.fit⟩, h.2⟩
  | false =>
    refine ⟨⟨h.1.row.keepI encS_len (by omega) hs (fun x => ⟨_, _, rfl⟩) hkp, ?_, h.1.ok, h.1.byt⟩, h.2⟩
    rcases h.1.num with hn | hn
    · exact .inl hn
    · rcases h.1.ok with hz | ⟨_, hM, _⟩
      · exact .inl hz
      · by_cases hM0 : sM t = 0
        · refine .inr ?_
          rw [hM0] at hn ⊢
          exact ⟨hn.1, fun h => absurd h (by omega)⟩
        · have hcn := num_cell hn (i := 0) (by omega)
          exact .inr (hn.keep hs (fun q e hq => by simp [blockOf] at e; subst e; exact hkp _ _ _ _ hcn))
theorem not_int {w : World} {B t n c n' c' : Nat} {b : Bool} {A A' : Option Addr} (h : w.heap[B]? = some (.cells #[.bool b, .slice A n c, .slice A' n' c'] t (0, 0))) {o : Nat} {k : IntKind} {x : Int} : w.cell? ⟨B, o, none⟩ ≠ some (.int k x) := by
  rw [cell_of_row _ _ o _ _ _ h]
  rcases o with _ | _ | _ | o <;> simp
theorem CMap.set3 {w : World} {wd b : Bool} {t : List Int} {A : Option Addr} {g B : Nat} (h : CMap w wd t A g) (hb : w.heap[B]? = some (.cells #[.bool b, .slice none 0 0, .slice none 0 0] 37 (0, 0))) (v0 v1 v2 : Value) :
    CMap (((w.setCell ⟨B, 0, none⟩ v0).setCell ⟨B, 1, none⟩ v1).setCell ⟨B, 2, none⟩ v2) wd t A g :=
  h.keepI (by simp [World.setCell]) (fun g' o q y hc => by
    have hne : g' ≠ B := fun e => by subst e; exact not_int hb hc
    exact (Below.heap_setCell _ _ _ _ hne).trans ((Below.heap_setCell _ _ _ _ hne).trans (Below.heap_setCell _ _ _ _ hne)))
theorem cFst_lt {zs : List Int} (hB : Bytes zs) {a b v : Int} : ∀ {k : Nat}, cFst zs a b k = some v → 0 ≤ v ∧ v < 4294967296
  | k + 1, h => by
    rw [cFst] at h
    cases hk : cFst zs a b k with
    | some u => rw [hk] at h; cases h; exact cFst_lt hB hk
    | none =>
      rw [hk] at h
      simp only at h
      split at h
      · cases h; exact n4at_lt hB _
      · cases h

/-- An element, of several cells, of an array that is a value. -/
theorem run_index_agg {P : Program} (w : World) (T e : TypeId) (len s : Nat) (cs vs : Array Value) (k : Nat) (hT : P.underlying T = some (.array len e)) (ha : (isAgg e).run P w = .ok true w) (hs : (Go.sizeOf e).run P w = .ok s w) (hk : k < len) (hv : cs.extract (k * s) (k * s + s) = vs) :
    (Instr.index T (.agg cs) (.int .i64 k)).run P w = .ok (.agg vs) w := by
  have hk' : (k : Int) < (len : Int) := by omega
  have hk0 : (0 : Int) ≤ (k : Int) := by omega
  simp only [Instr.index, asIntOf, Sem.run_bind, Sem.run_pure, Result.andThen_ok, run_underlying hT, hk', hk0, and_self, if_true, hs, Int.toNat_natCast, Go.part, ha, hv]

set_option maxRecDepth 100000 in
set_option maxHeartbeats 4000000 in
theorem cparse_any (A : Option Addr) (n c : Nat) (zs : List Int) (w : World) (hr : Row w A n (cellsOf .u8 zs)) (hB : Bytes zs) (hn : n ≤ 1000000) (hc : n ≤ c) (hR : Rk w) :
    Calls Tryd.prog 11 #[.slice A n c] w (RetPC w zs) := by
  have SI := Lib.hid Tryd.cmapsize
  have hA1 : Below w.heap.size w (w.alloc (.cells #[.bool false, .slice none 0 0, .slice none 0 0] 37)) := (Below.refl _ _).alloc (Nat.le_refl _) _
  have hs := heap_alloc_new w (.cells #[.bool false, .slice none 0 0, .slice none 0 0] 37)
  have HPl := Lib.hid (places_any A n c zs _ (hr.below hA1) hB hn hc)
  have HB := Lib.hid hB
  clear hB
  go_enter Tryd.func11, Tryd.ntmps11
  go_wp2_with fail
  with_reducible refine HPl.out.mono ?_
  rintro e w1 ⟨hb1', ⟨hf, rfl⟩ | ⟨hf, BM, D, rfl, hown, hK⟩⟩
  · have hs1 := kept_block hs hb1'
    have hb1 := hA1.trans (hb1'.mono hA1.size)
    have HNo : Hid (cFind zs = none) := by show _ = _; unfold cFind; rw [hf]; rfl
    have z0 : w1.cell? ⟨w.heap.size, 0, none⟩ = some (.bool false) := cell_of_row w1 _ 0 _ _ _ hs1
    have z1 : w1.cell? ⟨w.heap.size, 1, none⟩ = some (.slice none 0 0) := cell_of_row w1 _ 1 _ _ _ hs1
    have z2 : w1.cell? ⟨w.heap.size, 2, none⟩ = some (.slice none 0 0) := cell_of_row w1 _ 2 _ _ _ hs1
    have f0 := thawed hs1
    have S3 := Lib.hid (set_block (set_block (set_block hs1 0 (.bool false)) 1 (.slice none 0 0)) 2 (.slice none 0 0))
    have HBw := Lib.hid (below_set (Nat.le_refl _) 2 (.slice none 0 0) (below_set (Nat.le_refl _) 1 (.slice none 0 0) (below_set (Nat.le_refl w.heap.size) 0 (.bool false) hb1)))
    clear hs hs1 hb1 hA1 hr HPl hb1' hf hR
    go_wp2
    exact bodyPost_ret (v := .tuple #[cmV0, .int .i64 2]) (results_two2 Tryd.results11 _ _ w.heap.size 37 _ (0, 0) _ rfl rfl S3.out Tryd.underlying37 rfl SI.out) rfl ⟨HBw.out, .inl ⟨HNo.out, rfl⟩⟩
  · have hs1 := kept_block hs hb1'
    have hb1 := hA1.trans (hb1'.mono hA1.size)
    have hR1 := hR.below hb1
    obtain ⟨g0, g1, g2, g3, g4, g5, g6, g7⟩ := hR1.cells
    clear hs hA1 HPl hb1' hR
    go_wp2
    clear g0 g1 g2 g3 g4 g5 g6 g7 hR1
    have Hcf : Hid (∀ wd v, cPick zs = some (wd, v) → cFind zs = if cOk zs wd v then some (wd, v.toNat) else none) := fun wd v h => by unfold cFind; rw [hf, h]; rfl
    have Hcn : Hid (cPick zs = none → cFind zs = none) := fun h => by unfold cFind; rw [hf, h]; rfl
    have HK := Lib.hid hK
    clear hK hf
    go_loopw [19] (fun i wr => ∃ k : Nat, k ≤ 4 ∧ i = .int .i64 k ∧ Hid (NoK zs k) ∧ wr.ownsMap Tryd.prog 65 (plainElem Tryd.prog 58) BM (cN zs) D ∧ wr.heap[w.heap.size]? = some (.cells #[.bool false, .slice none 0 0, .slice none 0 0] 37 (0, 0)) ∧ Below w.heap.size w wr) (fun i _ => 4 - (intOf i).toNat)
    case atStart => exact ⟨0, by omega, rfl, Lib.hid (fun j x hj _ => absurd hj (by omega)), hown, hs1, hb1⟩
    case round =>
      clear hown hs1 hb1
      obtain ⟨k, hk, rfl, HNo, hown, hs, hb⟩ := hrel
      by_cases hlt : k < 4
      · rcases (show k = 0 ∨ k = 1 ∨ k = 2 ∨ k = 3 by omega) with rfl | rfl | rfl | rfl
        · have hix := run_index_agg (P := Tryd.prog) wr 77 65 4 2 #[.int .u16 3, .int .u16 10, .int .u16 0, .int .u16 4, .int .u16 3, .int .u16 1, .int .u16 0, .int .u16 3] #[.int .u16 3, .int .u16 10] 0 Tryd.underlying77 (by simp [go_sem]) (by simp [go_sem]) (by omega) rfl
          have hix2 : (Instr.index 77 (.agg #[.int .u16 3, .int .u16 10, .int .u16 0, .int .u16 4, .int .u16 3, .int .u16 1, .int .u16 0, .int .u16 3]) (.int .i64 0)).run Tryd.prog wr = .ok (.agg #[.int .u16 3, .int .u16 10]) wr := hix
          have HKey := Lib.hid (kind_key (a := 3) (b := 10) (u16_wf (by omega) (by omega)) (u16_wf (by omega) (by omega)))
          have hk2 := HK.out.2 3 10 (by omega) (by omega) (by omega) (by omega)
          have hal : Below wr.heap.size wr (wr.alloc (.cells #[.int .u16 3, .int .u16 10] 65)) := (Below.refl _ _).alloc (Nat.le_refl _) _
          have hw := hown.alloc (.cells #[.int .u16 3, .int .u16 10] 65)
          have hs' := kept_block hs hal
          have hb' := hb.trans (hal.mono hb.size)
          clear hown hs hb hal
          cases hc1 : cFst zs 3 10 (cN zs) with
          | none =>
            have hh : has D (kL 3 10) = false := by rw [hk2.1, hc1]; rfl
            have HN := Lib.hid (noK_succ HNo.out (x := (3, 10)) rfl hc1)
            clear hc1 hk2 HNo
            generalize cN zs = N at *
            go_wp2_with (at_lookup; refine wpList_lookup_own_ok_int _ rfl _ _ 74 rfl 65 58 .u32 Tryd.kindlaw Tryd.underlying74 Tryd.underlying58 (Tryd.zeroU32 _) BM N D rfl hw _ (kL 3 10) rfl HKey.out ?_; intro cv hat hwc; rw [hh]; clear hat hwc)
            go_roundw
            case rel => exact ⟨0 + 1, by omega, by go_num, HN, hw, hs', hb'⟩
            case measure => simp [intOf]
          | some v =>
            have hh : has D (kL 3 10) = true := by rw [hk2.1, hc1]; rfl
            have hv := hk2.2 v hc1
            have hvb := cFst_lt HB.out hc1
            obtain ⟨vn, rfl⟩ : ∃ vn : Nat, v = (vn : Int) := ⟨v.toNat, by omega⟩
            have hpk := noK_pick HNo.out (x := (3, 10)) rfl hc1
            rw [show decide (((3, 10) : Int × Int).2 = 10 ∨ ((3, 10) : Int × Int).2 = 4) = true by decide] at hpk
            have HCf := Lib.hid (Hcf.out _ _ hpk)
            have HRd := Lib.hid (fun W hW => cread_any A n c zs true vn W (hr.below hW) HB.out hn hc (by omega))
            clear hc1 hk2 HNo hpk Hcf Hcn HK
            generalize cN zs = N at *
            have HV := Lib.hid hv
            clear hv
            go_wp2_with (first
              | (at_lookup; refine wpList_lookup_own_ok_int _ rfl _ _ 74 rfl 65 58 .u32 Tryd.kindlaw Tryd.underlying74 Tryd.underlying58 (Tryd.zeroU32 _) BM N D rfl hw _ (kL 3 10) rfl HKey.out ?_; intro cv hat hwc; rw [hh]; obtain rfl : (vn : Int) = cv := (by rw [HV.out] at hat; simpa using hat); clear hat hwc)
              | (go_at_call 30; (with_reducible refine (cwide_any 3 10 (by omega) _).mono ?_); rintro e wn ⟨rfl, hbn⟩; replace hs' := kept_block hs' hbn; replace hb' := hb'.trans (hbn.mono hb'.size); clear hbn))
            refine (HRd.out _ hb').mono ?_
            rintro e w2 ⟨hb2', ⟨ho, rfl⟩ | ⟨ho, A2, c2, g2, rfl, hcm⟩⟩
            · have hs2 := kept_block hs' hb2'
              have hb2 := hb'.trans (hb2'.mono hb'.size)
              have HNo2 : Hid (cFind zs = none) := by show _ = _; rw [HCf.out, ho]; rfl
              have z0 : w2.cell? ⟨w.heap.size, 0, none⟩ = some (.bool false) := cell_of_row w2 _ 0 _ _ _ hs2
              have z1 : w2.cell? ⟨w.heap.size, 1, none⟩ = some (.slice none 0 0) := cell_of_row w2 _ 1 _ _ _ hs2
              have z2 : w2.cell? ⟨w.heap.size, 2, none⟩ = some (.slice none 0 0) := cell_of_row w2 _ 2 _ _ _ hs2
              have f0 := thawed hs2
              have S3 := Lib.hid (set_block (set_block (set_block hs2 0 (.bool false)) 1 (.slice none 0 0)) 2 (.slice none 0 0))
              have HBw := Lib.hid (below_set (Nat.le_refl _) 2 (.slice none 0 0) (below_set (Nat.le_refl _) 1 (.slice none 0 0) (below_set (Nat.le_refl w.heap.size) 0 (.bool false) hb2)))
              clear hs2 hb2 hs' hb' hr hb2' hw HRd HCf ho
              unfold cmV0
              go_wp2
              exact bodyPost_ret (v := .tuple #[cmV0, .int .i64 2]) (results_two2 Tryd.results11 _ _ w.heap.size 37 _ (0, 0) _ rfl rfl S3.out Tryd.underlying37 rfl SI.out) rfl ⟨HBw.out, .inl ⟨HNo2.out, rfl⟩⟩
            · have hs2 := kept_block hs' hb2'
              have hb2 := hb'.trans (hb2'.mono hb'.size)
              have HNo2 : Hid (cFind zs = some (true, vn)) := by show _ = _; rw [HCf.out, ho]; rfl
              rw [Int.toNat_natCast] at hcm ⊢
              have z0 : w2.cell? ⟨w.heap.size, 0, none⟩ = some (.bool false) := cell_of_row w2 _ 0 _ _ _ hs2
              have z1 : w2.cell? ⟨w.heap.size, 1, none⟩ = some (.slice none 0 0) := cell_of_row w2 _ 1 _ _ _ hs2
              have z2 : w2.cell? ⟨w.heap.size, 2, none⟩ = some (.slice none 0 0) := cell_of_row w2 _ 2 _ _ _ hs2
              have f0 := thawed hs2
              have S3 := Lib.hid (set_block (set_block (set_block hs2 0 (.bool true)) 1 (.slice A2 (cCnt true (zs.drop vn)) c2)) 2 (.slice none 0 0))
              have HBw := Lib.hid (below_set (Nat.le_refl _) 2 (.slice none 0 0) (below_set (Nat.le_refl _) 1 (.slice A2 (cCnt true (zs.drop vn)) c2) (below_set (Nat.le_refl w.heap.size) 0 (.bool true) hb2)))
              have HCm := Lib.hid (hcm.set3 hs2 (.bool true) (.slice A2 (cCnt true (zs.drop vn)) c2) (.slice none 0 0))
              clear hs2 hb2 hs' hb' hr hb2' hw HRd HCf ho hcm
              unfold cmV
              go_wp2
              exact bodyPost_ret (v := .tuple #[cmV true A2 (cCnt true (zs.drop vn)) c2, .int .i64 0]) (results_two2 Tryd.results11 _ _ w.heap.size 37 _ (0, 0) _ rfl rfl S3.out Tryd.underlying37 rfl SI.out) rfl ⟨HBw.out, .inr ⟨true, vn, HNo2.out, A2, c2, g2, rfl, HCm.out⟩⟩
        · have hix := run_index_agg (P := Tryd.prog) wr 77 65 4 2 #[.int .u16 3, .int .u16 10, .int .u16 0, .int .u16 4, .int .u16 3, .int .u16 1, .int .u16 0, .int .u16 3] #[.int .u16 0, .int .u16 4] 1 Tryd.underlying77 (by simp [go_sem]) (by simp [go_sem]) (by omega) rfl
          have hix2 : (Instr.index 77 (.agg #[.int .u16 3, .int .u16 10, .int .u16 0, .int .u16 4, .int .u16 3, .int .u16 1, .int .u16 0, .int .u16 3]) (.int .i64 1)).run Tryd.prog wr = .ok (.agg #[.int .u16 0, .int .u16 4]) wr := hix
          have HKey := Lib.hid (kind_key (a := 0) (b := 4) (u16_wf (by omega) (by omega)) (u16_wf (by omega) (by omega)))
          have hk2 := HK.out.2 0 4 (by omega) (by omega) (by omega) (by omega)
          have hal : Below wr.heap.size wr (wr.alloc (.cells #[.int .u16 0, .int .u16 4] 65)) := (Below.refl _ _).alloc (Nat.le_refl _) _
          have hw := hown.alloc (.cells #[.int .u16 0, .int .u16 4] 65)
          have hs' := kept_block hs hal
          have hb' := hb.trans (hal.mono hb.size)
          clear hown hs hb hal
          cases hc1 : cFst zs 0 4 (cN zs) with
          | none =>
            have hh : has D (kL 0 4) = false := by rw [hk2.1, hc1]; rfl
            have HN := Lib.hid (noK_succ HNo.out (x := (0, 4)) rfl hc1)
            clear hc1 hk2 HNo
            generalize cN zs = N at *
            go_wp2_with (at_lookup; refine wpList_lookup_own_ok_int _ rfl _ _ 74 rfl 65 58 .u32 Tryd.kindlaw Tryd.underlying74 Tryd.underlying58 (Tryd.zeroU32 _) BM N D rfl hw _ (kL 0 4) rfl HKey.out ?_; intro cv hat hwc; rw [hh]; clear hat hwc)
            go_roundw
            case rel => exact ⟨1 + 1, by omega, by go_num, HN, hw, hs', hb'⟩
            case measure => simp [intOf]
          | some v =>
            have hh : has D (kL 0 4) = true := by rw [hk2.1, hc1]; rfl
            have hv := hk2.2 v hc1
            have hvb := cFst_lt HB.out hc1
            obtain ⟨vn, rfl⟩ : ∃ vn : Nat, v = (vn : Int) := ⟨v.toNat, by omega⟩
            have hpk := noK_pick HNo.out (x := (0, 4)) rfl hc1
            rw [show decide (((0, 4) : Int × Int).2 = 10 ∨ ((0, 4) : Int × Int).2 = 4) = true by decide] at hpk
            have HCf := Lib.hid (Hcf.out _ _ hpk)
            have HRd := Lib.hid (fun W hW => cread_any A n c zs true vn W (hr.below hW) HB.out hn hc (by omega))
            clear hc1 hk2 HNo hpk Hcf Hcn HK
            generalize cN zs = N at *
            have HV := Lib.hid hv
            clear hv
            go_wp2_with (first
              | (at_lookup; refine wpList_lookup_own_ok_int _ rfl _ _ 74 rfl 65 58 .u32 Tryd.kindlaw Tryd.underlying74 Tryd.underlying58 (Tryd.zeroU32 _) BM N D rfl hw _ (kL 0 4) rfl HKey.out ?_; intro cv hat hwc; rw [hh]; obtain rfl : (vn : Int) = cv := (by rw [HV.out] at hat; simpa using hat); clear hat hwc)
              | (go_at_call 30; (with_reducible refine (cwide_any 0 4 (by omega) _).mono ?_); rintro e wn ⟨rfl, hbn⟩; replace hs' := kept_block hs' hbn; replace hb' := hb'.trans (hbn.mono hb'.size); clear hbn))
            refine (HRd.out _ hb').mono ?_
            rintro e w2 ⟨hb2', ⟨ho, rfl⟩ | ⟨ho, A2, c2, g2, rfl, hcm⟩⟩
            · have hs2 := kept_block hs' hb2'
              have hb2 := hb'.trans (hb2'.mono hb'.size)
              have HNo2 : Hid (cFind zs = none) := by show _ = _; rw [HCf.out, ho]; rfl
              have z0 : w2.cell? ⟨w.heap.size, 0, none⟩ = some (.bool false) := cell_of_row w2 _ 0 _ _ _ hs2
              have z1 : w2.cell? ⟨w.heap.size, 1, none⟩ = some (.slice none 0 0) := cell_of_row w2 _ 1 _ _ _ hs2
              have z2 : w2.cell? ⟨w.heap.size, 2, none⟩ = some (.slice none 0 0) := cell_of_row w2 _ 2 _ _ _ hs2
              have f0 := thawed hs2
              have S3 := Lib.hid (set_block (set_block (set_block hs2 0 (.bool false)) 1 (.slice none 0 0)) 2 (.slice none 0 0))
              have HBw := Lib.hid (below_set (Nat.le_refl _) 2 (.slice none 0 0) (below_set (Nat.le_refl _) 1 (.slice none 0 0) (below_set (Nat.le_refl w.heap.size) 0 (.bool false) hb2)))
              clear hs2 hb2 hs' hb' hr hb2' hw HRd HCf ho
              unfold cmV0
              go_wp2
              exact bodyPost_ret (v := .tuple #[cmV0, .int .i64 2]) (results_two2 Tryd.results11 _ _ w.heap.size 37 _ (0, 0) _ rfl rfl S3.out Tryd.underlying37 rfl SI.out) rfl ⟨HBw.out, .inl ⟨HNo2.out, rfl⟩⟩
            · have hs2 := kept_block hs' hb2'
              have hb2 := hb'.trans (hb2'.mono hb'.size)
              have HNo2 : Hid (cFind zs = some (true, vn)) := by show _ = _; rw [HCf.out, ho]; rfl
              rw [Int.toNat_natCast] at hcm ⊢
              have z0 : w2.cell? ⟨w.heap.size, 0, none⟩ = some (.bool false) := cell_of_row w2 _ 0 _ _ _ hs2
              have z1 : w2.cell? ⟨w.heap.size, 1, none⟩ = some (.slice none 0 0) := cell_of_row w2 _ 1 _ _ _ hs2
              have z2 : w2.cell? ⟨w.heap.size, 2, none⟩ = some (.slice none 0 0) := cell_of_row w2 _ 2 _ _ _ hs2
              have f0 := thawed hs2
              have S3 := Lib.hid (set_block (set_block (set_block hs2 0 (.bool true)) 1 (.slice A2 (cCnt true (zs.drop vn)) c2)) 2 (.slice none 0 0))
              have HBw := Lib.hid (below_set (Nat.le_refl _) 2 (.slice none 0 0) (below_set (Nat.le_refl _) 1 (.slice A2 (cCnt true (zs.drop vn)) c2) (below_set (Nat.le_refl w.heap.size) 0 (.bool true) hb2)))
              have HCm := Lib.hid (hcm.set3 hs2 (.bool true) (.slice A2 (cCnt true (zs.drop vn)) c2) (.slice none 0 0))
              clear hs2 hb2 hs' hb' hr hb2' hw HRd HCf ho hcm
              unfold cmV
              go_wp2
              exact bodyPost_ret (v := .tuple #[cmV true A2 (cCnt true (zs.drop vn)) c2, .int .i64 0]) (results_two2 Tryd.results11 _ _ w.heap.size 37 _ (0, 0) _ rfl rfl S3.out Tryd.underlying37 rfl SI.out) rfl ⟨HBw.out, .inr ⟨true, vn, HNo2.out, A2, c2, g2, rfl, HCm.out⟩⟩
        · have hix := run_index_agg (P := Tryd.prog) wr 77 65 4 2 #[.int .u16 3, .int .u16 10, .int .u16 0, .int .u16 4, .int .u16 3, .int .u16 1, .int .u16 0, .int .u16 3] #[.int .u16 3, .int .u16 1] 2 Tryd.underlying77 (by simp [go_sem]) (by simp [go_sem]) (by omega) rfl
          have hix2 : (Instr.index 77 (.agg #[.int .u16 3, .int .u16 10, .int .u16 0, .int .u16 4, .int .u16 3, .int .u16 1, .int .u16 0, .int .u16 3]) (.int .i64 2)).run Tryd.prog wr = .ok (.agg #[.int .u16 3, .int .u16 1]) wr := hix
          have HKey := Lib.hid (kind_key (a := 3) (b := 1) (u16_wf (by omega) (by omega)) (u16_wf (by omega) (by omega)))
          have hk2 := HK.out.2 3 1 (by omega) (by omega) (by omega) (by omega)
          have hal : Below wr.heap.size wr (wr.alloc (.cells #[.int .u16 3, .int .u16 1] 65)) := (Below.refl _ _).alloc (Nat.le_refl _) _
          have hw := hown.alloc (.cells #[.int .u16 3, .int .u16 1] 65)
          have hs' := kept_block hs hal
          have hb' := hb.trans (hal.mono hb.size)
          clear hown hs hb hal
          cases hc1 : cFst zs 3 1 (cN zs) with
          | none =>
            have hh : has D (kL 3 1) = false := by rw [hk2.1, hc1]; rfl
            have HN := Lib.hid (noK_succ HNo.out (x := (3, 1)) rfl hc1)
            clear hc1 hk2 HNo
            generalize cN zs = N at *
            go_wp2_with (at_lookup; refine wpList_lookup_own_ok_int _ rfl _ _ 74 rfl 65 58 .u32 Tryd.kindlaw Tryd.underlying74 Tryd.underlying58 (Tryd.zeroU32 _) BM N D rfl hw _ (kL 3 1) rfl HKey.out ?_; intro cv hat hwc; rw [hh]; clear hat hwc)
            go_roundw
            case rel => exact ⟨2 + 1, by omega, by go_num, HN, hw, hs', hb'⟩
            case measure => simp [intOf]
          | some v =>
            have hh : has D (kL 3 1) = true := by rw [hk2.1, hc1]; rfl
            have hv := hk2.2 v hc1
            have hvb := cFst_lt HB.out hc1
            obtain ⟨vn, rfl⟩ : ∃ vn : Nat, v = (vn : Int) := ⟨v.toNat, by omega⟩
            have hpk := noK_pick HNo.out (x := (3, 1)) rfl hc1
            rw [show decide (((3, 1) : Int × Int).2 = 10 ∨ ((3, 1) : Int × Int).2 = 4) = false by decide] at hpk
            have HCf := Lib.hid (Hcf.out _ _ hpk)
            have HRd := Lib.hid (fun W hW => cread_any A n c zs false vn W (hr.below hW) HB.out hn hc (by omega))
            clear hc1 hk2 HNo hpk Hcf Hcn HK
            generalize cN zs = N at *
            have HV := Lib.hid hv
            clear hv
            go_wp2_with (first
              | (at_lookup; refine wpList_lookup_own_ok_int _ rfl _ _ 74 rfl 65 58 .u32 Tryd.kindlaw Tryd.underlying74 Tryd.underlying58 (Tryd.zeroU32 _) BM N D rfl hw _ (kL 3 1) rfl HKey.out ?_; intro cv hat hwc; rw [hh]; obtain rfl : (vn : Int) = cv := (by rw [HV.out] at hat; simpa using hat); clear hat hwc)
              | (go_at_call 30; (with_reducible refine (cwide_any 3 1 (by omega) _).mono ?_); rintro e wn ⟨rfl, hbn⟩; replace hs' := kept_block hs' hbn; replace hb' := hb'.trans (hbn.mono hb'.size); clear hbn))
            refine (HRd.out _ hb').mono ?_
            rintro e w2 ⟨hb2', ⟨ho, rfl⟩ | ⟨ho, A2, c2, g2, rfl, hcm⟩⟩
            · have hs2 := kept_block hs' hb2'
              have hb2 := hb'.trans (hb2'.mono hb'.size)
              have HNo2 : Hid (cFind zs = none) := by show _ = _; rw [HCf.out, ho]; rfl
              have z0 : w2.cell? ⟨w.heap.size, 0, none⟩ = some (.bool false) := cell_of_row w2 _ 0 _ _ _ hs2
              have z1 : w2.cell? ⟨w.heap.size, 1, none⟩ = some (.slice none 0 0) := cell_of_row w2 _ 1 _ _ _ hs2
              have z2 : w2.cell? ⟨w.heap.size, 2, none⟩ = some (.slice none 0 0) := cell_of_row w2 _ 2 _ _ _ hs2
              have f0 := thawed hs2
              have S3 := Lib.hid (set_block (set_block (set_block hs2 0 (.bool false)) 1 (.slice none 0 0)) 2 (.slice none 0 0))
              have HBw := Lib.hid (below_set (Nat.le_refl _) 2 (.slice none 0 0) (below_set (Nat.le_refl _) 1 (.slice none 0 0) (below_set (Nat.le_refl w.heap.size) 0 (.bool false) hb2)))
              clear hs2 hb2 hs' hb' hr hb2' hw HRd HCf ho
              unfold cmV0
              go_wp2
              exact bodyPost_ret (v := .tuple #[cmV0, .int .i64 2]) (results_two2 Tryd.results11 _ _ w.heap.size 37 _ (0, 0) _ rfl rfl S3.out Tryd.underlying37 rfl SI.out) rfl ⟨HBw.out, .inl ⟨HNo2.out, rfl⟩⟩
            · have hs2 := kept_block hs' hb2'
              have hb2 := hb'.trans (hb2'.mono hb'.size)
              have HNo2 : Hid (cFind zs = some (false, vn)) := by show _ = _; rw [HCf.out, ho]; rfl
              rw [Int.toNat_natCast] at hcm ⊢
              have z0 : w2.cell? ⟨w.heap.size, 0, none⟩ = some (.bool false) := cell_of_row w2 _ 0 _ _ _ hs2
              have z1 : w2.cell? ⟨w.heap.size, 1, none⟩ = some (.slice none 0 0) := cell_of_row w2 _ 1 _ _ _ hs2
              have z2 : w2.cell? ⟨w.heap.size, 2, none⟩ = some (.slice none 0 0) := cell_of_row w2 _ 2 _ _ _ hs2
              have f0 := thawed hs2
              have S3 := Lib.hid (set_block (set_block (set_block hs2 0 (.bool false)) 1 (.slice none 0 0)) 2 (.slice A2 (cCnt false (zs.drop vn)) c2))
              have HBw := Lib.hid (below_set (Nat.le_refl _) 2 (.slice A2 (cCnt false (zs.drop vn)) c2) (below_set (Nat.le_refl _) 1 (.slice none 0 0) (below_set (Nat.le_refl w.heap.size) 0 (.bool false) hb2)))
              have HCm := Lib.hid (hcm.set3 hs2 (.bool false) (.slice none 0 0) (.slice A2 (cCnt false (zs.drop vn)) c2))
              clear hs2 hb2 hs' hb' hr hb2' hw HRd HCf ho hcm
              unfold cmV
              go_wp2
              exact bodyPost_ret (v := .tuple #[cmV false A2 (cCnt false (zs.drop vn)) c2, .int .i64 0]) (results_two2 Tryd.results11 _ _ w.heap.size 37 _ (0, 0) _ rfl rfl S3.out Tryd.underlying37 rfl SI.out) rfl ⟨HBw.out, .inr ⟨false, vn, HNo2.out, A2, c2, g2, rfl, HCm.out⟩⟩
        · have hix := run_index_agg (P := Tryd.prog) wr 77 65 4 2 #[.int .u16 3, .int .u16 10, .int .u16 0, .int .u16 4, .int .u16 3, .int .u16 1, .int .u16 0, .int .u16 3] #[.int .u16 0, .int .u16 3] 3 Tryd.underlying77 (by simp [go_sem]) (by simp [go_sem]) (by omega) rfl
          have hix2 : (Instr.index 77 (.agg #[.int .u16 3, .int .u16 10, .int .u16 0, .int .u16 4, .int .u16 3, .int .u16 1, .int .u16 0, .int .u16 3]) (.int .i64 3)).run Tryd.prog wr = .ok (.agg #[.int .u16 0, .int .u16 3]) wr := hix
          have HKey := Lib.hid (kind_key (a := 0) (b := 3) (u16_wf (by omega) (by omega)) (u16_wf (by omega) (by omega)))
          have hk2 := HK.out.2 0 3 (by omega) (by omega) (by omega) (by omega)
          have hal : Below wr.heap.size wr (wr.alloc (.cells #[.int .u16 0, .int .u16 3] 65)) := (Below.refl _ _).alloc (Nat.le_refl _) _
          have hw := hown.alloc (.cells #[.int .u16 0, .int .u16 3] 65)
          have hs' := kept_block hs hal
          have hb' := hb.trans (hal.mono hb.size)
          clear hown hs hb hal
          cases hc1 : cFst zs 0 3 (cN zs) with
          | none =>
            have hh : has D (kL 0 3) = false := by rw [hk2.1, hc1]; rfl
            have HN := Lib.hid (noK_succ HNo.out (x := (0, 3)) rfl hc1)
            clear hc1 hk2 HNo
            generalize cN zs = N at *
            go_wp2_with (at_lookup; refine wpList_lookup_own_ok_int _ rfl _ _ 74 rfl 65 58 .u32 Tryd.kindlaw Tryd.underlying74 Tryd.underlying58 (Tryd.zeroU32 _) BM N D rfl hw _ (kL 0 3) rfl HKey.out ?_; intro cv hat hwc; rw [hh]; clear hat hwc)
            go_roundw
            case rel => exact ⟨3 + 1, by omega, by go_num, HN, hw, hs', hb'⟩
            case measure => simp [intOf]
          | some v =>
            have hh : has D (kL 0 3) = true := by rw [hk2.1, hc1]; rfl
            have hv := hk2.2 v hc1
            have hvb := cFst_lt HB.out hc1
            obtain ⟨vn, rfl⟩ : ∃ vn : Nat, v = (vn : Int) := ⟨v.toNat, by omega⟩
            have hpk := noK_pick HNo.out (x := (0, 3)) rfl hc1
            rw [show decide (((0, 3) : Int × Int).2 = 10 ∨ ((0, 3) : Int × Int).2 = 4) = false by decide] at hpk
            have HCf := Lib.hid (Hcf.out _ _ hpk)
            have HRd := Lib.hid (fun W hW => cread_any A n c zs false vn W (hr.below hW) HB.out hn hc (by omega))
            clear hc1 hk2 HNo hpk Hcf Hcn HK
            generalize cN zs = N at *
            have HV := Lib.hid hv
            clear hv
            go_wp2_with (first
              | (at_lookup; refine wpList_lookup_own_ok_int _ rfl _ _ 74 rfl 65 58 .u32 Tryd.kindlaw Tryd.underlying74 Tryd.underlying58 (Tryd.zeroU32 _) BM N D rfl hw _ (kL 0 3) rfl HKey.out ?_; intro cv hat hwc; rw [hh]; obtain rfl : (vn : Int) = cv := (by rw [HV.out] at hat; simpa using hat); clear hat hwc)
              | (go_at_call 30; (with_reducible refine (cwide_any 0 3 (by omega) _).mono ?_); rintro e wn ⟨rfl, hbn⟩; replace hs' := kept_block hs' hbn; replace hb' := hb'.trans (hbn.mono hb'.size); clear hbn))
            refine (HRd.out _ hb').mono ?_
            rintro e w2 ⟨hb2', ⟨ho, rfl⟩ | ⟨ho, A2, c2, g2, rfl, hcm⟩⟩
            · have hs2 := kept_block hs' hb2'
              have hb2 := hb'.trans (hb2'.mono hb'.size)
              have HNo2 : Hid (cFind zs = none) := by show _ = _; rw [HCf.out, ho]; rfl
              have z0 : w2.cell? ⟨w.heap.size, 0, none⟩ = some (.bool false) := cell_of_row w2 _ 0 _ _ _ hs2
              have z1 : w2.cell? ⟨w.heap.size, 1, none⟩ = some (.slice none 0 0) := cell_of_row w2 _ 1 _ _ _ hs2
              have z2 : w2.cell? ⟨w.heap.size, 2, none⟩ = some (.slice none 0 0) := cell_of_row w2 _ 2 _ _ _ hs2
              have f0 := thawed hs2
              have S3 := Lib.hid (set_block (set_block (set_block hs2 0 (.bool false)) 1 (.slice none 0 0)) 2 (.slice none 0 0))
              have HBw := Lib.hid (below_set (Nat.le_refl _) 2 (.slice none 0 0) (below_set (Nat.le_refl _) 1 (.slice none 0 0) (below_set (Nat.le_refl w.heap.size) 0 (.bool false) hb2)))
              clear hs2 hb2 hs' hb' hr hb2' hw HRd HCf ho
              unfold cmV0
              go_wp2
              exact bodyPost_ret (v := .tuple #[cmV0, .int .i64 2]) (results_two2 Tryd.results11 _ _ w.heap.size 37 _ (0, 0) _ rfl rfl S3.out Tryd.underlying37 rfl SI.out) rfl ⟨HBw.out, .inl ⟨HNo2.out, rfl⟩⟩
            · have hs2 := kept_block hs' hb2'
              have hb2 := hb'.trans (hb2'.mono hb'.size)
              have HNo2 : Hid (cFind zs = some (false, vn)) := by show _ = _; rw [HCf.out, ho]; rfl
              rw [Int.toNat_natCast] at hcm ⊢
              have z0 : w2.cell? ⟨w.heap.size, 0, none⟩ = some (.bool false) := cell_of_row w2 _ 0 _ _ _ hs2
              have z1 : w2.cell? ⟨w.heap.size, 1, none⟩ = some (.slice none 0 0) := cell_of_row w2 _ 1 _ _ _ hs2
              have z2 : w2.cell? ⟨w.heap.size, 2, none⟩ = some (.slice none 0 0) := cell_of_row w2 _ 2 _ _ _ hs2
              have f0 := thawed hs2
              have S3 := Lib.hid (set_block (set_block (set_block hs2 0 (.bool false)) 1 (.slice none 0 0)) 2 (.slice A2 (cCnt false (zs.drop vn)) c2))
              have HBw := Lib.hid (below_set (Nat.le_refl _) 2 (.slice A2 (cCnt false (zs.drop vn)) c2) (below_set (Nat.le_refl _) 1 (.slice none 0 0) (below_set (Nat.le_refl w.heap.size) 0 (.bool false) hb2)))
              have HCm := Lib.hid (hcm.set3 hs2 (.bool false) (.slice none 0 0) (.slice A2 (cCnt false (zs.drop vn)) c2))
              clear hs2 hb2 hs' hb' hr hb2' hw HRd HCf ho hcm
              unfold cmV
              go_wp2
              exact bodyPost_ret (v := .tuple #[cmV false A2 (cCnt false (zs.drop vn)) c2, .int .i64 0]) (results_two2 Tryd.results11 _ _ w.heap.size 37 _ (0, 0) _ rfl rfl S3.out Tryd.underlying37 rfl SI.out) rfl ⟨HBw.out, .inr ⟨false, vn, HNo2.out, A2, c2, g2, rfl, HCm.out⟩⟩
      · obtain rfl : k = 4 := by omega
        have HNo2 := Lib.hid (Hcn.out (noK_none HNo.out))
        have z0 : wr.cell? ⟨w.heap.size, 0, none⟩ = some (.bool false) := cell_of_row wr _ 0 _ _ _ hs
        have z1 : wr.cell? ⟨w.heap.size, 1, none⟩ = some (.slice none 0 0) := cell_of_row wr _ 1 _ _ _ hs
        have z2 : wr.cell? ⟨w.heap.size, 2, none⟩ = some (.slice none 0 0) := cell_of_row wr _ 2 _ _ _ hs
        have f0 := thawed hs
        have S3 := Lib.hid (set_block (set_block (set_block hs 0 (.bool false)) 1 (.slice none 0 0)) 2 (.slice none 0 0))
        have HBw := Lib.hid (below_set (Nat.le_refl _) 2 (.slice none 0 0) (below_set (Nat.le_refl _) 1 (.slice none 0 0) (below_set (Nat.le_refl w.heap.size) 0 (.bool false) hb)))
        clear hs hb hown Hcf Hcn HK HNo hr
        go_wp2
        exact bodyPost_ret (v := .tuple #[cmV0, .int .i64 2]) (results_two2 Tryd.results11 _ _ w.heap.size 37 _ (0, 0) _ rfl rfl S3.out Tryd.underlying37 rfl SI.out) rfl ⟨HBw.out, .inl ⟨HNo2.out, rfl⟩⟩

end Go.Proofs.YthkaeimpflggjaaDoor
