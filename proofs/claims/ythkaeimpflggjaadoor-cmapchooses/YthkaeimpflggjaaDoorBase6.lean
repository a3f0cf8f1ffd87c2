/- What the laws of this seat lean on: CmS SegU Reg SegV1. -/
import Derived.Deep.RegionHeld3
import Derived.Deep.QuietTactic
import Derived.BigQuiet
import Derived.Deep.DeepCutAuto
import Derived.Deep.RegionHeld
import Derived.Test.YthkaeimpflggjaaDoorBase1
import Derived.Test.YthkaeimpflggjaaDoorBase2
import Derived.Test.YthkaeimpflggjaaDoorBase4
import Derived.Test.YthkaeimpflggjaaDoorBase5

/- cmap.Parse: a contract over this seat's translation. -/
namespace Go.Proofs.YthkaeimpflggjaaDoor
open Go.RowKit Go.Maps
set_option linter.unusedVariables false

/-- The kinds that are read, as the variable holds them. -/
def rkL : List Int := [3, 10, 0, 4, 3, 1, 0, 3]
def Rk (w : World) : Prop := Row w (some ⟨0, 0, none⟩) 8 (cellsOf .u16 rkL)
theorem Rk.below {w w' : World} (h : Rk w) (hb : Below w.heap.size w w') : Rk w' := Row.below h hb
theorem Rk.cells {w : World} (h : Rk w) : w.cell? ⟨0, 0, none⟩ = some (.int .u16 3) ∧ w.cell? ⟨0, 1, none⟩ = some (.int .u16 10) ∧ w.cell? ⟨0, 2, none⟩ = some (.int .u16 0) ∧ w.cell? ⟨0, 3, none⟩ = some (.int .u16 4) ∧ w.cell? ⟨0, 4, none⟩ = some (.int .u16 3) ∧ w.cell? ⟨0, 5, none⟩ = some (.int .u16 1) ∧ w.cell? ⟨0, 6, none⟩ = some (.int .u16 0) ∧ w.cell? ⟨0, 7, none⟩ = some (.int .u16 3) := by
  have key : ∀ (i : Nat) (x : Int), rkL[i]? = some x → w.cell? ⟨0, i, none⟩ = some (.int .u16 x) := by
    intro i x hx
    obtain ⟨g', off', e', _, hc⟩ := Row.at h (j := i) (u := .int .u16 x) (cellsOf_get hx)
    simp only [Option.some.injEq, Addr.mk.injEq, and_true] at e'
    obtain ⟨rfl, rfl⟩ := e'
    simpa using hc
  exact ⟨key 0 3 rfl, key 1 10 rfl, key 2 0 rfl, key 3 4 rfl, key 4 3 rfl, key 5 1 rfl, key 6 0 rfl, key 7 3 rfl⟩

/-- What Parse leaves. -/
def RetPC (w : World) (zs : List Int) (e : Ending) (w' : World) : Prop :=
  Below w.heap.size w w' ∧ ((cFind zs = none ∧ e = .returned (.tuple #[cmV0, .int .i64 2])) ∨
    (∃ (wd : Bool) (v : Nat), cFind zs = some (wd, v) ∧ ∃ A c g, e = .returned (.tuple #[cmV wd A (cCnt wd (zs.drop v)) c, .int .i64 0]) ∧ CMap w' wd (zs.drop v) A g))

/-- The kinds one by one. -/
def ksL : List (Int × Int) := [(3, 10), (0, 4), (3, 1), (0, 3)]
/-- None of the first k kinds is there. -/
def NoK (zs : List Int) (k : Nat) : Prop := ∀ j x, j < k → ksL[j]? = some x → cFst zs x.1 x.2 (cN zs) = none
theorem noK_pick {zs : List Int} {k : Nat} {x : Int × Int} {v : Int} (h : NoK zs k) (hx : ksL[k]? = some x) (hv : cFst zs x.1 x.2 (cN zs) = some v) : cPick zs = some (decide (x.2 = 10 ∨ x.2 = 4), v) := by
  unfold cPick
  rcases k with _ | _ | _ | _ | k
  · simp [ksL] at hx; subst hx; rw [hv]; rfl
  · simp [ksL] at hx; subst hx
    rw [h 0 (3, 10) (by omega) rfl, hv]; rfl
  · simp [ksL] at hx; subst hx
    rw [h 0 (3, 10) (by omega) rfl, h 1 (0, 4) (by omega) rfl, hv]; rfl
  · simp [ksL] at hx; subst hx
    rw [h 0 (3, 10) (by omega) rfl, h 1 (0, 4) (by omega) rfl, h 2 (3, 1) (by omega) rfl, hv]; rfl
  · simp [ksL] at hx
theorem noK_none {zs : List Int} (h : NoK zs 4) : cPick zs = none := by
  unfold cPick
  rw [h 0 (3, 10) (by omega) rfl, h 1 (0, 4) (by omega) rfl, h 2 (3, 1) (by omega) rfl, h 3 (0, 3) (by omega) rfl]
theorem noK_succ {zs : List Int} {k : Nat} {x : Int × Int} (h : NoK zs k) (hx : ksL[k]? = some x) (hv : cFst zs x.1 x.2 (cN zs) = none) : NoK zs (k + 1) := by
  intro j y hj hy
  rcases Nat.lt_or_ge j k with h1 | h1
  · exact h j y h1 hy
  · obtain rfl : j = k := by omega
    rw [hx] at hy
    cases hy
    exact hv
theorem ksL_kind {k : Nat} {x : Int × Int} (hx : ksL[k]? = some x) : (x.1 = 3 ∧ x.2 = 10) ∨ (x.1 = 0 ∧ x.2 = 4) ∨ (x.1 = 3 ∧ x.2 = 1) ∨ (x.1 = 0 ∧ x.2 = 3) := by
  rcases k with _ | _ | _ | _ | k <;> simp [ksL] at hx <;> subst hx <;> simp

theorem RowS.keepI {α : Type} {enc : α → List Value} {k : Nat} {w w' : World} {A : Option Addr} {n : Nat} {l : List α} (hk : ∀ x, (enc x).length = k) (hk0 : 0 < k) (h : RowS enc k w A n l) (hs : w.heap.size ≤ w'.heap.size) (first : ∀ x, ∃ q y, (enc x)[0]? = some (.int q y))
    (hkp : ∀ g o q y, w.cell? ⟨g, o, none⟩ = some (.int q y) → w'.heap[g]? = w.heap[g]?) : RowS enc k w' A n l := by
  cases l with
  | nil =>
    have hn : n = 0 := h.1.symm
    subst hn
    refine ⟨rfl, ?_⟩
    rw [Nat.zero_mul]
    exact ⟨rfl, fun h => absurd h (by omega)⟩
  | cons x r =>
    obtain ⟨g, off, e, hg, hc⟩ := h.at hk hk0 (j := 0) (x := x) rfl
    refine h.keep hs (fun g' e' hg' => ?_)
    rw [e] at e'
    simp [blockOf] at e'
    subst e'
    obtain ⟨q, y, hx⟩ := first x
    exact hkp _ _ q y (hc 0 _ hx)
theorem CMap.keepI {w w' : World} {wd : Bool} {t : List Int} {A : Option Addr} {g : Nat} (h : CMap w wd t A g) (hs : w.heap.size ≤ w'.heap.size) (hkp : ∀ g o q y, w.cell? ⟨g, o, none⟩ = some (.int q y) → w'.heap[g]? = w.heap[g]?) : CMap w' wd t A g := by
  cases wd with
  | true => exact ⟨⟨h.1.row.keepI encG_len (by omega) hs (fun x => ⟨_, _, rfl⟩) hkp, h.1.ok, h.1.fit⟩, h.2⟩
  | false =>
    refine ⟨⟨h.1.row.keepI encS_len (by omega) hs (fun x => ⟨_, _, rfl⟩) hkp, ?_, h.1.ok, h.1.byt⟩, h.2⟩
    rcases h.1.num with hn | hn
    · exact .inl hn
    · rcases h.1.ok with hz | ⟨_, hM, _⟩
      · exact .inl hz
      · by_cases hM0 : sM t = 0
        · refine .inr ?_
          rw [hM0] at hn ⊢
          exact ⟨hn.1, fun h => absurd h (by omega)⟩
        · have hcn := num_cell hn (i := 0) (by omega)
          exact .inr (hn.keep hs (fun q e hq => by simp [blockOf] at e; subst e; exact hkp _ _ _ _ hcn))
theorem not_int {w : World} {B t n c n' c' : Nat} {b : Bool} {A A' : Option Addr} (h : w.heap[B]? = some (.cells #[.bool b, .slice A n c, .slice A' n' c'] t (0, 0))) {o : Nat} {k : IntKind} {x : Int} : w.cell? ⟨B, o, none⟩ ≠ some (.int k x) := by
  rw [cell_of_row _ _ o _ _ _ h]
  rcases o with _ | _ | _ | o <;> simp
theorem CMap.set3 {w : World} {wd b : Bool} {t : List Int} {A : Option Addr} {g B : Nat} (h : CMap w wd t A g) (hb : w.heap[B]? = some (.cells #[.bool b, .slice none 0 0, .slice none 0 0] 37 (0, 0))) (v0 v1 v2 : Value) :
    CMap (((w.setCell ⟨B, 0, none⟩ v0).setCell ⟨B, 1, none⟩ v1).setCell ⟨B, 2, none⟩ v2) wd t A g :=
  h.keepI (by simp [World.setCell]) (fun g' o q y hc => by
    have hne : g' ≠ B := fun e => by subst e; exact not_int hb hc
    exact (Below.heap_setCell _ _ _ _ hne).trans ((Below.heap_setCell _ _ _ _ hne).trans (Below.heap_setCell _ _ _ _ hne)))
theorem cFst_lt {zs : List Int} (hB : Bytes zs) {a b v : Int} : ∀ {k : Nat}, cFst zs a b k = some v → 0 ≤ v ∧ v < 4294967296
  | k + 1, h => by
    rw [cFst] at h
    cases hk : cFst zs a b k with
    | some u => rw [hk] at h; cases h; exact cFst_lt hB hk
    | none =>
      rw [hk] at h
      simp only at h
      split at h
      · cases h; exact n4at_lt hB _
      · cases h

/-- An element, of several cells, of an array that is a value. -/
theorem run_index_agg {P : Program} (w : World) (T e : TypeId) (len s : Nat) (cs vs : Array Value) (k : Nat) (hT : P.underlying T = some (.array len e)) (ha : (isAgg e).run P w = .ok true w) (hs : (Go.sizeOf e).run P w = .ok s w) (hk : k < len) (hv : cs.extract (k * s) (k * s + s) = vs) :
    (Instr.index T (.agg cs) (.int .i64 k)).run P w = .ok (.agg vs) w := by
  have hk' : (k : Int) < (len : Int) := by omega
  have hk0 : (0 : Int) ≤ (k : Int) := by omega
  simp only [Instr.index, asIntOf, Sem.run_bind, Sem.run_pure, Result.andThen_ok, run_underlying hT, hk', hk0, and_self, if_true, hs, Int.toNat_natCast, Go.part, ha, hv]

set_option maxRecDepth 100000 in
set_option maxHeartbeats 4000000 in
theorem cparse_any (A : Option Addr) (n c : Nat) (zs : List Int) (w : World) (hr : Row w A n (cellsOf .u8 zs)) (hB : Bytes zs) (hn : n ≤ 1000000) (hc : n ≤ c) (hR : Rk w) :
    Calls Tryd.prog 11 #[.slice A n c] w (RetPC w zs) := by
  have SI := Lib.hid Tryd.cmapsize
  have hA1 : Below w.heap.size w (w.alloc (.cells #[.bool false, .slice none 0 0, .slice none 0 0] 37)) := (Below.refl _ _).alloc (Nat.le_refl _) _
  have hs := heap_alloc_new w (.cells #[.bool false, .slice none 0 0, .slice none 0 0] 37)
  have HPl := Lib.hid (places_any A n c zs _ (hr.below hA1) hB hn hc)
  have HB := Lib.hid hB
  clear hB
  go_enter Tryd.func11, Tryd.ntmps11
  go_wp2_with fail
  with_reducible refine HPl.out.mono ?_
  rintro e w1 ⟨hb1', ⟨hf, rfl⟩ | ⟨hf, BM, D, rfl, hown, hK⟩⟩
  · have hs1 := kept_block hs hb1'
    have hb1 := hA1.trans (hb1'.mono hA1.size)
    have HNo : Hid (cFind zs = none) := by show _ = _; unfold cFind; rw [hf]; rfl
    have z0 : w1.cell? ⟨w.heap.size, 0, none⟩ = some (.bool false) := cell_of_row w1 _ 0 _ _ _ hs1
    have z1 : w1.cell? ⟨w.heap.size, 1, none⟩ = some (.slice none 0 0) := cell_of_row w1 _ 1 _ _ _ hs1
    have z2 : w1.cell? ⟨w.heap.size, 2, none⟩ = some (.slice none 0 0) := cell_of_row w1 _ 2 _ _ _ hs1
    have f0 := thawed hs1
    have S3 := Lib.hid (set_block (set_block (set_block hs1 0 (.bool false)) 1 (.slice none 0 0)) 2 (.slice none 0 0))
    have HBw := Lib.hid (below_set (Nat.le_refl _) 2 (.slice none 0 0) (below_set (Nat.le_refl _) 1 (.slice none 0 0) (below_set (Nat.le_refl w.heap.size) 0 (.bool false) hb1)))
    clear hs hs1 hb1 hA1 hr HPl hb1' hf hR
    go_wp2
    exact bodyPost_ret (v := .tuple #[cmV0, .int .i64 2]) (results_two2 Tryd.results11 _ _ w.heap.size 37 _ (0, 0) _ rfl rfl S3.out Tryd.underlying37 rfl SI.out) rfl ⟨HBw.out, .inl ⟨HNo.out, rfl⟩⟩
  · have hs1 := kept_block hs hb1'
    have hb1 := hA1.trans (hb1'.mono hA1.size)
    have hR1 := hR.below hb1
    obtain ⟨g0, g1, g2, g3, g4, g5, g6, g7⟩ := hR1.cells
    clear hs hA1 HPl hb1' hR
    go_wp2
    clear g0 g1 g2 g3 g4 g5 g6 g7 hR1
    have Hcf : Hid (∀ wd v, cPick zs = some (wd, v) → cFind zs = if cOk zs wd v then some (wd, v.toNat) else none) := fun wd v h => by unfold cFind; rw [hf, h]; rfl
    have Hcn : Hid (cPick zs = none → cFind zs = none) := fun h => by unfold cFind; rw [hf, h]; rfl
    have HK := Lib.hid hK
    clear hK hf
    go_loopw [19] (fun i wr => ∃ k : Nat, k ≤ 4 ∧ i = .int .i64 k ∧ Hid (NoK zs k) ∧ wr.ownsMap Tryd.prog 65 (plainElem Tryd.prog 58) BM (cN zs) D ∧ wr.heap[w.heap.size]? = some (.cells #[.bool false, .slice none 0 0, .slice none 0 0] 37 (0, 0)) ∧ Below w.heap.size w wr) (fun i _ => 4 - (intOf i).toNat)
    case atStart => exact ⟨0, by omega, rfl, Lib.hid (fun j x hj _ => absurd hj (by omega)), hown, hs1, hb1⟩
    case round =>
      clear hown hs1 hb1
      obtain ⟨k, hk, rfl, HNo, hown, hs, hb⟩ := hrel
      by_cases hlt : k < 4
      · rcases (show k = 0 ∨ k = 1 ∨ k = 2 ∨ k = 3 by omega) with rfl | rfl | rfl | rfl
        · have hix := run_index_agg (P := Tryd.prog) wr 77 65 4 2 #[.int .u16 3, .int .u16 10, .int .u16 0, .int .u16 4, .int .u16 3, .int .u16 1, .int .u16 0, .int .u16 3] #[.int .u16 3, .int .u16 10] 0 Tryd.underlying77 (by simp [go_sem]) (by simp [go_sem]) (by omega) rfl
          have hix2 : (Instr.index 77 (.agg #[.int .u16 3, .int .u16 10, .int .u16 0, .int .u16 4, .int .u16 3, .int .u16 1, .int .u16 0, .int .u16 3]) (.int .i64 0)).run Tryd.prog wr = .ok (.agg #[.int .u16 3, .int .u16 10]) wr := hix
          have HKey := Lib.hid (kind_key (a := 3) (b := 10) (u16_wf (by omega) (by omega)) (u16_wf (by omega) (by omega)))
          have hk2 := HK.out.2 3 10 (by omega) (by omega) (by omega) (by omega)
          have hal : Below wr.heap.size wr (wr.alloc (.cells #[.int .u16 3, .int .u16 10] 65)) := (Below.refl _ _).alloc (Nat.le_refl _) _
          have hw := hown.alloc (.cells #[.int .u16 3, .int .u16 10] 65)
          have hs' := kept_block hs hal
          have hb' := hb.trans (hal.mono hb.size)
          clear hown hs hb hal
          cases hc1 : cFst zs 3 10 (cN zs) with
          | none =>
            have hh : has D (kL 3 10) = false := by rw [hk2.1, hc1]; rfl
            have HN := Lib.hid (noK_succ HNo.out (x := (3, 10)) rfl hc1)
            clear hc1 hk2 HNo
            generalize cN zs = N at *
            go_wp2_with (at_lookup; refine wpList_lookup_own_ok_int _ rfl _ _ 74 rfl 65 58 .u32 Tryd.kindlaw Tryd.underlying74 Tryd.underlying58 (Tryd.zeroU32 _) BM N D rfl hw _ (kL 3 10) rfl HKey.out ?_; intro cv hat hwc; rw [hh]; clear hat hwc)
            go_roundw
            case rel => exact ⟨0 + 1, by omega, by go_num, HN, hw, hs', hb'⟩
            case measure => simp [intOf]
          | some v =>
            have hh : has D (kL 3 10) = true := by rw [hk2.1, hc1]; rfl
            have hv := hk2.2 v hc1
            have hvb := cFst_lt HB.out hc1
            obtain ⟨vn, rfl⟩ : ∃ vn : Nat, v = (vn : Int) := ⟨v.toNat, by omega⟩
            have hpk := noK_pick HNo.out (x := (3, 10)) rfl hc1
            rw [show decide (((3, 10) : Int × Int).2 = 10 ∨ ((3, 10) : Int × Int).2 = 4) = true by decide] at hpk
            have HCf := Lib.hid (Hcf.out _ _ hpk)
            have HRd := Lib.hid (fun W hW => cread_any A n c zs true vn W (hr.below hW) HB.out hn hc (by omega))
            clear hc1 hk2 HNo hpk Hcf Hcn HK
            generalize cN zs = N at *
            have HV := Lib.hid hv
            clear hv
            go_wp2_with (first
              | (at_lookup; refine wpList_lookup_own_ok_int _ rfl _ _ 74 rfl 65 58 .u32 Tryd.kindlaw Tryd.underlying74 Tryd.underlying58 (Tryd.zeroU32 _) BM N D rfl hw _ (kL 3 10) rfl HKey.out ?_; intro cv hat hwc; rw [hh]; obtain rfl : (vn : Int) = cv := (by rw [HV.out] at hat; simpa using hat); clear hat hwc)
              | (go_at_call 30; (with_reducible refine (cwide_any 3 10 (by omega) _).mono ?_); rintro e wn ⟨rfl, hbn⟩; replace hs' := kept_block hs' hbn; replace hb' := hb'.trans (hbn.mono hb'.size); clear hbn))
            refine (HRd.out _ hb').mono ?_
            rintro e w2 ⟨hb2', ⟨ho, rfl⟩ | ⟨ho, A2, c2, g2, rfl, hcm⟩⟩
            · have hs2 := kept_block hs' hb2'
              have hb2 := hb'.trans (hb2'.mono hb'.size)
              have HNo2 : Hid (cFind zs = none) := by show _ = _; rw [HCf.out, ho]; rfl
              have z0 : w2.cell? ⟨w.heap.size, 0, none⟩ = some (.bool false) := cell_of_row w2 _ 0 _ _ _ hs2
              have z1 : w2.cell? ⟨w.heap.size, 1, none⟩ = some (.slice none 0 0) := cell_of_row w2 _ 1 _ _ _ hs2
              have z2 : w2.cell? ⟨w.heap.size, 2, none⟩ = some (.slice none 0 0) := cell_of_row w2 _ 2 _ _ _ hs2
              have f0 := thawed hs2
              have S3 := Lib.hid (set_block (set_block (set_block hs2 0 (.bool false)) 1 (.slice none 0 0)) 2 (.slice none 0 0))
              have HBw := Lib.hid (below_set (Nat.le_refl _) 2 (.slice none 0 0) (below_set (Nat.le_refl _) 1 (.slice none 0 0) (below_set (Nat.le_refl w.heap.size) 0 (.bool false) hb2)))
              clear hs2 hb2 hs' hb' hr hb2' hw HRd HCf ho
              unfold cmV0
              go_wp2
              exact bodyPost_ret (v := .tuple #[cmV0, .int .i64 2]) (results_two2 Tryd.results11 _ _ w.heap.size 37 _ (0, 0) _ rfl rfl S3.out Tryd.underlying37 rfl SI.out) rfl ⟨HBw.out, .inl ⟨HNo2.out, rfl⟩⟩
            · have hs2 := kept_block hs' hb2'
              have hb2 := hb'.trans (hb2'.mono hb'.size)
              have HNo2 : Hid (cFind zs = some (true, vn)) := by show _ = _; rw [HCf.out, ho]; rfl
              rw [Int.toNat_natCast] at hcm ⊢
              have z0 : w2.cell? ⟨w.heap.size, 0, none⟩ = some (.bool false) := cell_of_row w2 _ 0 _ _ _ hs2
              have z1 : w2.cell? ⟨w.heap.size, 1, none⟩ = some (.slice none 0 0) := cell_of_row w2 _ 1 _ _ _ hs2
              have z2 : w2.cell? ⟨w.heap.size, 2, none⟩ = some (.slice none 0 0) := cell_of_row w2 _ 2 _ _ _ hs2
              have f0 := thawed hs2
              have S3 := Lib.hid (set_block (set_block (set_block hs2 0 (.bool true)) 1 (.slice A2 (cCnt true (zs.drop vn)) c2)) 2 (.slice none 0 0))
              have HBw := Lib.hid (below_set (Nat.le_refl _) 2 (.slice none 0 0) (below_set (Nat.le_refl _) 1 (.slice A2 (cCnt true (zs.drop vn)) c2) (below_set (Nat.le_refl w.heap.size) 0 (.bool true) hb2)))
              have HCm := Lib.hid (hcm.set3 hs2 (.bool true) (.slice A2 (cCnt true (zs.drop vn)) c2) (.slice none 0 0))
              clear hs2 hb2 hs' hb' hr hb2' hw HRd HCf ho hcm
              unfold cmV
              go_wp2
              exact bodyPost_ret (v := .tuple #[cmV true A2 (cCnt true (zs.drop vn)) c2, .int .i64 0]) (results_two2 Tryd.results11 _ _ w.heap.size 37 _ (0, 0) _ rfl rfl S3.out Tryd.underlying37 rfl SI.out) rfl ⟨HBw.out, .inr ⟨true, vn, HNo2.out, A2, c2, g2, rfl, HCm.out⟩⟩
        · have hix := run_index_agg (P := Tryd.prog) wr 77 65 4 2 #[.int .u16 3, .int .u16 10, .int .u16 0, .int .u16 4, .int .u16 3, .int .u16 1, .int .u16 0, .int .u16 3] #[.int .u16 0, .int .u16 4] 1 Tryd.underlying77 (by simp [go_sem]) (by simp [go_sem]) (by omega) rfl
          have hix2 : (Instr.index 77 (.agg #[.int .u16 3, .int .u16 10, .int .u16 0, .int .u16 4, .int .u16 3, .int .u16 1, .int .u16 0, .int .u16 3]) (.int .i64 1)).run Tryd.prog wr = .ok (.agg #[.int .u16 0, .int .u16 4]) wr := hix
          have HKey := Lib.hid (kind_key (a := 0) (b := 4) (u16_wf (by omega) (by omega)) (u16_wf (by omega) (by omega)))
          have hk2 := HK.out.2 0 4 (by omega) (by omega) (by omega) (by omega)
          have hal : Below wr.heap.size wr (wr.alloc (.cells #[.int .u16 0, .int .u16 4] 65)) := (Below.refl _ _).alloc (Nat.le_refl _) _
          have hw := hown.alloc (.cells #[.int .u16 0, .int .u16 4] 65)
          have hs' := kept_block hs hal
          have hb' := hb.trans (hal.mono hb.size)
          clear hown hs hb hal
          cases hc1 : cFst zs 0 4 (cN zs) with
          | none =>
            have hh : has D (kL 0 4) = false := by rw [hk2.1, hc1]; rfl
            have HN := Lib.hid (noK_succ HNo.out (x := (0, 4)) rfl hc1)
            clear hc1 hk2 HNo
            generalize cN zs = N at *
            go_wp2_with (at_lookup; refine wpList_lookup_own_ok_int _ rfl _ _ 74 rfl 65 58 .u32 Tryd.kindlaw Tryd.underlying74 Tryd.underlying58 (Tryd.zeroU32 _) BM N D rfl hw _ (kL 0 4) rfl HKey.out ?_; intro cv hat hwc; rw [hh]; clear hat hwc)
            go_roundw
            case rel => exact ⟨1 + 1, by omega, by go_num, HN, hw, hs', hb'⟩
            case measure => simp [intOf]
          | some v =>
            have hh : has D (kL 0 4) = true := by rw [hk2.1, hc1]; rfl
            have hv := hk2.2 v hc1
            have hvb := cFst_lt HB.out hc1
            obtain ⟨vn, rfl⟩ : ∃ vn : Nat, v = (vn : Int) := ⟨v.toNat, by omega⟩
            have hpk := noK_pick HNo.out (x := (0, 4)) rfl hc1
            rw [show decide (((0, 4) : Int × Int).2 = 10 ∨ ((0, 4) : Int × Int).2 = 4) = true by decide] at hpk
            have HCf := Lib.hid (Hcf.out _ _ hpk)
            have HRd := Lib.hid (fun W hW => cread_any A n c zs true vn W (hr.below hW) HB.out hn hc (by omega))
            clear hc1 hk2 HNo hpk Hcf Hcn HK
            generalize cN zs = N at *
            have HV := Lib.hid hv
            clear hv
            go_wp2_with (first
              | (at_lookup; refine wpList_lookup_own_ok_int _ rfl _ _ 74 rfl 65 58 .u32 Tryd.kindlaw Tryd.underlying74 Tryd.underlying58 (Tryd.zeroU32 _) BM N D rfl hw _ (kL 0 4) rfl HKey.out ?_; intro cv hat hwc; rw [hh]; obtain rfl : (vn : Int) = cv := (by rw [HV.out] at hat; simpa using hat); clear hat hwc)
              | (go_at_call 30; (with_reducible refine (cwide_any 0 4 (by omega) _).mono ?_); rintro e wn ⟨rfl, hbn⟩; replace hs' := kept_block hs' hbn; replace hb' := hb'.trans (hbn.mono hb'.size); clear hbn))
            refine (HRd.out _ hb').mono ?_
            rintro e w2 ⟨hb2', ⟨ho, rfl⟩ | ⟨ho, A2, c2, g2, rfl, hcm⟩⟩
            · have hs2 := kept_block hs' hb2'
              have hb2 := hb'.trans (hb2'.mono hb'.size)
              have HNo2 : Hid (cFind zs = none) := by show _ = _; rw [HCf.out, ho]; rfl
              have z0 : w2.cell? ⟨w.heap.size, 0, none⟩ = some (.bool false) := cell_of_row w2 _ 0 _ _ _ hs2
              have z1 : w2.cell? ⟨w.heap.size, 1, none⟩ = some (.slice none 0 0) := cell_of_row w2 _ 1 _ _ _ hs2
              have z2 : w2.cell? ⟨w.heap.size, 2, none⟩ = some (.slice none 0 0) := cell_of_row w2 _ 2 _ _ _ hs2
              have f0 := thawed hs2
              have S3 := Lib.hid (set_block (set_block (set_block hs2 0 (.bool false)) 1 (.slice none 0 0)) 2 (.slice none 0 0))
              have HBw := Lib.hid (below_set (Nat.le_refl _) 2 (.slice none 0 0) (below_set (Nat.le_refl _) 1 (.slice none 0 0) (below_set (Nat.le_refl w.heap.size) 0 (.bool false) hb2)))
              clear hs2 hb2 hs' hb' hr hb2' hw HRd HCf ho
              unfold cmV0
              go_wp2
              exact bodyPost_ret (v := .tuple #[cmV0, .int .i64 2]) (results_two2 Tryd.results11 _ _ w.heap.size 37 _ (0, 0) _ rfl rfl S3.out Tryd.underlying37 rfl SI.out) rfl ⟨HBw.out, .inl ⟨HNo2.out, rfl⟩⟩
            · have hs2 := kept_block hs' hb2'
              have hb2 := hb'.trans (hb2'.mono hb'.size)
              have HNo2 : Hid (cFind zs = some (true, vn)) := by show _ = _; rw [HCf.out, ho]; rfl
              rw [Int.toNat_natCast] at hcm ⊢
              have z0 : w2.cell? ⟨w.heap.size, 0, none⟩ = some (.bool false) := cell_of_row w2 _ 0 _ _ _ hs2
              have z1 : w2.cell? ⟨w.heap.size, 1, none⟩ = some (.slice none 0 0) := cell_of_row w2 _ 1 _ _ _ hs2
              have z2 : w2.cell? ⟨w.heap.size, 2, none⟩ = some (.slice none 0 0) := cell_of_row w2 _ 2 _ _ _ hs2
              have f0 := thawed hs2
              have S3 := Lib.hid (set_block (set_block (set_block hs2 0 (.bool true)) 1 (.slice A2 (cCnt true (zs.drop vn)) c2)) 2 (.slice none 0 0))
              have HBw := Lib.hid (below_set (Nat.le_refl _) 2 (.slice none 0 0) (below_set (Nat.le_refl _) 1 (.slice A2 (cCnt true (zs.drop vn)) c2) (below_set (Nat.le_refl w.heap.size) 0 (.bool true) hb2)))
              have HCm := Lib.hid (hcm.set3 hs2 (.bool true) (.slice A2 (cCnt true (zs.drop vn)) c2) (.slice none 0 0))
              clear hs2 hb2 hs' hb' hr hb2' hw HRd HCf ho hcm
              unfold cmV
              go_wp2
              exact bodyPost_ret (v := .tuple #[cmV true A2 (cCnt true (zs.drop vn)) c2, .int .i64 0]) (results_two2 Tryd.results11 _ _ w.heap.size 37 _ (0, 0) _ rfl rfl S3.out Tryd.underlying37 rfl SI.out) rfl ⟨HBw.out, .inr ⟨true, vn, HNo2.out, A2, c2, g2, rfl, HCm.out⟩⟩
        · have hix := run_index_agg (P := Tryd.prog) wr 77 65 4 2 #[.int .u16 3, .int .u16 10, .int .u16 0, .int .u16 4, .int .u16 3, .int .u16 1, .int .u16 0, .int .u16 3] #[.int .u16 3, .int .u16 1] 2 Tryd.underlying77 (by simp [go_sem]) (by simp [go_sem]) (by omega) rfl
          have hix2 : (Instr.index 77 (.agg #[.int .u16 3, .int .u16 10, .int .u16 0, .int .u16 4, .int .u16 3, .int .u16 1, .int .u16 0, .int .u16 3]) (.int .i64 2)).run Tryd.prog wr = .ok (.agg #[.int .u16 3, .int .u16 1]) wr := hix
          have HKey := Lib.hid (kind_key (a := 3) (b := 1) (u16_wf (by omega) (by omega)) (u16_wf (by omega) (by omega)))
          have hk2 := HK.out.2 3 1 (by omega) (by omega) (by omega) (by omega)
          have hal : Below wr.heap.size wr (wr.alloc (.cells #[.int .u16 3, .int .u16 1] 65)) := (Below.refl _ _).alloc (Nat.le_refl _) _
          have hw := hown.alloc (.cells #[.int .u16 3, .int .u16 1] 65)
          have hs' := kept_block hs hal
          have hb' := hb.trans (hal.mono hb.size)
          clear hown hs hb hal
          cases hc1 : cFst zs 3 1 (cN zs) with
          | none =>
            have hh : has D (kL 3 1) = false := by rw [hk2.1, hc1]; rfl
            have HN := Lib.hid (noK_succ HNo.out (x := (3, 1)) rfl hc1)
            clear hc1 hk2 HNo
            generalize cN zs = N at *
            go_wp2_with (at_lookup; refine wpList_lookup_own_ok_int _ rfl _ _ 74 rfl 65 58 .u32 Tryd.kindlaw Tryd.underlying74 Tryd.underlying58 (Tryd.zeroU32 _) BM N D rfl hw _ (kL 3 1) rfl HKey.out ?_; intro cv hat hwc; rw [hh]; clear hat hwc)
            go_roundw
            case rel => exact ⟨2 + 1, by omega, by go_num, HN, hw, hs', hb'⟩
            case measure => simp [intOf]
          | some v =>
            have hh : has D (kL 3 1) = true := by rw [hk2.1, hc1]; rfl
            have hv := hk2.2 v hc1
            have hvb := cFst_lt HB.out hc1
            obtain ⟨vn, rfl⟩ : ∃ vn : Nat, v = (vn : Int) := ⟨v.toNat, by omega⟩
            have hpk := noK_pick HNo.out (x := (3, 1)) rfl hc1
            rw [show decide (((3, 1) : Int × Int).2 = 10 ∨ ((3, 1) : Int × Int).2 = 4) = false by decide] at hpk
            have HCf := Lib.hid (Hcf.out _ _ hpk)
            have HRd := Lib.hid (fun W hW => cread_any A n c zs false vn W (hr.below hW) HB.out hn hc (by omega))
            clear hc1 hk2 HNo hpk Hcf Hcn HK
            generalize cN zs = N at *
            have HV := Lib.hid hv
            clear hv
            go_wp2_with (first
              | (at_lookup; refine wpList_lookup_own_ok_int _ rfl _ _ 74 rfl 65 58 .u32 Tryd.kindlaw Tryd.underlying74 Tryd.underlying58 (Tryd.zeroU32 _) BM N D rfl hw _ (kL 3 1) rfl HKey.out ?_; intro cv hat hwc; rw [hh]; obtain rfl : (vn : Int) = cv := (by rw [HV.out] at hat; simpa using hat); clear hat hwc)
              | (go_at_call 30; (with_reducible refine (cwide_any 3 1 (by omega) _).mono ?_); rintro e wn ⟨rfl, hbn⟩; replace hs' := kept_block hs' hbn; replace hb' := hb'.trans (hbn.mono hb'.size); clear hbn))
            refine (HRd.out _ hb').mono ?_
            rintro e w2 ⟨hb2', ⟨ho, rfl⟩ | ⟨ho, A2, c2, g2, rfl, hcm⟩⟩
            · have hs2 := kept_block hs' hb2'
              have hb2 := hb'.trans (hb2'.mono hb'.size)
              have HNo2 : Hid (cFind zs = none) := by show _ = _; rw [HCf.out, ho]; rfl
              have z0 : w2.cell? ⟨w.heap.size, 0, none⟩ = some (.bool false) := cell_of_row w2 _ 0 _ _ _ hs2
              have z1 : w2.cell? ⟨w.heap.size, 1, none⟩ = some (.slice none 0 0) := cell_of_row w2 _ 1 _ _ _ hs2
              have z2 : w2.cell? ⟨w.heap.size, 2, none⟩ = some (.slice none 0 0) := cell_of_row w2 _ 2 _ _ _ hs2
              have f0 := thawed hs2
              have S3 := Lib.hid (set_block (set_block (set_block hs2 0 (.bool false)) 1 (.slice none 0 0)) 2 (.slice none 0 0))
              have HBw := Lib.hid (below_set (Nat.le_refl _) 2 (.slice none 0 0) (below_set (Nat.le_refl _) 1 (.slice none 0 0) (below_set (Nat.le_refl w.heap.size) 0 (.bool false) hb2)))
              clear hs2 hb2 hs' hb' hr hb2' hw HRd HCf ho
              unfold cmV0
              go_wp2
              exact bodyPost_ret (v := .tuple #[cmV0, .int .i64 2]) (results_two2 Tryd.results11 _ _ w.heap.size 37 _ (0, 0) _ rfl rfl S3.out Tryd.underlying37 rfl SI.out) rfl ⟨HBw.out, .inl ⟨HNo2.out, rfl⟩⟩
            · have hs2 := kept_block hs' hb2'
              have hb2 := hb'.trans (hb2'.mono hb'.size)
              have HNo2 : Hid (cFind zs = some (false, vn)) := by show _ = _; rw [HCf.out, ho]; rfl
              rw [Int.toNat_natCast] at hcm ⊢
              have z0 : w2.cell? ⟨w.heap.size, 0, none⟩ = some (.bool false) := cell_of_row w2 _ 0 _ _ _ hs2
              have z1 : w2.cell? ⟨w.heap.size, 1, none⟩ = some (.slice none 0 0) := cell_of_row w2 _ 1 _ _ _ hs2
              have z2 : w2.cell? ⟨w.heap.size, 2, none⟩ = some (.slice none 0 0) := cell_of_row w2 _ 2 _ _ _ hs2
              have f0 := thawed hs2
              have S3 := Lib.hid (set_block (set_block (set_block hs2 0 (.bool false)) 1 (.slice none 0 0)) 2 (.slice A2 (cCnt false (zs.drop vn)) c2))
              have HBw := Lib.hid (below_set (Nat.le_refl _) 2 (.slice A2 (cCnt false (zs.drop vn)) c2) (below_set (Nat.le_refl _) 1 (.slice none 0 0) (below_set (Nat.le_refl w.heap.size) 0 (.bool false) hb2)))
              have HCm := Lib.hid (hcm.set3 hs2 (.bool false) (.slice none 0 0) (.slice A2 (cCnt false (zs.drop vn)) c2))
              clear hs2 hb2 hs' hb' hr hb2' hw HRd HCf ho hcm
              unfold cmV
              go_wp2
              exact bodyPost_ret (v := .tuple #[cmV false A2 (cCnt false (zs.drop vn)) c2, .int .i64 0]) (results_two2 Tryd.results11 _ _ w.heap.size 37 _ (0, 0) _ rfl rfl S3.out Tryd.underlying37 rfl SI.out) rfl ⟨HBw.out, .inr ⟨false, vn, HNo2.out, A2, c2, g2, rfl, HCm.out⟩⟩
        · have hix := run_index_agg (P := Tryd.prog) wr 77 65 4 2 #[.int .u16 3, .int .u16 10, .int .u16 0, .int .u16 4, .int .u16 3, .int .u16 1, .int .u16 0, .int .u16 3] #[.int .u16 0, .int .u16 3] 3 Tryd.underlying77 (by simp [go_sem]) (by simp [go_sem]) (by omega) rfl
          have hix2 : (Instr.index 77 (.agg #[.int .u16 3, .int .u16 10, .int .u16 0, .int .u16 4, .int .u16 3, .int .u16 1, .int .u16 0, .int .u16 3]) (.int .i64 3)).run Tryd.prog wr = .ok (.agg #[.int .u16 0, .int .u16 3]) wr := hix
          have HKey := Lib.hid (kind_key (a := 0) (b := 3) (u16_wf (by omega) (by omega)) (u16_wf (by omega) (by omega)))
          have hk2 := HK.out.2 0 3 (by omega) (by omega) (by omega) (by omega)
          have hal : Below wr.heap.size wr (wr.alloc (.cells #[.int .u16 0, .int .u16 3] 65)) := (Below.refl _ _).alloc (Nat.le_refl _) _
          have hw := hown.alloc (.cells #[.int .u16 0, .int .u16 3] 65)
          have hs' := kept_block hs hal
          have hb' := hb.trans (hal.mono hb.size)
          clear hown hs hb hal
          cases hc1 : cFst zs 0 3 (cN zs) with
          | none =>
            have hh : has D (kL 0 3) = false := by rw [hk2.1, hc1]; rfl
            have HN := Lib.hid (noK_succ HNo.out (x := (0, 3)) rfl hc1)
            clear hc1 hk2 HNo
            generalize cN zs = N at *
            go_wp2_with (at_lookup; refine wpList_lookup_own_ok_int _ rfl _ _ 74 rfl 65 58 .u32 Tryd.kindlaw Tryd.underlying74 Tryd.underlying58 (Tryd.zeroU32 _) BM N D rfl hw _ (kL 0 3) rfl HKey.out ?_; intro cv hat hwc; rw [hh]; clear hat hwc)
            go_roundw
            case rel => exact ⟨3 + 1, by omega, by go_num, HN, hw, hs', hb'⟩
            case measure => simp [intOf]
          | some v =>
            have hh : has D (kL 0 3) = true := by rw [hk2.1, hc1]; rfl
            have hv := hk2.2 v hc1
            have hvb := cFst_lt HB.out hc1
            obtain ⟨vn, rfl⟩ : ∃ vn : Nat, v = (vn : Int) := ⟨v.toNat, by omega⟩
            have hpk := noK_pick HNo.out (x := (0, 3)) rfl hc1
            rw [show decide (((0, 3) : Int × Int).2 = 10 ∨ ((0, 3) : Int × Int).2 = 4) = false by decide] at hpk
            have HCf := Lib.hid (Hcf.out _ _ hpk)
            have HRd := Lib.hid (fun W hW => cread_any A n c zs false vn W (hr.below hW) HB.out hn hc (by omega))
            clear hc1 hk2 HNo hpk Hcf Hcn HK
            generalize cN zs = N at *
            have HV := Lib.hid hv
            clear hv
            go_wp2_with (first
              | (at_lookup; refine wpList_lookup_own_ok_int _ rfl _ _ 74 rfl 65 58 .u32 Tryd.kindlaw Tryd.underlying74 Tryd.underlying58 (Tryd.zeroU32 _) BM N D rfl hw _ (kL 0 3) rfl HKey.out ?_; intro cv hat hwc; rw [hh]; obtain rfl : (vn : Int) = cv := (by rw [HV.out] at hat; simpa using hat); clear hat hwc)
              | (go_at_call 30; (with_reducible refine (cwide_any 0 3 (by omega) _).mono ?_); rintro e wn ⟨rfl, hbn⟩; replace hs' := kept_block hs' hbn; replace hb' := hb'.trans (hbn.mono hb'.size); clear hbn))
            refine (HRd.out _ hb').mono ?_
            rintro e w2 ⟨hb2', ⟨ho, rfl⟩ | ⟨ho, A2, c2, g2, rfl, hcm⟩⟩
            · have hs2 := kept_block hs' hb2'
              have hb2 := hb'.trans (hb2'.mono hb'.size)
              have HNo2 : Hid (cFind zs = none) := by show _ = _; rw [HCf.out, ho]; rfl
              have z0 : w2.cell? ⟨w.heap.size, 0, none⟩ = some (.bool false) := cell_of_row w2 _ 0 _ _ _ hs2
              have z1 : w2.cell? ⟨w.heap.size, 1, none⟩ = some (.slice none 0 0) := cell_of_row w2 _ 1 _ _ _ hs2
              have z2 : w2.cell? ⟨w.heap.size, 2, none⟩ = some (.slice none 0 0) := cell_of_row w2 _ 2 _ _ _ hs2
              have f0 := thawed hs2
              have S3 := Lib.hid (set_block (set_block (set_block hs2 0 (.bool false)) 1 (.slice none 0 0)) 2 (.slice none 0 0))
              have HBw := Lib.hid (below_set (Nat.le_refl _) 2 (.slice none 0 0) (below_set (Nat.le_refl _) 1 (.slice none 0 0) (below_set (Nat.le_refl w.heap.size) 0 (.bool false) hb2)))
              clear hs2 hb2 hs' hb' hr hb2' hw HRd HCf ho
              unfold cmV0
              go_wp2
              exact bodyPost_ret (v := .tuple #[cmV0, .int .i64 2]) (results_two2 Tryd.results11 _ _ w.heap.size 37 _ (0, 0) _ rfl rfl S3.out Tryd.underlying37 rfl SI.out) rfl ⟨HBw.out, .inl ⟨HNo2.out, rfl⟩⟩
            · have hs2 := kept_block hs' hb2'
              have hb2 := hb'.trans (hb2'.mono hb'.size)
              have HNo2 : Hid (cFind zs = some (false, vn)) := by show _ = _; rw [HCf.out, ho]; rfl
              rw [Int.toNat_natCast] at hcm ⊢
              have z0 : w2.cell? ⟨w.heap.size, 0, none⟩ = some (.bool false) := cell_of_row w2 _ 0 _ _ _ hs2
              have z1 : w2.cell? ⟨w.heap.size, 1, none⟩ = some (.slice none 0 0) := cell_of_row w2 _ 1 _ _ _ hs2
              have z2 : w2.cell? ⟨w.heap.size, 2, none⟩ = some (.slice none 0 0) := cell_of_row w2 _ 2 _ _ _ hs2
              have f0 := thawed hs2
              have S3 := Lib.hid (set_block (set_block (set_block hs2 0 (.bool false)) 1 (.slice none 0 0)) 2 (.slice A2 (cCnt false (zs.drop vn)) c2))
              have HBw := Lib.hid (below_set (Nat.le_refl _) 2 (.slice A2 (cCnt false (zs.drop vn)) c2) (below_set (Nat.le_refl _) 1 (.slice none 0 0) (below_set (Nat.le_refl w.heap.size) 0 (.bool false) hb2)))
              have HCm := Lib.hid (hcm.set3 hs2 (.bool false) (.slice none 0 0) (.slice A2 (cCnt false (zs.drop vn)) c2))
              clear hs2 hb2 hs' hb' hr hb2' hw HRd HCf ho hcm
              unfold cmV
              go_wp2
              exact bodyPost_ret (v := .tuple #[cmV false A2 (cCnt false (zs.drop vn)) c2, .int .i64 0]) (results_two2 Tryd.results11 _ _ w.heap.size 37 _ (0, 0) _ rfl rfl S3.out Tryd.underlying37 rfl SI.out) rfl ⟨HBw.out, .inr ⟨false, vn, HNo2.out, A2, c2, g2, rfl, HCm.out⟩⟩
      · obtain rfl : k = 4 := by omega
        have HNo2 := Lib.hid (Hcn.out (noK_none HNo.out))
        have z0 : wr.cell? ⟨w.heap.size, 0, none⟩ = some (.bool false) := cell_of_row wr _ 0 _ _ _ hs
        have z1 : wr.cell? ⟨w.heap.size, 1, none⟩ = some (.slice none 0 0) := cell_of_row wr _ 1 _ _ _ hs
        have z2 : wr.cell? ⟨w.heap.size, 2, none⟩ = some (.slice none 0 0) := cell_of_row wr _ 2 _ _ _ hs
        have f0 := thawed hs
        have S3 := Lib.hid (set_block (set_block (set_block hs 0 (.bool false)) 1 (.slice none 0 0)) 2 (.slice none 0 0))
        have HBw := Lib.hid (below_set (Nat.le_refl _) 2 (.slice none 0 0) (below_set (Nat.le_refl _) 1 (.slice none 0 0) (below_set (Nat.le_refl w.heap.size) 0 (.bool false) hb)))
        clear hs hb hown Hcf Hcn HK HNo hr
        go_wp2
        exact bodyPost_ret (v := .tuple #[cmV0, .int .i64 2]) (results_two2 Tryd.results11 _ _ w.heap.size 37 _ (0, 0) _ rfl rfl S3.out Tryd.underlying37 rfl SI.out) rfl ⟨HBw.out, .inl ⟨HNo2.out, rfl⟩⟩

end Go.Proofs.YthkaeimpflggjaaDoor

/- The document's Right of segments, as a contract over this seat's translation. -/
namespace Go.Proofs.YthkaeimpflggjaaDoor
open Go.RowKit
set_option linter.unusedVariables false

def sRV (zs : List Int) : Int := if sRight zs then (sN zs : Int) else 0

theorem srB_same {zs : List Int} (hB : Bytes zs) (hl : 14 ≤ zs.length) {n : Nat} (h0 : 1 ≤ n) (h1 : n < 32768) : sameB ((zs.drop 8).take 6) (srB n) = decide ([n2at zs 8, n2at zs 10, n2at zs 12] = srL n) := by
  have hs := expoS_spec n h0
  have hx := expoS_lt n h0 h1
  rw [Nat.pow_succ] at hs
  have e : (zs.drop 8).take 6 = b2 (n2at zs 8) ++ (b2 (n2at zs 10) ++ b2 (n2at zs 12)) := by
    rw [b2_win hB (i := 8) (by omega), b2_win hB (i := 10) (by omega), b2_win hB (i := 12) (by omega)]
    rw [← win_join zs 8 2 4, ← win_join zs 10 2 2]
  have k8 := n2at_lt hB 8
  have k10 := n2at_lt hB 10
  have k12 := n2at_lt hB 12
  rw [e]
  unfold sameB srB srL
  rw [Bool.eq_iff_iff, decide_eq_true_iff, decide_eq_true_iff]
  generalize hp : ((2 ^ expoS n : Nat) : Int) = p at *
  have hp1 : 0 < p ∧ p ≤ n ∧ (n : Int) < 2 * p := by rw [← hp]; have := Nat.two_pow_pos (expoS n); omega
  generalize n2at zs 8 = u at *
  generalize n2at zs 10 = v at *
  generalize n2at zs 12 = t at *
  simp only [b2, List.cons_append, List.nil_append, List.cons.injEq, and_true]
  constructor
  · intro h; omega
  · rintro ⟨rfl, rfl, rfl⟩; simp

set_option maxRecDepth 100000 in
set_option maxHeartbeats 8000000 in
theorem rright9_no (A : Option Addr) (n c : Nat) (zs : List Int) (w : World) (hr : Row w A n (cellsOf .u8 zs)) (hB : Bytes zs) (hn : n ≤ 1000000) (hf : (sFront zs && sCnt0 zs) = false) :
    Calls Tryd.prog 38 #[.slice A n c] w (Ret w (.tuple #[.int .i64 0, .bool false])) := by
  have HAll : Hid (∀ (i : Nat) (a : Int), a = i → i ≤ 100000000 → ∀ W, Below w.heap.size w W → Calls Tryd.prog 59 #[.slice A n c, .int .i64 a] W (Ret W (.int .i64 (n2at zs i)))) := fun i a ha hi W hW => rat9_any A n c zs a i W (hr.below hW) hB (by omega) ha (by omega)
  have H0 := Lib.hid (HAll.out 0 0 rfl (by omega))
  have H2 := Lib.hid (HAll.out 2 2 rfl (by omega))
  have H6 := Lib.hid (HAll.out 6 6 rfl (by omega))
  have k0 := n2at_lt hB 0
  have k2 := n2at_lt hB 2
  have k6 := n2at_lt hB 6
  have hl := hr.len
  have HF : Hid ((sFront zs && sCnt0 zs) = (decide (n2at zs 0 = 4) && decide (24 ≤ n2at zs 2) && decide (n2at zs 2 ≤ n) && decide (n2at zs 2 % 2 = 0) && (decide (n2at zs 6 % 2 = 0) && decide (n2at zs 6 / 2 ≠ 0) && decide (16 + 8 * (n2at zs 6 / 2) ≤ n2at zs 2)))) := by show _ = _; unfold sFront sCnt0; rw [hl]
  have Hf := Lib.hid hf
  have hb := Below.refl w.heap.size w
  clear HAll hr hB hl hf
  generalize n2at zs 0 = v0 at *
  generalize n2at zs 2 = S at *
  generalize n2at zs 6 = t at *
  obtain ⟨N, hN⟩ : ∃ N : Nat, t / 2 = (N : Int) := ⟨(t / 2).toNat, by omega⟩
  go_enter Tryd.func38, Tryd.ntmps38
  go_upto_region 3 with (go_at_call 59; (first | (with_reducible refine (H2.out _ hb).mono ?_) | (with_reducible refine (H6.out _ hb).mono ?_)); rintro e wn ⟨rfl, hbn⟩; replace hb := hb.trans (hbn.mono hb.size); clear hbn)
  rw [hN]
  have G0 : Hid (∀ p os, Calls Tryd.prog 59 #[.slice A n c, .int .i64 0] (gw wn p os) (Ret (gw wn p os) (.int .i64 v0))) := fun p os => H0.out _ (hb.trans ((gw_below wn p os).mono hb.size))
  have G6 : Hid (∀ p os, Calls Tryd.prog 59 #[.slice A n c, .int .i64 6] (gw wn p os) (Ret (gw wn p os) (.int .i64 t))) := fun p os => H6.out _ (hb.trans ((gw_below wn p os).mono hb.size))
  have W1 : IntKind.i64.wrap (8 * (N : Int)) = 8 * (N : Int) := IntWalk.i64_in _ (by omega)
  have W2 : IntKind.i64.wrap (16 + 8 * (N : Int)) = 16 + 8 * (N : Int) := IntWalk.i64_in _ (by omega)
  have m1 : S.tmod 2 = S % 2 := Int.tmod_eq_emod_of_nonneg (by omega)
  have m2 : t.tmod 2 = t % 2 := Int.tmod_eq_emod_of_nonneg (by omega)
  by_cases h : n < 24
  · have D1 : decide ((n : Int) < 24) = true := decide_eq_true (by omega)
    clear Hf HF h
    refine region_below (by kernel_rfl) (by kernel_rfl) ?_
    repeat (first | go_big_quiet_step (first | (go_at_call 59; with_reducible exact calls_gw (G0.out _ _)) | (go_at_call 59; with_reducible exact calls_gw (G6.out _ _))) | quiet_step (first | (go_at_call 59; with_reducible exact calls_gw (G0.out _ _)) | (go_at_call 59; with_reducible exact calls_gw (G6.out _ _))))
    refine wpQuiet_nil ?_
    rintro _ ⟨z, rfl⟩
    have hbf := hb.trans ((gw_below wn z.n z.os).mono hb.size)
    go_wp2
    go_ret2
    exact ⟨rfl, hbf⟩
  · have D1 : decide ((n : Int) < 24) = false := decide_eq_false (by omega)
    have h0 := h
    clear h
    by_cases h : v0 ≠ 4
    · have B0 : (v0 != 4) = true := by simp; omega
      clear Hf HF h
      refine region_below (by kernel_rfl) (by kernel_rfl) ?_
      repeat (first | go_big_quiet_step (first | (go_at_call 59; with_reducible exact calls_gw (G0.out _ _)) | (go_at_call 59; with_reducible exact calls_gw (G6.out _ _))) | quiet_step (first | (go_at_call 59; with_reducible exact calls_gw (G0.out _ _)) | (go_at_call 59; with_reducible exact calls_gw (G6.out _ _))))
      refine wpQuiet_nil ?_
      rintro _ ⟨z, rfl⟩
      have hbf := hb.trans ((gw_below wn z.n z.os).mono hb.size)
      go_wp2
      go_ret2
      exact ⟨rfl, hbf⟩
    · have B0 : (v0 != 4) = false := by simp; omega
      have h1 := h
      clear h
      by_cases h : S < 24
      · have D2 : decide (S < 24) = true := decide_eq_true (by omega)
        clear Hf HF h
        refine region_below (by kernel_rfl) (by kernel_rfl) ?_
        repeat (first | go_big_quiet_step (first | (go_at_call 59; with_reducible exact calls_gw (G0.out _ _)) | (go_at_call 59; with_reducible exact calls_gw (G6.out _ _))) | quiet_step (first | (go_at_call 59; with_reducible exact calls_gw (G0.out _ _)) | (go_at_call 59; with_reducible exact calls_gw (G6.out _ _))))
        refine wpQuiet_nil ?_
        rintro _ ⟨z, rfl⟩
        have hbf := hb.trans ((gw_below wn z.n z.os).mono hb.size)
        go_wp2
        go_ret2
        exact ⟨rfl, hbf⟩
      · have D2 : decide (S < 24) = false := decide_eq_false (by omega)
        have h2 := h
        clear h
        by_cases h : (n : Int) < S
        · have D3 : decide ((n : Int) < S) = true := decide_eq_true (by omega)
          clear Hf HF h
          refine region_below (by kernel_rfl) (by kernel_rfl) ?_
          repeat (first | go_big_quiet_step (first | (go_at_call 59; with_reducible exact calls_gw (G0.out _ _)) | (go_at_call 59; with_reducible exact calls_gw (G6.out _ _))) | quiet_step (first | (go_at_call 59; with_reducible exact calls_gw (G0.out _ _)) | (go_at_call 59; with_reducible exact calls_gw (G6.out _ _))))
          refine wpQuiet_nil ?_
          rintro _ ⟨z, rfl⟩
          have hbf := hb.trans ((gw_below wn z.n z.os).mono hb.size)
          go_wp2
          go_ret2
          exact ⟨rfl, hbf⟩
        · have D3 : decide ((n : Int) < S) = false := decide_eq_false (by omega)
          have h3 := h
          clear h
          by_cases h : 0 < S % 2
          · have D4 : decide (0 < S % 2) = true := decide_eq_true (by omega)
            clear Hf HF h
            refine region_below (by kernel_rfl) (by kernel_rfl) ?_
            repeat (first | go_big_quiet_step (first | (go_at_call 59; with_reducible exact calls_gw (G0.out _ _)) | (go_at_call 59; with_reducible exact calls_gw (G6.out _ _))) | quiet_step (first | (go_at_call 59; with_reducible exact calls_gw (G0.out _ _)) | (go_at_call 59; with_reducible exact calls_gw (G6.out _ _))))
            refine wpQuiet_nil ?_
            rintro _ ⟨z, rfl⟩
            have hbf := hb.trans ((gw_below wn z.n z.os).mono hb.size)
            go_wp2
            go_ret2
            exact ⟨rfl, hbf⟩
          · have D4 : decide (0 < S % 2) = false := decide_eq_false (by omega)
            have h4 := h
            clear h
            by_cases h : 0 < t % 2
            · have D5 : decide (0 < t % 2) = true := decide_eq_true (by omega)
              clear Hf HF h
              refine region_below (by kernel_rfl) (by kernel_rfl) ?_
              repeat (first | go_big_quiet_step (first | (go_at_call 59; with_reducible exact calls_gw (G0.out _ _)) | (go_at_call 59; with_reducible exact calls_gw (G6.out _ _))) | quiet_step (first | (go_at_call 59; with_reducible exact calls_gw (G0.out _ _)) | (go_at_call 59; with_reducible exact calls_gw (G6.out _ _))))
              refine wpQuiet_nil ?_
              rintro _ ⟨z, rfl⟩
              have hbf := hb.trans ((gw_below wn z.n z.os).mono hb.size)
              go_wp2
              go_ret2
              exact ⟨rfl, hbf⟩
            · have D5 : decide (0 < t % 2) = false := decide_eq_false (by omega)
              have h5 := h
              clear h
              by_cases h : N = 0
              · have B6 : ((N : Int) == 0) = true := by simp; omega
                clear Hf HF h
                refine region_below (by kernel_rfl) (by kernel_rfl) ?_
                repeat (first | go_big_quiet_step (first | (go_at_call 59; with_reducible exact calls_gw (G0.out _ _)) | (go_at_call 59; with_reducible exact calls_gw (G6.out _ _))) | quiet_step (first | (go_at_call 59; with_reducible exact calls_gw (G0.out _ _)) | (go_at_call 59; with_reducible exact calls_gw (G6.out _ _))))
                refine wpQuiet_nil ?_
                rintro _ ⟨z, rfl⟩
                have hbf := hb.trans ((gw_below wn z.n z.os).mono hb.size)
                go_wp2
                go_ret2
                exact ⟨rfl, hbf⟩
              · have B6 : ((N : Int) == 0) = false := by simp; omega
                have h6 := h
                clear h
                by_cases h : S < 16 + 8 * (N : Int)
                · have D7 : decide (S < 16 + 8 * (N : Int)) = true := decide_eq_true (by omega)
                  clear Hf HF h
                  refine region_below (by kernel_rfl) (by kernel_rfl) ?_
                  repeat (first | go_big_quiet_step (first | (go_at_call 59; with_reducible exact calls_gw (G0.out _ _)) | (go_at_call 59; with_reducible exact calls_gw (G6.out _ _))) | quiet_step (first | (go_at_call 59; with_reducible exact calls_gw (G0.out _ _)) | (go_at_call 59; with_reducible exact calls_gw (G6.out _ _))))
                  refine wpQuiet_nil ?_
                  rintro _ ⟨z, rfl⟩
                  have hbf := hb.trans ((gw_below wn z.n z.os).mono hb.size)
                  go_wp2
                  go_ret2
                  exact ⟨rfl, hbf⟩
                · have D7 : decide (S < 16 + 8 * (N : Int)) = false := decide_eq_false (by omega)
                  have h7 := h
                  clear h
                  exfalso
                  have := Hf.out
                  rw [HF.out] at this
                  simp at this
                  omega

end Go.Proofs.YthkaeimpflggjaaDoor

/- A region that draws its order, in which memory only grows: whatever yields its value in every world that goes on from the one at hand is taken first; the rest one by one, each from the world that it meets. -/
namespace Go.Proofs.YthkaeimpflggjaaDoor
open Go.RowKit
set_option linter.unusedVariables false

/-- w' goes on from w: what lay in w is unturned. -/
def Ext (w w' : World) : Prop := Below w.heap.size w w'
theorem Ext.refl (w : World) : Ext w w := Below.refl _ _
theorem Ext.trans {a b c : World} (h : Ext a b) (k : Ext b c) : Ext a c := Below.trans h (Below.mono k (Below.size h))
theorem Ext.cell {w w' : World} (h : Ext w w') {a : Addr} {v : Value} (hc : w.cell? a = some v) : w'.cell? a = some v := (Below.cell h (World.block_lt_of_cell? w _ hc)).trans hc
theorem Ext.alloc (w : World) (o : Obj) : Ext w (w.alloc o) := (Below.refl _ _).alloc (Nat.le_refl _) o

section
variable {P : Program} {ops : Array Oper} {Q : Exit → Act → World → Prop} {md : Region.Mode}

theorem held_mono {S1 S2 : World → Prop} (h : ∀ w, S2 w → S1 w) : ∀ (fuel : Nat) (listed : Array Bool) (a : Act) (w : World), wpAnyH P md ops Q S2 fuel listed a w → wpAnyH P md ops Q S1 fuel listed a w
  | 0, _, _, _, hh => hh
  | fuel + 1, _, _, _, hh => ⟨hh.1, fun i hi => wpOp_mono (fun a' w' h' => ⟨h w' h'.1, held_mono h fuel _ a' w' h'.2⟩) (hh.2 i hi)⟩

theorem reg_start {id : Nat} {a : Act} {w : World} (hm : P.follows .mixedOrders = true) (h : wpAnyH P .any ops Q (Ext w.drew) ops.size (Array.replicate ops.size false) a w.drew) : (Code.region id ops true).wp P Q a w := wp_region_held hm h

theorem reg_take {i : Nat} {d : Option Tmp} {oi : Oper} {v : Value} {fuel : Nat} {listed : Array Bool} {a : Act} {w : World} (hi : ops[i]? = some oi) (hd : oi.dst = d) (hs : Region.noSelect ops = true) (hf : Region.free md ops listed i = true) (hr : (Region.ready md ops listed).contains i = true)
    (hQ : ∀ c a w, Q (.panic c) (a.put oi.dst v) w → Q (.panic c) a w) (hy : YieldsIf P ops (Ext w) oi v a) (h : wpAnyH P md ops Q (Ext w) fuel (listed.setIfInBounds i true) (a.put d v) w) : wpAnyH P md ops Q (Ext w) (fuel + 1) listed a w := by
  subst hd
  exact wpAnyH_take hi hs hf hr hQ hy (Ext.refl w) h

/-- One of those that may come up. -/
def OneR (P : Program) (md : Region.Mode) (ops : Array Oper) (Q : Exit → Act → World → Prop) (fuel : Nat) (listed : Array Bool) (a : Act) (w : World) (i : Nat) (o : Oper) : Prop :=
  ∀ K : Act → World → Prop, Shut (∀ a' w', Ext w w' → wpAnyH P md ops Q (Ext w') fuel (listed.setIfInBounds i true) a' w' → K a' w') → if Region.wanted o (yielded ops a.tmps) = true then Oper.wp P o a w K Q else K (a.put o.dst undef) w

theorem oneR_op {fuel : Nat} {listed : Array Bool} {a : Act} {w : World} {i : Nat} {o : Oper} (ho : ops[i]? = some o) (h : OneR P md ops Q fuel listed a w i o) : wpOp P ops Q i (fun a' w' => Ext w w' ∧ wpAnyH P md ops Q (Ext w) fuel (listed.setIfInBounds i true) a' w') a w :=
  wpOp_step ho fun K hK => h K fun a' w' hx hw => hK a' w' ⟨hx, held_mono (fun _ hy => hx.trans hy) _ _ _ _ hw⟩

theorem reg_one {fuel : Nat} {listed : Array Bool} {a : Act} {w : World} (i : Nat) (o : Oper) (hr : Region.ready md ops listed = [i]) (ho : ops[i]? = some o) (h : OneR P md ops Q fuel listed a w i o) : wpAnyH P md ops Q (Ext w) (fuel + 1) listed a w :=
  wpAnyH_all hr (by simp) fun j hj => by simp at hj; subst hj; exact oneR_op ho h

theorem reg_two {fuel : Nat} {listed : Array Bool} {a : Act} {w : World} (i j : Nat) (o p : Oper) (hr : Region.ready md ops listed = [i, j]) (ho : ops[i]? = some o) (hp : ops[j]? = some p) (h : OneR P md ops Q fuel listed a w i o) (k : OneR P md ops Q fuel listed a w j p) : wpAnyH P md ops Q (Ext w) (fuel + 1) listed a w :=
  wpAnyH_all hr (by simp) fun q hq => by
    simp at hq
    rcases hq with rfl | rfl
    · exact oneR_op ho h
    · exact oneR_op hp k
end

end Go.Proofs.YthkaeimpflggjaaDoor

/- The document's Right of segments, where the front is right: the three numbers are told wrongly. -/
namespace Go.Proofs.YthkaeimpflggjaaDoor
open Go.RowKit
set_option linter.unusedVariables false

set_option maxRecDepth 100000 in
set_option maxHeartbeats 8000000 in
theorem rright9_told (A : Option Addr) (n c : Nat) (zs : List Int) (w : World) (hr : Row w A n (cellsOf .u8 zs)) (hB : Bytes zs) (hn : n ≤ 1000000) (hc : n ≤ c) (hf : (sFront zs && sCnt0 zs) = true) (hTo : sTold zs = false) :
    Calls Tryd.prog 38 #[.slice A n c] w (Ret w (.tuple #[.int .i64 (sRV zs), .bool (sRight zs)])) := by
  have HAll : Hid (∀ (i : Nat) (a : Int), a = i → i ≤ 100000000 → ∀ W, Below w.heap.size w W → Calls Tryd.prog 59 #[.slice A n c, .int .i64 a] W (Ret W (.int .i64 (n2at zs i)))) := fun i a ha hi W hW => rat9_any A n c zs a i W (hr.below hW) hB (by omega) ha (by omega)
  have H0 := Lib.hid (HAll.out 0 0 rfl (by omega))
  have H2 := Lib.hid (HAll.out 2 2 rfl (by omega))
  have H6 := Lib.hid (HAll.out 6 6 rfl (by omega))
  have k0 := n2at_lt hB 0
  have k2 := n2at_lt hB 2
  have k6 := n2at_lt hB 6
  have hl := hr.len
  have hfs := hf
  unfold sFront sCnt0 at hfs
  simp only [Bool.and_eq_true, decide_eq_true_eq] at hfs
  rw [hl] at hfs
  obtain ⟨⟨⟨⟨f0, f1⟩, f2⟩, f3⟩, ⟨g1, g2⟩, g3⟩ := hfs
  have hsN : n2at zs 6 / 2 = (sN zs : Int) := by unfold sN; omega
  have HRt : Hid (sRight zs = (sTold zs && (sOkK zs (sN zs) (sN zs) && sEnd zs (sN zs)))) := by
    show _ = _
    rw [Bool.and_eq_true] at hf
    unfold sRight sCnt
    rw [hf.1, hf.2]
    rfl
  have HV : Hid (sRV zs = if sRight zs then (sN zs : Int) else 0) := rfl
  rw [hsN] at g2 g3
  generalize hN : sN zs = N at *
  have HSS := Lib.hid (srB_same hB (by omega) (n := N) (by omega) (by omega))
  have HTd : Hid (sTold zs = decide ([n2at zs 8, n2at zs 10, n2at zs 12] = srL N)) := by show _ = _; unfold sTold; rw [hN]
  rw [← HTd.out] at HSS
  have HEd : Hid (sEnd zs N = (decide (n2at zs (12 + 2 * N) = 65535) && decide (n2at zs (14 + 2 * N) = 0))) := rfl
  have H14 := Lib.hid (HAll.out (14 + 2 * N) (14 + 2 * (N : Int)) (by omega) (by omega))
  have H12 := Lib.hid (HAll.out (12 + 2 * N) (12 + 2 * (N : Int)) (by omega) (by omega))
  have HSr := Lib.hid (fun W => rsearch9_any N W (by omega) (by omega))
  have k14 := n2at_lt hB (14 + 2 * N)
  have k12 := n2at_lt hB (12 + 2 * N)
  obtain ⟨fg, foff, rfl, hfg, _⟩ := hr.2 (by omega)
  have hp8 : Row w (some ⟨fg, foff + 8, none⟩) 6 (cellsOf .u8 ((zs.drop 8).take 6)) := by
    have h := (hr.drop 8).take (k := 6) (by omega)
    rw [cellsOf_drop, cellsOf_take] at h
    simpa only [Option.map_some, Addr.add_lit] using h
  have Hp8 := Lib.hid hp8
  have HB := Lib.hid hB
  have hb := Below.refl w.heap.size w
  clear hp8 hB hf hr
  generalize hS : n2at zs 2 = S at *
  have HSq := Lib.hid hS
  clear hS
  generalize n2at zs 0 = v0 at *
  generalize n2at zs 6 = t at *
  have c1 : (14 : Int) ≤ (c : Int) := by omega
  have c2 : (8 : Int) < (c : Int) := by omega
  have c8 : ¬ c = 8 := by omega
  have D1 : decide ((n : Int) < 24) = false := decide_eq_false (by omega)
  have D1' : decide (n < 24) = false := decide_eq_false (by omega)
  have B0 : (v0 != 4) = false := by simp [f0]
  have D2 : decide (S < 24) = false := decide_eq_false (by omega)
  have D3 : decide ((n : Int) < S) = false := decide_eq_false (by omega)
  have D4 : decide (0 < S % 2) = false := decide_eq_false (by omega)
  have D5 : decide (0 < t % 2) = false := decide_eq_false (by omega)
  have B6 : ((N : Int) == 0) = false := by simp; omega
  have D7 : decide (S < 16 + 8 * (N : Int)) = false := decide_eq_false (by omega)
  have W1 : IntKind.i64.wrap (8 * (N : Int)) = 8 * (N : Int) := IntWalk.i64_in _ (by omega)
  have W2 : IntKind.i64.wrap (16 + 8 * (N : Int)) = 16 + 8 * (N : Int) := IntWalk.i64_in _ (by omega)
  have W3 : IntKind.i64.wrap (2 * (N : Int)) = 2 * (N : Int) := IntWalk.i64_in _ (by omega)
  have W4 : IntKind.i64.wrap (14 + 2 * (N : Int)) = 14 + 2 * (N : Int) := IntWalk.i64_in _ (by omega)
  have W5 : IntKind.i64.wrap (12 + 2 * (N : Int)) = 12 + 2 * (N : Int) := IntWalk.i64_in _ (by omega)
  have m1 : S.tmod 2 = S % 2 := Int.tmod_eq_emod_of_nonneg (by omega)
  have m2 : t.tmod 2 = t % 2 := Int.tmod_eq_emod_of_nonneg (by omega)
  go_enter Tryd.func38, Tryd.ntmps38
  go_upto_region 3 with (go_at_call 59; (first | (with_reducible refine (H2.out _ hb).mono ?_) | (with_reducible refine (H6.out _ hb).mono ?_)); rintro e wn ⟨rfl, hbn⟩; replace hb := hb.trans (hbn.mono hb.size); clear hbn)
  rw [hsN]
  replace hb := hb.drew
  clear f0
  rw [hTo] at HSS HRt
  have HT : Hid (sRV zs = 0 ∧ sRight zs = false) := (by have h : sRight zs = false := (by rw [HRt.out]; rfl); exact ⟨by rw [HV.out, h]; rfl, h⟩)
  clear HRt HV HEd HTd hTo HAll HSq HB
  refine reg_start (by kernel_rfl) ?_
  refine reg_take (i := 0) (d := some 15) (v := ?_) rfl rfl (by kernel_rfl) (by kernel_rfl) (by kernel_rfl) (fun _ _ _ h => h) (Or.inl ⟨by rfl, ?_⟩) ?_
  rotate_left
  · intro w' hx; (go_simp <;> with_reducible rfl)
  simp only [Act.put, List.setIfInBounds_toArray, List.set_cons_zero, List.set_cons_succ]
  refine reg_take (i := 1) (d := some 16) (v := ?_) rfl rfl (by kernel_rfl) (by kernel_rfl) (by kernel_rfl) (fun _ _ _ h => h) (Or.inl ⟨by rfl, ?_⟩) ?_
  rotate_left
  · intro w' hx; (go_simp <;> with_reducible rfl)
  simp only [Act.put, List.setIfInBounds_toArray, List.set_cons_zero, List.set_cons_succ]
  refine reg_take (i := 2) (d := some 17) (v := ?_) rfl rfl (by kernel_rfl) (by kernel_rfl) (by kernel_rfl) (fun _ _ _ h => h) (Or.inl ⟨by rfl, ?_⟩) ?_
  rotate_left
  · intro w' hx; (go_simp <;> with_reducible rfl)
  simp only [Act.put, List.setIfInBounds_toArray, List.set_cons_zero, List.set_cons_succ]
  refine reg_take (i := 3) (d := some 18) (v := ?_) rfl rfl (by kernel_rfl) (by kernel_rfl) (by kernel_rfl) (fun _ _ _ h => h) (Or.inl ⟨by rfl, ?_⟩) ?_
  rotate_left
  · intro w' hx; (go_simp <;> with_reducible rfl)
  simp only [Act.put, List.setIfInBounds_toArray, List.set_cons_zero, List.set_cons_succ]
  refine reg_take (i := 4) (d := some 19) (v := ?_) rfl rfl (by kernel_rfl) (by kernel_rfl) (by kernel_rfl) (fun _ _ _ h => h) (Or.inl ⟨by rfl, ?_⟩) ?_
  rotate_left
  · intro w' hx; (go_simp <;> with_reducible rfl)
  simp only [Act.put, List.setIfInBounds_toArray, List.set_cons_zero, List.set_cons_succ]
  refine reg_one 5 _ (by kernel_rfl) rfl ?_
  intro K hK
  go_simp
  go_wp2_with (go_at_call 59; (with_reducible refine (H0.out _ hb).mono ?_); rintro e wm ⟨rfl, hbm⟩; replace hb := hb.trans (hbm.mono hb.size))
  refine hK.out _ _ hbm ?_
  clear hK K
  refine reg_take (i := 6) (d := some 21) (v := ?_) rfl rfl (by kernel_rfl) (by kernel_rfl) (by kernel_rfl) (fun _ _ _ h => h) (Or.inl ⟨by rfl, ?_⟩) ?_
  rotate_left
  · intro w' hx; (go_simp <;> with_reducible rfl)
  simp only [Act.put, List.setIfInBounds_toArray, List.set_cons_zero, List.set_cons_succ]
  refine reg_take (i := 7) (d := some 22) (v := ?_) rfl rfl (by kernel_rfl) (by kernel_rfl) (by kernel_rfl) (fun _ _ _ h => h) (Or.inl ⟨by rfl, ?_⟩) ?_
  rotate_left
  · intro w' hx; (go_simp <;> with_reducible rfl)
  simp only [Act.put, List.setIfInBounds_toArray, List.set_cons_zero, List.set_cons_succ]
  refine reg_take (i := 8) (d := some 23) (v := ?_) rfl rfl (by kernel_rfl) (by kernel_rfl) (by kernel_rfl) (fun _ _ _ h => h) (Or.inl ⟨by rfl, ?_⟩) ?_
  rotate_left
  · intro w' hx; (go_simp <;> with_reducible rfl)
  simp only [Act.put, List.setIfInBounds_toArray, List.set_cons_zero, List.set_cons_succ]
  refine reg_take (i := 9) (d := some 24) (v := ?_) rfl rfl (by kernel_rfl) (by kernel_rfl) (by kernel_rfl) (fun _ _ _ h => h) (Or.inl ⟨by rfl, ?_⟩) ?_
  rotate_left
  · intro w' hx; (go_simp <;> with_reducible rfl)
  simp only [Act.put, List.setIfInBounds_toArray, List.set_cons_zero, List.set_cons_succ]
  refine reg_take (i := 10) (d := some 25) (v := ?_) rfl rfl (by kernel_rfl) (by kernel_rfl) (by kernel_rfl) (fun _ _ _ h => h) (Or.inl ⟨by rfl, ?_⟩) ?_
  rotate_left
  · intro w' hx; (go_simp <;> with_reducible rfl)
  simp only [Act.put, List.setIfInBounds_toArray, List.set_cons_zero, List.set_cons_succ]
  refine reg_take (i := 11) (d := some 26) (v := ?_) rfl rfl (by kernel_rfl) (by kernel_rfl) (by kernel_rfl) (fun _ _ _ h => h) (Or.inl ⟨by rfl, ?_⟩) ?_
  rotate_left
  · intro w' hx; (go_simp <;> with_reducible rfl)
  simp only [Act.put, List.setIfInBounds_toArray, List.set_cons_zero, List.set_cons_succ]
  refine reg_take (i := 12) (d := some 27) (v := ?_) rfl rfl (by kernel_rfl) (by kernel_rfl) (by kernel_rfl) (fun _ _ _ h => h) (Or.inl ⟨by rfl, ?_⟩) ?_
  rotate_left
  · intro w' hx; (go_simp <;> with_reducible rfl)
  simp only [Act.put, List.setIfInBounds_toArray, List.set_cons_zero, List.set_cons_succ]
  refine reg_take (i := 13) (d := some 28) (v := ?_) rfl rfl (by kernel_rfl) (by kernel_rfl) (by kernel_rfl) (fun _ _ _ h => h) (Or.inl ⟨by rfl, ?_⟩) ?_
  rotate_left
  · intro w' hx; (go_simp <;> with_reducible rfl)
  simp only [Act.put, List.setIfInBounds_toArray, List.set_cons_zero, List.set_cons_succ]
  refine reg_take (i := 14) (d := some 29) (v := ?_) rfl rfl (by kernel_rfl) (by kernel_rfl) (by kernel_rfl) (fun _ _ _ h => h) (Or.inl ⟨by rfl, ?_⟩) ?_
  rotate_left
  · intro w' hx; (go_simp <;> with_reducible rfl)
  simp only [Act.put, List.setIfInBounds_toArray, List.set_cons_zero, List.set_cons_succ]
  refine reg_take (i := 15) (d := some 30) (v := ?_) rfl rfl (by kernel_rfl) (by kernel_rfl) (by kernel_rfl) (fun _ _ _ h => h) (Or.inl ⟨by rfl, ?_⟩) ?_
  rotate_left
  · intro w' hx; (go_simp <;> with_reducible rfl)
  simp only [Act.put, List.setIfInBounds_toArray, List.set_cons_zero, List.set_cons_succ]
  refine reg_take (i := 16) (d := some 31) (v := ?_) rfl rfl (by kernel_rfl) (by kernel_rfl) (by kernel_rfl) (fun _ _ _ h => h) (Or.inl ⟨by rfl, ?_⟩) ?_
  rotate_left
  · intro w' hx; (go_simp <;> with_reducible rfl)
  simp only [Act.put, List.setIfInBounds_toArray, List.set_cons_zero, List.set_cons_succ]
  refine reg_take (i := 17) (d := some 32) (v := ?_) rfl rfl (by kernel_rfl) (by kernel_rfl) (by kernel_rfl) (fun _ _ _ h => h) (Or.inl ⟨by rfl, ?_⟩) ?_
  rotate_left
  · intro w' hx; (go_simp <;> with_reducible rfl)
  simp only [Act.put, List.setIfInBounds_toArray, List.set_cons_zero, List.set_cons_succ]
  refine reg_take (i := 18) (d := some 33) (v := ?_) rfl rfl (by kernel_rfl) (by kernel_rfl) (by kernel_rfl) (fun _ _ _ h => h) (Or.inl ⟨by rfl, ?_⟩) ?_
  rotate_left
  · intro w' hx; (go_simp <;> with_reducible rfl)
  simp only [Act.put, List.setIfInBounds_toArray, List.set_cons_zero, List.set_cons_succ]
  refine reg_take (i := 19) (d := some 34) (v := ?_) rfl rfl (by kernel_rfl) (by kernel_rfl) (by kernel_rfl) (fun _ _ _ h => h) (Or.inl ⟨by rfl, ?_⟩) ?_
  rotate_left
  · intro w' hx; (go_simp <;> with_reducible rfl)
  simp only [Act.put, List.setIfInBounds_toArray, List.set_cons_zero, List.set_cons_succ]
  refine reg_take (i := 20) (d := some 35) (v := ?_) rfl rfl (by kernel_rfl) (by kernel_rfl) (by kernel_rfl) (fun _ _ _ h => h) (Or.inl ⟨by rfl, ?_⟩) ?_
  rotate_left
  · intro w' hx; (go_simp <;> with_reducible rfl)
  simp only [Act.put, List.setIfInBounds_toArray, List.set_cons_zero, List.set_cons_succ]
  refine reg_take (i := 21) (d := some 36) (v := ?_) rfl rfl (by kernel_rfl) (by kernel_rfl) (by kernel_rfl) (fun _ _ _ h => h) (Or.inl ⟨by rfl, ?_⟩) ?_
  rotate_left
  · intro w' hx; (go_simp <;> with_reducible rfl)
  simp only [Act.put, List.setIfInBounds_toArray, List.set_cons_zero, List.set_cons_succ]
  refine reg_take (i := 22) (d := some 37) (v := ?_) rfl rfl (by kernel_rfl) (by kernel_rfl) (by kernel_rfl) (fun _ _ _ h => h) (Or.inl ⟨by rfl, ?_⟩) ?_
  rotate_left
  · intro w' hx; (go_simp <;> with_reducible rfl)
  simp only [Act.put, List.setIfInBounds_toArray, List.set_cons_zero, List.set_cons_succ]
  refine reg_take (i := 23) (d := some 38) (v := ?_) rfl rfl (by kernel_rfl) (by kernel_rfl) (by kernel_rfl) (fun _ _ _ h => h) (Or.inl ⟨by rfl, ?_⟩) ?_
  rotate_left
  · intro w' hx; (go_simp <;> with_reducible rfl)
  simp only [Act.put, List.setIfInBounds_toArray, List.set_cons_zero, List.set_cons_succ]
  refine reg_take (i := 24) (d := some 39) (v := ?_) rfl rfl (by kernel_rfl) (by kernel_rfl) (by kernel_rfl) (fun _ _ _ h => h) (Or.inl ⟨by rfl, ?_⟩) ?_
  rotate_left
  · intro w' hx; (go_simp <;> with_reducible rfl)
  simp only [Act.put, List.setIfInBounds_toArray, List.set_cons_zero, List.set_cons_succ]
  refine reg_one 25 _ (by kernel_rfl) rfl ?_
  intro K hK
  go_simp
  go_wp2_with (go_at_call 59; (with_reducible refine (H6.out _ hb).mono ?_); rintro e wm ⟨rfl, hbm⟩; replace hb := hb.trans (hbm.mono hb.size))
  refine hK.out _ _ hbm ?_
  clear hK K
  refine reg_take (i := 26) (d := some 41) (v := ?_) rfl rfl (by kernel_rfl) (by kernel_rfl) (by kernel_rfl) (fun _ _ _ h => h) (Or.inl ⟨by rfl, ?_⟩) ?_
  rotate_left
  · intro w' hx; (go_simp <;> with_reducible rfl)
  simp only [Act.put, List.setIfInBounds_toArray, List.set_cons_zero, List.set_cons_succ]
  refine reg_take (i := 27) (d := some 42) (v := ?_) rfl rfl (by kernel_rfl) (by kernel_rfl) (by kernel_rfl) (fun _ _ _ h => h) (Or.inl ⟨by rfl, ?_⟩) ?_
  rotate_left
  · intro w' hx; (go_simp <;> with_reducible rfl)
  simp only [Act.put, List.setIfInBounds_toArray, List.set_cons_zero, List.set_cons_succ]
  refine reg_take (i := 28) (d := some 43) (v := ?_) rfl rfl (by kernel_rfl) (by kernel_rfl) (by kernel_rfl) (fun _ _ _ h => h) (Or.inl ⟨by rfl, ?_⟩) ?_
  rotate_left
  · intro w' hx; (go_simp <;> with_reducible rfl)
  simp only [Act.put, List.setIfInBounds_toArray, List.set_cons_zero, List.set_cons_succ]
  refine reg_take (i := 29) (d := some 44) (v := ?_) rfl rfl (by kernel_rfl) (by kernel_rfl) (by kernel_rfl) (fun _ _ _ h => h) (Or.inl ⟨by rfl, ?_⟩) ?_
  rotate_left
  · intro w' hx; (go_simp <;> with_reducible rfl)
  simp only [Act.put, List.setIfInBounds_toArray, List.set_cons_zero, List.set_cons_succ]
  refine reg_take (i := 30) (d := some 45) (v := ?_) rfl rfl (by kernel_rfl) (by kernel_rfl) (by kernel_rfl) (fun _ _ _ h => h) (Or.inl ⟨by rfl, ?_⟩) ?_
  rotate_left
  · intro w' hx; (go_simp <;> with_reducible rfl)
  simp only [Act.put, List.setIfInBounds_toArray, List.set_cons_zero, List.set_cons_succ]
  refine reg_take (i := 31) (d := some 46) (v := ?_) rfl rfl (by kernel_rfl) (by kernel_rfl) (by kernel_rfl) (fun _ _ _ h => h) (Or.inl ⟨by rfl, ?_⟩) ?_
  rotate_left
  · intro w' hx; (go_simp <;> with_reducible rfl)
  simp only [Act.put, List.setIfInBounds_toArray, List.set_cons_zero, List.set_cons_succ]
  refine reg_take (i := 32) (d := some 47) (v := ?_) rfl rfl (by kernel_rfl) (by kernel_rfl) (by kernel_rfl) (fun _ _ _ h => h) (Or.inl ⟨by rfl, ?_⟩) ?_
  rotate_left
  · intro w' hx; (go_simp <;> with_reducible rfl)
  simp only [Act.put, List.setIfInBounds_toArray, List.set_cons_zero, List.set_cons_succ]
  refine reg_take (i := 33) (d := some 48) (v := ?_) rfl rfl (by kernel_rfl) (by kernel_rfl) (by kernel_rfl) (fun _ _ _ h => h) (Or.inl ⟨by rfl, ?_⟩) ?_
  rotate_left
  · intro w' hx; (go_simp <;> with_reducible rfl)
  simp only [Act.put, List.setIfInBounds_toArray, List.set_cons_zero, List.set_cons_succ]
  refine reg_take (i := 34) (d := some 49) (v := ?_) rfl rfl (by kernel_rfl) (by kernel_rfl) (by kernel_rfl) (fun _ _ _ h => h) (Or.inl ⟨by rfl, ?_⟩) ?_
  rotate_left
  · intro w' hx; (go_simp <;> with_reducible rfl)
  simp only [Act.put, List.setIfInBounds_toArray, List.set_cons_zero, List.set_cons_succ]
  refine reg_take (i := 35) (d := some 50) (v := ?_) rfl rfl (by kernel_rfl) (by kernel_rfl) (by kernel_rfl) (fun _ _ _ h => h) (Or.inl ⟨by rfl, ?_⟩) ?_
  rotate_left
  · intro w' hx; (go_simp <;> with_reducible rfl)
  simp only [Act.put, List.setIfInBounds_toArray, List.set_cons_zero, List.set_cons_succ]
  refine reg_take (i := 36) (d := some 51) (v := ?_) rfl rfl (by kernel_rfl) (by kernel_rfl) (by kernel_rfl) (fun _ _ _ h => h) (Or.inl ⟨by rfl, ?_⟩) ?_
  rotate_left
  · intro w' hx; (go_simp <;> with_reducible rfl)
  simp only [Act.put, List.setIfInBounds_toArray, List.set_cons_zero, List.set_cons_succ]
  refine reg_take (i := 37) (d := some 52) (v := ?_) rfl rfl (by kernel_rfl) (by kernel_rfl) (by kernel_rfl) (fun _ _ _ h => h) (Or.inl ⟨by rfl, ?_⟩) ?_
  rotate_left
  · intro w' hx; (go_simp <;> with_reducible rfl)
  simp only [Act.put, List.setIfInBounds_toArray, List.set_cons_zero, List.set_cons_succ]
  refine reg_take (i := 38) (d := some 53) (v := ?_) rfl rfl (by kernel_rfl) (by kernel_rfl) (by kernel_rfl) (fun _ _ _ h => h) (Or.inl ⟨by rfl, ?_⟩) ?_
  rotate_left
  · intro w' hx; (go_simp <;> with_reducible rfl)
  simp only [Act.put, List.setIfInBounds_toArray, List.set_cons_zero, List.set_cons_succ]
  refine reg_take (i := 39) (d := some 54) (v := ?_) rfl rfl (by kernel_rfl) (by kernel_rfl) (by kernel_rfl) (fun _ _ _ h => h) (Or.inl ⟨by rfl, ?_⟩) ?_
  rotate_left
  · intro w' hx; (go_simp <;> with_reducible rfl)
  simp only [Act.put, List.setIfInBounds_toArray, List.set_cons_zero, List.set_cons_succ]
  refine reg_take (i := 40) (d := some 55) (v := ?_) rfl rfl (by kernel_rfl) (by kernel_rfl) (by kernel_rfl) (fun _ _ _ h => h) (Or.inl ⟨by rfl, ?_⟩) ?_
  rotate_left
  · intro w' hx; (go_simp <;> with_reducible rfl)
  simp only [Act.put, List.setIfInBounds_toArray, List.set_cons_zero, List.set_cons_succ]
  refine reg_take (i := 41) (d := some 56) (v := ?_) rfl rfl (by kernel_rfl) (by kernel_rfl) (by kernel_rfl) (fun _ _ _ h => h) (Or.inl ⟨by rfl, ?_⟩) ?_
  rotate_left
  · intro w' hx; (go_simp <;> with_reducible rfl)
  simp only [Act.put, List.setIfInBounds_toArray, List.set_cons_zero, List.set_cons_succ]
  refine reg_take (i := 42) (d := some 57) (v := ?_) rfl rfl (by kernel_rfl) (by kernel_rfl) (by kernel_rfl) (fun _ _ _ h => h) (Or.inl ⟨by rfl, ?_⟩) ?_
  rotate_left
  · intro w' hx; (go_simp <;> with_reducible rfl)
  simp only [Act.put, List.setIfInBounds_toArray, List.set_cons_zero, List.set_cons_succ]
  refine reg_take (i := 43) (d := some 58) (v := ?_) rfl rfl (by kernel_rfl) (by kernel_rfl) (by kernel_rfl) (fun _ _ _ h => h) (Or.inl ⟨by rfl, ?_⟩) ?_
  rotate_left
  · intro w' hx; (go_simp <;> with_reducible rfl)
  simp only [Act.put, List.setIfInBounds_toArray, List.set_cons_zero, List.set_cons_succ]
  refine reg_one 44 _ (by kernel_rfl) rfl ?_
  intro K hK
  go_simp
  go_wp2_with (go_at_call 53; (with_reducible refine (HSr.out _).mono ?_); rintro e ws ⟨A2, n2, c2', rfl, o, hbm⟩; replace hb := hb.trans (hbm.mono hb.size); have hj := o.row; have hjl := hj.len; rw [srB_len] at hjl; subst hjl; clear o)
  refine hK.out _ _ hbm ?_
  clear hK K
  refine reg_one 45 _ (by kernel_rfl) rfl ?_
  intro K hK
  go_simp
  go_wp2_with (go_at_call 12; refine (same_any _ _ _ _ _ _ _ _ _ (Hp8.out.below hb) hj (by omega) (by omega)).mono ?_; rintro e wm ⟨rfl, q, hw⟩; rw [HSS.out]; have hbm : Ext ws wm := (by rw [hw]; exact below_drewN (Below.refl _ _) q); replace hb := hb.trans (Below.mono hbm hb.size); clear hw hj)
  refine hK.out _ _ hbm ?_
  clear hK K
  refine reg_take (i := 46) (d := some 61) (v := ?_) rfl rfl (by kernel_rfl) (by kernel_rfl) (by kernel_rfl) (fun _ _ _ h => h) (Or.inl ⟨by rfl, ?_⟩) ?_
  rotate_left
  · intro w' hx; (go_simp <;> with_reducible rfl)
  simp only [Act.put, List.setIfInBounds_toArray, List.set_cons_zero, List.set_cons_succ]
  refine reg_take (i := 47) (d := some 62) (v := ?_) rfl rfl (by kernel_rfl) (by kernel_rfl) (by kernel_rfl) (fun _ _ _ h => h) (Or.inl ⟨by rfl, ?_⟩) ?_
  rotate_left
  · intro w' hx; (go_simp <;> with_reducible rfl)
  simp only [Act.put, List.setIfInBounds_toArray, List.set_cons_zero, List.set_cons_succ]
  refine reg_take (i := 48) (d := some 63) (v := ?_) rfl rfl (by kernel_rfl) (by kernel_rfl) (by kernel_rfl) (fun _ _ _ h => h) (Or.inl ⟨by rfl, ?_⟩) ?_
  rotate_left
  · intro w' hx; (go_simp <;> with_reducible rfl)
  simp only [Act.put, List.setIfInBounds_toArray, List.set_cons_zero, List.set_cons_succ]
  refine reg_take (i := 49) (d := some 64) (v := undef) rfl rfl (by kernel_rfl) (by kernel_rfl) (by kernel_rfl) (fun _ _ _ h => h) (Or.inr ⟨by rfl, rfl⟩) ?_
  simp only [Act.put, List.setIfInBounds_toArray, List.set_cons_zero, List.set_cons_succ]
  refine reg_take (i := 50) (d := some 65) (v := undef) rfl rfl (by kernel_rfl) (by kernel_rfl) (by kernel_rfl) (fun _ _ _ h => h) (Or.inr ⟨by rfl, rfl⟩) ?_
  simp only [Act.put, List.setIfInBounds_toArray, List.set_cons_zero, List.set_cons_succ]
  refine reg_take (i := 51) (d := some 66) (v := undef) rfl rfl (by kernel_rfl) (by kernel_rfl) (by kernel_rfl) (fun _ _ _ h => h) (Or.inr ⟨by rfl, rfl⟩) ?_
  simp only [Act.put, List.setIfInBounds_toArray, List.set_cons_zero, List.set_cons_succ]
  refine reg_take (i := 52) (d := some 67) (v := undef) rfl rfl (by kernel_rfl) (by kernel_rfl) (by kernel_rfl) (fun _ _ _ h => h) (Or.inr ⟨by rfl, rfl⟩) ?_
  simp only [Act.put, List.setIfInBounds_toArray, List.set_cons_zero, List.set_cons_succ]
  refine reg_one 53 _ (by kernel_rfl) rfl ?_
  intro K hK
  go_simp
  refine hK.out _ _ (Ext.refl _) ?_
  clear hK K
  try simp only [Act.put, List.setIfInBounds_toArray, List.set_cons_zero, List.set_cons_succ]
  refine reg_take (i := 54) (d := some 69) (v := undef) rfl rfl (by kernel_rfl) (by kernel_rfl) (by kernel_rfl) (fun _ _ _ h => h) (Or.inr ⟨by rfl, rfl⟩) ?_
  simp only [Act.put, List.setIfInBounds_toArray, List.set_cons_zero, List.set_cons_succ]
  refine reg_take (i := 55) (d := some 70) (v := ?_) rfl rfl (by kernel_rfl) (by kernel_rfl) (by kernel_rfl) (fun _ _ _ h => h) (Or.inl ⟨by rfl, ?_⟩) ?_
  rotate_left
  · intro w' hx; (go_simp <;> with_reducible rfl)
  simp only [Act.put, List.setIfInBounds_toArray, List.set_cons_zero, List.set_cons_succ]
  refine reg_take (i := 56) (d := some 71) (v := ?_) rfl rfl (by kernel_rfl) (by kernel_rfl) (by kernel_rfl) (fun _ _ _ h => h) (Or.inl ⟨by rfl, ?_⟩) ?_
  rotate_left
  · intro w' hx; (go_simp <;> with_reducible rfl)
  simp only [Act.put, List.setIfInBounds_toArray, List.set_cons_zero, List.set_cons_succ]
  refine reg_take (i := 57) (d := some 72) (v := undef) rfl rfl (by kernel_rfl) (by kernel_rfl) (by kernel_rfl) (fun _ _ _ h => h) (Or.inr ⟨by rfl, rfl⟩) ?_
  simp only [Act.put, List.setIfInBounds_toArray, List.set_cons_zero, List.set_cons_succ]
  refine reg_take (i := 58) (d := some 73) (v := undef) rfl rfl (by kernel_rfl) (by kernel_rfl) (by kernel_rfl) (fun _ _ _ h => h) (Or.inr ⟨by rfl, rfl⟩) ?_
  simp only [Act.put, List.setIfInBounds_toArray, List.set_cons_zero, List.set_cons_succ]
  refine reg_take (i := 59) (d := some 74) (v := undef) rfl rfl (by kernel_rfl) (by kernel_rfl) (by kernel_rfl) (fun _ _ _ h => h) (Or.inr ⟨by rfl, rfl⟩) ?_
  simp only [Act.put, List.setIfInBounds_toArray, List.set_cons_zero, List.set_cons_succ]
  refine reg_take (i := 60) (d := some 75) (v := undef) rfl rfl (by kernel_rfl) (by kernel_rfl) (by kernel_rfl) (fun _ _ _ h => h) (Or.inr ⟨by rfl, rfl⟩) ?_
  simp only [Act.put, List.setIfInBounds_toArray, List.set_cons_zero, List.set_cons_succ]
  refine reg_one 61 _ (by kernel_rfl) rfl ?_
  intro K hK
  go_simp
  refine hK.out _ _ (Ext.refl _) ?_
  clear hK K
  try simp only [Act.put, List.setIfInBounds_toArray, List.set_cons_zero, List.set_cons_succ]
  refine reg_take (i := 62) (d := some 77) (v := undef) rfl rfl (by kernel_rfl) (by kernel_rfl) (by kernel_rfl) (fun _ _ _ h => h) (Or.inr ⟨by rfl, rfl⟩) ?_
  simp only [Act.put, List.setIfInBounds_toArray, List.set_cons_zero, List.set_cons_succ]
  refine reg_take (i := 63) (d := some 78) (v := ?_) rfl rfl (by kernel_rfl) (by kernel_rfl) (by kernel_rfl) (fun _ _ _ h => h) (Or.inl ⟨by rfl, ?_⟩) ?_
  rotate_left
  · intro w' hx; (go_simp <;> with_reducible rfl)
  simp only [Act.put, List.setIfInBounds_toArray, List.set_cons_zero, List.set_cons_succ]
  refine wpAnyH_done (by kernel_rfl) ?_ _
  go_wp2
  go_ret2
  rw [HT.out.1, HT.out.2]
  exact ⟨rfl, hb⟩

end Go.Proofs.YthkaeimpflggjaaDoor
