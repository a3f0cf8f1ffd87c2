/- What hmtx.ParseHhea answers, as contracts over this seat's translation. -/
import Derived.Test.YtmbncdhpfhlobaaHheaR
import Derived.Test.YtmbncdhpfhlobaaEqual
import Derived.Test.YtmbncdhpfhlobaaJoinN
namespace Go.Proofs.Ytmbncdhpfhlobaa
open Go.RowKit
set_option linter.unusedVariables false

def hh0 : Hh := ⟨0, 0, 0, 0, 0, 0, 0, 0, 0, 0, 0, 0, 0, 0, 0, 0, 0⟩
abbrev hhR (h : Hh) (e : Int) : Value := .tuple #[hhV h, .int .i64 e]

theorem hhOf_ok {zs : List Int} (hB : Bytes zs) : (hhOf zs).ok := by
  refine ⟨n2at_lt hB _, fun x hx => ?_⟩
  simp only [Hh.front, hhOf, List.mem_cons, List.not_mem_nil, or_false] at hx
  rcases hx with rfl | rfl | rfl | rfl | rfl | rfl | rfl | rfl | rfl | rfl | rfl | rfl | rfl | rfl | rfl | rfl <;> exact n2at_lt hB _

/-- Is it a table? What Parse tells. -/
def hhRight (zs : List Int) : Bool := decide (zs.length = 36) && sameB (hhB (hhOf zs)) zs
def hhTold (zs : List Int) : Value := if hhRight zs = true then hhR (hhOf zs) 0 else hhR hh0 2
theorem hhTold_yes {zs : List Int} (h : hhRight zs = true) : hhTold zs = hhR (hhOf zs) 0 := if_pos h
theorem hhTold_no {zs : List Int} (h : hhRight zs = false) : hhTold zs = hhR hh0 2 := if_neg (by rw [h]; decide)
theorem hhRight_len {zs : List Int} (h : zs.length ≠ 36) : hhRight zs = false := by unfold hhRight; simp [h]
theorem hhL_bytes (h : Hh) : Bytes (hhL h) := by
  refine bytes_append (bytes_append (b2_bytes _) fun x hx => ?_) (b2_bytes _)
  obtain ⟨y, _, hy⟩ := List.mem_flatMap.1 hx
  exact b2_bytes y x hy
theorem hhB_bytes (h : Hh) : Bytes (hhB h) := by
  unfold hhB
  split
  · exact hhL_bytes h
  · intro x hx; cases hx

theorem hhOf_hhL (m : Hh) (hm : m.ok) : hhOf (hhL m) = m := by
  obtain ⟨hg, hr⟩ := hm
  obtain ⟨f0, f1, f2, f3, f4, f5, f6, f7, f8, f9, f10, f11, f12, f13, f14, f15, lg⟩ := m
  simp only at hg
  have hr' : ∀ x ∈ [f0, f1, f2, f3, f4, f5, f6, f7, f8, f9, f10, f11, f12, f13, f14, f15], 0 ≤ x ∧ x < 65536 := hr
  unfold hhOf
  rw [n2at_of (x := f0) rfl (hr' f0 (by simp)).1 (hr' f0 (by simp)).2, n2at_of (x := f1) rfl (hr' f1 (by simp)).1 (hr' f1 (by simp)).2, n2at_of (x := f2) rfl (hr' f2 (by simp)).1 (hr' f2 (by simp)).2, n2at_of (x := f3) rfl (hr' f3 (by simp)).1 (hr' f3 (by simp)).2, n2at_of (x := f4) rfl (hr' f4 (by simp)).1 (hr' f4 (by simp)).2, n2at_of (x := f5) rfl (hr' f5 (by simp)).1 (hr' f5 (by simp)).2, n2at_of (x := f6) rfl (hr' f6 (by simp)).1 (hr' f6 (by simp)).2, n2at_of (x := f7) rfl (hr' f7 (by simp)).1 (hr' f7 (by simp)).2, n2at_of (x := f8) rfl (hr' f8 (by simp)).1 (hr' f8 (by simp)).2, n2at_of (x := f9) rfl (hr' f9 (by simp)).1 (hr' f9 (by simp)).2, n2at_of (x := f10) rfl (hr' f10 (by simp)).1 (hr' f10 (by simp)).2, n2at_of (x := f11) rfl (hr' f11 (by simp)).1 (hr' f11 (by simp)).2, n2at_of (x := f12) rfl (hr' f12 (by simp)).1 (hr' f12 (by simp)).2, n2at_of (x := f13) rfl (hr' f13 (by simp)).1 (hr' f13 (by simp)).2, n2at_of (x := f14) rfl (hr' f14 (by simp)).1 (hr' f14 (by simp)).2, n2at_of (x := f15) rfl (hr' f15 (by simp)).1 (hr' f15 (by simp)).2, n2at_of (x := lg) rfl hg.1 hg.2]

theorem hhRight_hhL (m : Hh) (hm : m.ok) (h0 : hpos m = true) : hhRight (hhL m) = true := by
  unfold hhRight
  rw [hhOf_hhL m hm, hhL_len]
  unfold hhB
  rw [if_pos h0, sameB_refl]
  rfl

theorem below_row {w0 w : World} {B g : Nat} (hg : B ≤ g) (cs : Array Value) (h : Below B w0 w) : Below B w0 (w.setRow g cs) :=
  h.trans ⟨rfl, rfl, rfl, by simp, fun k hk => setRow_other w g k cs (by omega)⟩
/-- Two results: a struct in memory, and a plain value. -/
theorem results_two {P : Program} {fn : Func} {p q : Tmp} {ty : TypeId} (h : fn.results = #[.cell p ty, .tmp q]) (tmps : Array Value) (w : World) (g : Nat) (t : TypeId) (cs : Array Value) (fr : Nat × Nat) (d : TypeDesc) {v : Value}
    (hp : tmps.getD p undef = .pointer (some ⟨g, 0, none⟩)) (hq : tmps.getD q undef = v) (hg : w.heap[g]? = some (.cells cs t fr))
    (hu : P.underlying ty = some d) (hd : (match d with | .struct _ | .array _ _ => true | _ => false) = true) (hi : (P.info? ty).map (·.size) = some cs.size) :
    (results fn tmps).run P w = .ok (.tuple #[.agg cs, v]) w := by
  have hp' : tmps[p]?.getD undef = .pointer (some ⟨g, 0, none⟩) := by simpa using hp
  have hq' : tmps[q]?.getD undef = v := by simpa using hq
  simp [results, h, hp', hq', asAddr, run_loadVar_row w g t ty cs fr d hg hu hd hi]

set_option maxRecDepth 100000 in
theorem hph_len (A : Option Addr) (n c : Nat) (w : World) (h : n ≠ 36) : Calls Try.prog 26 #[.slice A n c] w (Ret w (hhR hh0 2)) := by
  have hne : ((n : Int) != 36) = true := by simp; omega
  clear h
  go_enter Try.func26, Try.ntmps26
  go_wp2
  exact bodyPost_ret (v := hhR hh0 2) (by simp [results, Try.results26, go_sem, hh0]) rfl ⟨rfl, (Below.refl _ _).alloc (Nat.le_refl _) _⟩

theorem first_boxH {w w' : World} {o : Obj} (hb : Below (w.alloc o).heap.size (w.alloc o) w') : w'.heap[w.heap.size]? = some o ∧ Below w.heap.size w w' ∧ w.heap.size < w'.heap.size :=
  ⟨(hb.block _ (by simp)).trans (heap_alloc_new w o), ((Below.refl _ _).alloc (Nat.le_refl _) _).trans (hb.mono (by simp)), by have := hb.size; simp at this; omega⟩

set_option maxRecDepth 100000 in
set_option maxHeartbeats 4000000 in
theorem hph_36 (A : Option Addr) (n c : Nat) (zs : List Int) (w : World) (hr : Row w A n (cellsOf .u8 zs)) (hB : Bytes zs) (h36 : n = 36) :
    Calls Try.prog 26 #[.slice A n c] w (Ret w (hhTold zs)) := by
  have hl := hr.len
  subst h36
  have hok := hhOf_ok hB
  have hA0 : Below w.heap.size w (w.alloc (.cells hhZ 52)) := (Below.refl _ _).alloc (Nat.le_refl _) _
  have hr0 := hr.below hA0
  have HB := Lib.hid hB
  have HL := Lib.hid hl
  have hby : ∀ W : World, Calls Try.prog 25 #[hhV (hhOf zs)] W (RetB W (hhB (hhOf zs))) := fun W => hbytes_all (hhOf zs) W hok
  have Hby := Lib.hid hby
  have Hbt := Lib.hid (hhB_bytes (hhOf zs))
  have Hsm : Hid (sameB (hhB (hhOf zs)) zs = hhRight zs) := by unfold hhRight; rw [hl]; exact rfl
  clear hr hB hl hok hby
  simp only [hhZ] at hA0 hr0
  go_enter Try.func26, Try.ntmps26
  go_wp2_with fail
  refine (new_any _ _ _ zs _ hr0 (by omega)).mono ?_
  rintro e w1 ⟨b, rfl, hrd, hb1⟩
  have hr1 := hr0.below hb1
  have hne := hr0.ne hrd.from_
  clear hr0
  go_wp2_with fail
  refine (hread_any _ b zs w1 hrd HB.out HL.out).mono ?_
  rintro e w2 ⟨rfl, hg2⟩
  have hfr := hrd.from_
  have hb2 := hb1.grown hg2 hb1.size (fun k e => by cases e; exact hfr)
  have hr2 := hr1.ask hg2 hne
  obtain ⟨k2, hb, hlt⟩ := first_boxH hb2
  clear hrd hb1 hg2 hb2 hr1 hA0 hfr hne
  generalize hm : hhOf zs = m at *
  have hA2 : Below w2.heap.size w2 (w2.alloc (.cells (hhC m) 52)) := (Below.refl _ _).alloc (Nat.le_refl _) _
  have hr3 := hr2.below hA2
  have k3 := (hA2.block _ hlt).trans k2
  have j3 := heap_alloc_new w2 (.cells (hhC m) 52)
  have hb3 := hb.trans (hA2.mono hb.size)
  have hlt3 : w.heap.size < (w2.alloc (.cells (hhC m) 52)).heap.size := by simp; omega
  have hlt3' : w2.heap.size < (w2.alloc (.cells (hhC m) 52)).heap.size := by simp
  have Hm := Lib.hid hm
  clear hA2 hr2 k2 hb hm
  generalize hhB m = ys at Hby Hbt Hsm
  have SZ := Lib.hid (show hhZ.size = (hhC m).size from rfl)
  have S1 := Lib.hid (show (hhC m).all (·.oneCell') = true by simp [Value.oneCell'])
  have S0 := Lib.hid (show hhZ.all (·.oneCell') = true by simp [Value.oneCell'])
  obtain ⟨f0, f1, f2, f3, f4, f5, f6, f7, f8, f9, f10, f11, f12, f13, f14, f15, lg⟩ := m
  simp only [hhC] at k3 j3 hb3 hlt3 hlt3' hr3 SZ S1
  go_wp2_with fail
  generalize w2.alloc _ = w3 at *
  refine (Hby.out w3).mono ?_
  rintro e w4 ⟨A4, n4, c4, rfl, hown4, hb4⟩
  have hr4 := hr3.below hb4
  have k4 := (hb4.block _ hlt3).trans k3
  have j4 := (hb4.block _ hlt3').trans j3
  have hB4 := hb3.trans (hb4.mono hb3.size)
  have hrow4 := hown4.row
  clear hb4 hown4 hr3 k3 j3 hb3 hlt3 hlt3'
  have SI := Lib.hid (show (Try.prog.info? 52).map (·.size) = some (#[.int .u16 f0, .int .u16 f1, .int .u16 f2, .int .u16 f3, .int .u16 f4, .int .u16 f5, .int .u16 f6, .int .u16 f7, .int .u16 f8, .int .u16 f9, .int .u16 f10, .int .u16 f11, .int .u16 f12, .int .u16 f13, .int .u16 f14, .int .u16 f15, .int .u16 lg] : Array Value).size by kernel_rfl)
  have SI0 := Lib.hid (show (Try.prog.info? 52).map (·.size) = some hhZ.size by kernel_rfl)
  have heq := equal_any A4 A n4 c4 36 c ys zs w4 hrow4 hr4 Hbt.out HB.out
  rw [Hsm.out] at heq
  have Heq := Lib.hid heq
  clear heq hrow4 hr4
  cases hR : hhRight zs with
  | true =>
    rw [hR] at Heq
    have HT := Lib.hid (hhTold_yes hR)
    clear hR
    go_wp2_with fail
    refine Heq.out.mono ?_
    rintro e w' ⟨rfl, rfl⟩
    have KR := Lib.hid (setRow_heap w4 w.heap.size hhZ #[.int .u16 f0, .int .u16 f1, .int .u16 f2, .int .u16 f3, .int .u16 f4, .int .u16 f5, .int .u16 f6, .int .u16 f7, .int .u16 f8, .int .u16 f9, .int .u16 f10, .int .u16 f11, .int .u16 f12, .int .u16 f13, .int .u16 f14, .int .u16 f15, .int .u16 lg] 52 (0, 0) k4)
    have KG := Lib.hid (below_row (Nat.le_refl _) #[.int .u16 f0, .int .u16 f1, .int .u16 f2, .int .u16 f3, .int .u16 f4, .int .u16 f5, .int .u16 f6, .int .u16 f7, .int .u16 f8, .int .u16 f9, .int .u16 f10, .int .u16 f11, .int .u16 f12, .int .u16 f13, .int .u16 f14, .int .u16 f15, .int .u16 lg] hB4)
    go_wp2_with (first
      | (with_reducible refine wpList_load_row rfl 52 (.tmp 4) rfl w2.heap.size rfl 52 #[.int .u16 f0, .int .u16 f1, .int .u16 f2, .int .u16 f3, .int .u16 f4, .int .u16 f5, .int .u16 f6, .int .u16 f7, .int .u16 f8, .int .u16 f9, .int .u16 f10, .int .u16 f11, .int .u16 f12, .int .u16 f13, .int .u16 f14, .int .u16 f15, .int .u16 lg] (0, 0) _ j4 Try.underlying52 rfl SI.out ?_)
      | (with_reducible refine wpList_store_row rfl 52 (.tmp 2) (.tmp 18) rfl w.heap.size #[.int .u16 f0, .int .u16 f1, .int .u16 f2, .int .u16 f3, .int .u16 f4, .int .u16 f5, .int .u16 f6, .int .u16 f7, .int .u16 f8, .int .u16 f9, .int .u16 f10, .int .u16 f11, .int .u16 f12, .int .u16 f13, .int .u16 f14, .int .u16 f15, .int .u16 lg] rfl rfl 52 hhZ k4 SI.out SZ.out S1.out ?_))
    exact bodyPost_ret (v := hhR ⟨f0, f1, f2, f3, f4, f5, f6, f7, f8, f9, f10, f11, f12, f13, f14, f15, lg⟩ 0) (results_two Try.results26 _ _ w.heap.size 52 _ (0, 0) _ rfl rfl KR.out Try.underlying52 rfl SI.out) rfl ⟨by rw [HT.out, Hm.out], KG.out⟩
  | false =>
    rw [hR] at Heq
    have HT := Lib.hid (hhTold_no hR)
    clear hR
    go_wp2_with fail
    refine Heq.out.mono ?_
    rintro e w' ⟨rfl, rfl⟩
    have KR := Lib.hid (setRow_heap w4 w.heap.size hhZ hhZ 52 (0, 0) k4)
    have KG := Lib.hid (below_row (Nat.le_refl _) hhZ hB4)
    go_wp2_with (with_reducible refine wpList_store_row rfl 52 (.tmp 2) (.tmp 17) rfl w.heap.size hhZ rfl rfl 52 hhZ k4 SI0.out rfl S0.out ?_)
    exact bodyPost_ret (v := hhR hh0 2) (results_two Try.results26 _ _ w.heap.size 52 _ (0, 0) _ rfl rfl KR.out Try.underlying52 rfl SI0.out) rfl ⟨by rw [HT.out], KG.out⟩

theorem hph_any (A : Option Addr) (n c : Nat) (zs : List Int) (w : World) (hr : Row w A n (cellsOf .u8 zs)) (hB : Bytes zs) :
    Calls Try.prog 26 #[.slice A n c] w (Ret w (hhTold zs)) := by
  by_cases h : n = 36
  · exact hph_36 A n c zs w hr hB h
  · rw [hhTold_no (hhRight_len (by rw [hr.len]; exact h))]
    exact hph_len A n c w h

/-- A Hhea is like itself. -/
theorem run_eq_front (m : Hh) (w : World) (d : Nat) : (Op.equalIn (d + 2) 50 (.agg (hfC m)) (.agg (hfC m))).run Try.prog w = .ok true w := by
  have h := run_equalIn_ints (P := Try.prog) w d 50 28 16 .u16 .u16 m.front m.front Try.underlying50 Try.underlying28 (by simp [go_sem]) (by simp [go_sem]) rfl rfl
  rw [decide_eq_true rfl] at h
  exact h

set_option maxRecDepth 100000 in
theorem run_neq_hh (m : Hh) (w : World) : (binOp .neq 52 (hhV m) (hhV m)).run Try.prog w = .ok (.bool false) w := by
  have h := run_eq_front m w 9997
  rw [run_neq_struct]
  obtain ⟨f0, f1, f2, f3, f4, f5, f6, f7, f8, f9, f10, f11, f12, f13, f14, f15, lg⟩ := m
  simp only [hfC] at h
  simp [go_sem, h]

end Go.Proofs.Ytmbncdhpfhlobaa
