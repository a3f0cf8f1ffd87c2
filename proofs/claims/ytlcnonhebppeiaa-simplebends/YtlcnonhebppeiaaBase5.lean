/- What the laws of this seat lean on: SimO BsOpen SimI Reg RegF SimN SimV. -/
import Derived.Laws.Rows
import Derived.Laws.Tables
import Derived.ProofKit
import Derived.ChangeSame
import Derived.Lib.SmallJoins
import Derived.OpenShut
import Derived.Deep.RegionHeld
import Derived.Lib.MinMax
import Derived.StillTailTactics
import Derived.Deep.DeepCutAuto
import Derived.Deep.RegionWith
import Derived.Test.YtlcnonhebppeiaaBase1
import Derived.Test.YtlcnonhebppeiaaBase2
import Derived.Test.YtlcnonhebppeiaaBase3
import Derived.Test.YtlcnonhebppeiaaBase4

/- The document's outline of simple's: own, as a contract over this seat's translation. -/
namespace Go.Proofs.Ytlcnonhebppeiaa
open Go.RowKit
set_option linter.unusedVariables false

def encRp (p : Sp) : List Value := [.int .i64 p.1, .int .i64 p.2.1, .bool p.2.2]
theorem encRp_len (p : Sp) : (encRp p).length = 3 := rfl
theorem encRp_one (p : Sp) : ∀ u ∈ encRp p, u.oneCell' = true := by intro u hu; simp [encRp] at hu; rcases hu with rfl | rfl | rfl <;> rfl
theorem Try.rpinfo : (Try.prog.info? 107).map (fun i => (i.zero, i.size, i.bytes)) = some (some (.agg #[.int .i64 0, .int .i64 0, .bool false]), 3, 24) := by kernel_rfl
theorem atRp {w : World} {A : Option Addr} {n : Nat} {l : List Sp} {j : Nat} {x : Sp} (h : RowS encRp 3 w A n l) (hj : l[j]? = some x) :
    ∃ g off, A = some ⟨g, off, none⟩ ∧ g < w.heap.size ∧ w.cell? ⟨g, off + j * 3, none⟩ = some (.int .i64 x.1) ∧ w.cell? ⟨g, off + j * 3 + 1, none⟩ = some (.int .i64 x.2.1) ∧ w.cell? ⟨g, off + j * 3 + 2, none⟩ = some (.bool x.2.2) := by
  obtain ⟨g, off, e, hg, hc⟩ := h.at encRp_len (by omega) hj
  exact ⟨g, off, e, hg, hc 0 _ rfl, hc 1 _ rfl, hc 2 _ rfl⟩

/-- An outline of the document's own, as a value, and where its lists lie. -/
structure RlV where
  g : Gl
  IA : Option Addr
  n : Nat
  ic : Nat
  PA : Option Addr
  pn : Nat
  pc : Nat
  QA : Option Addr
  q : Nat
  qc : Nat
def RlV.cells (v : RlV) : Array Value := #[.int .i64 v.g.x0, .int .i64 v.g.x1, .int .i64 v.g.x2, .int .i64 v.g.x3, .slice v.IA v.n v.ic, .slice v.PA v.pn v.pc, .slice v.QA v.q v.qc]
def RlV.val (v : RlV) : Value := .agg v.cells
structure RlV.rows (w : World) (v : RlV) : Prop where
  es : Row w v.IA v.n (cellsOf .i64 v.g.es)
  pr : Row w v.PA v.pn (cellsOf .u8 v.g.pr)
  ps : RowS encRp 3 w v.QA v.q v.g.ps
theorem RlV.rows.below {w w' : World} {v : RlV} (h : v.rows w) (hb : Below w.heap.size w w') : v.rows w' := ⟨h.es.below hb, h.pr.below hb, h.ps.below hb⟩

theorem Try.rgsize : (Try.prog.info? 38).map (·.size) = some 7 := by kernel_rfl
theorem rg7 (x0 x1 x2 x3 : Int) (EA PA SA : Option Addr) (en ec pn pc sn sc : Nat) : (Try.prog.info? 38).map (·.size) = some (#[Value.int .i64 x0, .int .i64 x1, .int .i64 x2, .int .i64 x3, .slice EA en ec, .slice PA pn pc, .slice SA sn sc]).size ∧ (#[Value.int .i64 0, .int .i64 0, .int .i64 0, .int .i64 0, .slice none 0 0, .slice none 0 0, .slice none 0 0]).size = (#[Value.int .i64 x0, .int .i64 x1, .int .i64 x2, .int .i64 x3, .slice EA en ec, .slice PA pn pc, .slice SA sn sc]).size ∧ (#[Value.int .i64 x0, .int .i64 x1, .int .i64 x2, .int .i64 x3, .slice EA en ec, .slice PA pn pc, .slice SA sn sc].all (·.oneCell')) = true :=
  ⟨Try.rgsize, rfl, by rw [← Array.all_toList]; rfl⟩

/-- A block of an outline under way, with fresh lists; other blocks are kept. -/
structure OW (L : List (Nat × Array Value × TypeId)) (w wr : World) (bx : Nat) (cs : Array Value) (IA : Option Addr) (n ic : Nat) (es : List Int) (QA : Option Addr) (q qc : Nat) (ps : List Sp) : Prop where
  box : wr.heap[bx]? = some (.cells cs 38 (0, 0))
  ia : Own 3 .i64 wr w.heap.size IA n ic es
  qa : OwnS 107 encRp 3 wr w.heap.size QA q qc ps
  bel : Below w.heap.size w wr
  lx : w.heap.size ≤ bx
  kp : ∀ p ∈ L, wr.heap[p.1]? = some (.cells p.2.1 p.2.2 (0, 0))
  ks : ∀ p ∈ L, p.1 ≠ bx ∧ 3 ≠ p.2.2 ∧ 107 ≠ p.2.2
theorem ownS_ne {α : Type} {t t' : TypeId} {enc : α → List Value} {k : Nat} {w : World} {B g n c : Nat} {A : Option Addr} {l : List α} {cur : Array Value} (h : OwnS t enc k w B A n c l) (h' : w.heap[g]? = some (.cells cur t' (0, 0))) (ht : t ≠ t') : ∀ q, blockOf A = some q → q ≠ g := by
  intro q hq
  rintro rfl
  rcases h.shape with ⟨rfl, _⟩ | ⟨g', cur, rfl, _, _, hh, _⟩
  · simp [blockOf] at hq
  · simp [blockOf] at hq
    subst hq
    rw [hh] at h'
    simp at h'
    exact ht h'.2
theorem own_neSS {α : Type} {t t' : TypeId} {k : IntKind} {enc : α → List Value} {m : Nat} {w : World} {B B' n c n' c' : Nat} {A A' : Option Addr} {zs : List Int} {l : List α} (h : Own t k w B A n c zs) (h' : OwnS t' enc m w B' A' n' c' l) (ht : t ≠ t') : ∀ q, blockOf A = some q → some q ≠ blockOf A' := by
  intro q hq e
  rcases h'.shape with ⟨rfl, _⟩ | ⟨g', cur, rfl, _, _, hh, _⟩
  · simp [blockOf] at e
  · simp [blockOf] at e
    subst e
    exact own_neS h hh ht _ hq rfl
section
variable {L : List (Nat × Array Value × TypeId)} {w wr w' : World} {bx : Nat} {cs : Array Value} {IA QA : Option Addr} {n ic q qc : Nat} {es : List Int} {ps : List Sp}
theorem OW.below (h : OW L w wr bx cs IA n ic es QA q qc ps) (hb : Below wr.heap.size wr w') : OW L w w' bx cs IA n ic es QA q qc ps :=
  ⟨kept_block h.box hb, h.ia.below hb, h.qa.below hb, h.bel.trans (hb.mono h.bel.size), h.lx, fun p hp => kept_block (h.kp p hp) hb, h.ks⟩
theorem OW.drew (h : OW L w wr bx cs IA n ic es QA q qc ps) : OW L w wr.drew bx cs IA n ic es QA q qc ps := h.below (Below.refl _ _).drew
theorem OW.set (h : OW L w wr bx cs IA n ic es QA q qc ps) (j : Nat) (v : Value) : OW L w (wr.setCell ⟨bx, j, none⟩ v) bx (cs.setIfInBounds j v) IA n ic es QA q qc ps :=
  ⟨set_block h.box j v, h.ia.keep (fun g e => Below.heap_setCell wr _ v _ (own_neS h.ia h.box (by decide) g e)), h.qa.keep (fun g e => Below.heap_setCell wr _ v _ (ownS_ne h.qa h.box (by decide) g e)), h.bel.setCell (p := ⟨bx, j, none⟩) h.lx v, h.lx, fun p hp => (Below.heap_setCell wr _ v _ (h.ks p hp).1).trans (h.kp p hp), h.ks⟩
theorem OW.cell (h : OW L w wr bx cs IA n ic es QA q qc ps) (j : Nat) (v : Value) (hq : cs[j]? = some v) : wr.cell? ⟨bx, j, none⟩ = some v := (cell_of_row wr _ j _ _ _ h.box).trans hq
theorem OW.thaw (h : OW L w wr bx cs IA n ic es QA q qc ps) (o : Nat) : wr.frozen? ⟨bx, o, none⟩ = false := thawed h.box o
theorem OW.appI (h : OW L w wr bx cs IA n ic es QA q qc ps) {A2 : Option Addr} {n2 c2 : Nat} {es2 : List Int} (ho : Own 3 .i64 w' w.heap.size A2 n2 c2 es2) (hg : wr.grownBy w' (blockOf IA)) : OW L w w' bx cs A2 n2 c2 es2 QA q qc ps := by
  have hne : some bx ≠ blockOf IA := fun e => own_neS h.ia h.box (by decide) bx e.symm rfl
  exact ⟨(hg.block bx (lt_of_block h.box) hne).trans h.box, ho, h.qa.keep (fun g e => hg.block g (h.qa.from_ g e).2 (fun e2 => own_neSS h.ia h.qa (by decide) g e2.symm e.symm)), h.bel.grown hg h.bel.size (fun g e => (h.ia.from_ g e).1), h.lx, fun p hp => (hg.block p.1 (lt_of_block (h.kp p hp)) (fun e => own_neS h.ia (h.kp p hp) (h.ks p hp).2.1 p.1 e.symm rfl)).trans (h.kp p hp), h.ks⟩
theorem OW.appQ (h : OW L w wr bx cs IA n ic es QA q qc ps) {A2 : Option Addr} {n2 c2 : Nat} {ps2 : List Sp} (ho : OwnS 107 encRp 3 w' w.heap.size A2 n2 c2 ps2) (hg : wr.grownBy w' (blockOf QA)) : OW L w w' bx cs IA n ic es A2 n2 c2 ps2 := by
  have hne : some bx ≠ blockOf QA := fun e => ownS_ne h.qa h.box (by decide) bx e.symm rfl
  exact ⟨(hg.block bx (lt_of_block h.box) hne).trans h.box, h.ia.keep (fun g e => hg.block g (h.ia.from_ g e).2 (own_neSS h.ia h.qa (by decide) g e)), ho, h.bel.grown hg h.bel.size (fun g e => (h.qa.from_ g e).1), h.lx, fun p hp => (hg.block p.1 (lt_of_block (h.kp p hp)) (fun e => ownS_ne h.qa (h.kp p hp) (h.ks p hp).2.2 p.1 e.symm rfl)).trans (h.kp p hp), h.ks⟩
end

/-- The Box so far. -/
def rxAt (xs : List Int) (k j : Nat) : Int := if j < k then xs.getD j 0 else 0
def rxC (xs : List Int) (k : Nat) (P : Value) : Array Value := #[.int .i64 (rxAt xs k 0), .int .i64 (rxAt xs k 1), .int .i64 (rxAt xs k 2), .int .i64 (rxAt xs k 3), .slice none 0 0, P, .slice none 0 0]
theorem rxC_set (xs : List Int) (P : Value) {k : Nat} (h : k < 4) {x : Int} (hx : xs[k]? = some x) : (rxC xs k P).setIfInBounds k (.int .i64 x) = rxC xs (k + 1) P := by
  have : xs.getD k 0 = x := by simp [hx]
  match k, h with
  | 0, _ => simp [rxC, rxAt, hx]
  | 1, _ => simp [rxC, rxAt, hx]
  | 2, _ => simp [rxC, rxAt, hx]
  | 3, _ => simp [rxC, rxAt, hx]
theorem rxC_get (xs : List Int) (P : Value) {k : Nat} (h : k < 4) : (rxC xs k P)[k]? = some (.int .i64 0) := by
  match k, h with
  | 0, _ => simp [rxC, rxAt]
  | 1, _ => simp [rxC, rxAt]
  | 2, _ => simp [rxC, rxAt]
  | 3, _ => simp [rxC, rxAt]
theorem rxC_0 (xs : List Int) (P : Value) : rxC xs 0 P = #[.int .i64 0, .int .i64 0, .int .i64 0, .int .i64 0, .slice none 0 0, P, .slice none 0 0] := by simp [rxC, rxAt]
theorem rxC_4 (x0 x1 x2 x3 : Int) (P : Value) : rxC [x0, x1, x2, x3] 4 P = #[.int .i64 x0, .int .i64 x1, .int .i64 x2, .int .i64 x3, .slice none 0 0, P, .slice none 0 0] := by simp [rxC, rxAt]

/-- What own leaves. -/
def RetOwn (w : World) (v : GlV) (e : Ending) (w' : World) : Prop := ∃ r : RlV, e = .returned r.val ∧ r.rows w' ∧ r.g = v.g ∧ Below w.heap.size w w'

set_option maxRecDepth 100000 in
set_option maxHeartbeats 4000000 in
theorem oown_any (v : GlV) (w : World) (hr : v.rows w) (a1 : v.en ≤ 1000000) (a3 : v.sn ≤ 1000000) (ho : v.g.ok) : Calls Try.prog 20 #[v.val] w (RetOwn w v) := by
  obtain ⟨i0, hi, hz0, hz1, hz2⟩ := info_parts Try.i64info
  obtain ⟨i1, hi1, hz01, hz11, hz21⟩ := info_parts Try.rpinfo
  have hA := (Below.refl w.heap.size w).alloc (Nat.le_refl _) (.cells v.cells 29)
  have HE : Hid (v.g.es.length = v.en) := hr.es.len
  have HS : Hid (v.g.ps.length = v.sn) := hr.ps.len
  have Hre := Lib.hid hr.es
  have Hrp := Lib.hid hr.pr
  have Hrs := Lib.hid hr.ps
  have HEs := Lib.hid ho.es
  have HPs := Lib.hid ho.ps
  have Hbx := Lib.hid ho.bx
  have HRet : Hid (∀ (r : RlV) w', r.rows w' → r.g = v.g → Below w.heap.size w w' → RetOwn w v (.returned r.val) w') := fun r w' h1 h2 h3 => ⟨r, rfl, h1, h2, h3⟩
  clear hr ho
  unfold GlV.val at *
  unfold GlV.cells at *
  obtain ⟨⟨x0, x1, x2, x3, es, pr, ps⟩, EA, en, ec, PA, pn, pc, SA, sn, sc⟩ := v
  simp only at *
  have hA2 := hA.alloc hA.size (.cells #[.int .i64 0, .int .i64 0, .int .i64 0, .int .i64 0, .slice none 0 0, .slice none 0 0, .slice none 0 0] 38)
  have hbel := hA2.alloc hA2.size (.cells #[.int .i64 0, .int .i64 0, .int .i64 0, .int .i64 0, .slice none 0 0, .slice PA pn pc, .slice none 0 0] 38)
  have hkv : ((w.alloc (.cells #[.int .i16 x0, .int .i16 x1, .int .i16 x2, .int .i16 x3, .slice EA en ec, .slice PA pn pc, .slice SA sn sc] 29)).alloc (.cells #[.int .i64 0, .int .i64 0, .int .i64 0, .int .i64 0, .slice none 0 0, .slice none 0 0, .slice none 0 0] 38)).heap[w.heap.size]? = some (.cells #[.int .i16 x0, .int .i16 x1, .int .i16 x2, .int .i16 x3, .slice EA en ec, .slice PA pn pc, .slice SA sn sc] 29 (0, 0)) := kept_alloc (heap_alloc_new w _) _
  have hkr : ((w.alloc (.cells #[.int .i16 x0, .int .i16 x1, .int .i16 x2, .int .i16 x3, .slice EA en ec, .slice PA pn pc, .slice SA sn sc] 29)).alloc (.cells #[.int .i64 0, .int .i64 0, .int .i64 0, .int .i64 0, .slice none 0 0, .slice none 0 0, .slice none 0 0] 38)).heap[w.heap.size + 1]? = some (.cells #[.int .i64 0, .int .i64 0, .int .i64 0, .int .i64 0, .slice none 0 0, .slice none 0 0, .slice none 0 0] 38 (0, 0)) := by
    have := heap_alloc_new (w.alloc (.cells #[.int .i16 x0, .int .i16 x1, .int .i16 x2, .int .i16 x3, .slice EA en ec, .slice PA pn pc, .slice SA sn sc] 29)) (.cells #[.int .i64 0, .int .i64 0, .int .i64 0, .int .i64 0, .slice none 0 0, .slice none 0 0, .slice none 0 0] 38)
    rwa [show (w.alloc (.cells #[.int .i16 x0, .int .i16 x1, .int .i16 x2, .int .i16 x3, .slice EA en ec, .slice PA pn pc, .slice SA sn sc] 29)).heap.size = w.heap.size + 1 by simp] at this
  go_enter Try.func20, Try.ntmps20
  go_wp2
  have hs : OW [(w.heap.size, #[.int .i16 x0, .int .i16 x1, .int .i16 x2, .int .i16 x3, .slice EA en ec, .slice PA pn pc, .slice SA sn sc], 29), (w.heap.size + 1, #[.int .i64 0, .int .i64 0, .int .i64 0, .int .i64 0, .slice none 0 0, .slice none 0 0, .slice none 0 0], 38)] w (((w.alloc (.cells #[.int .i16 x0, .int .i16 x1, .int .i16 x2, .int .i16 x3, .slice EA en ec, .slice PA pn pc, .slice SA sn sc] 29)).alloc (.cells #[.int .i64 0, .int .i64 0, .int .i64 0, .int .i64 0, .slice none 0 0, .slice none 0 0, .slice none 0 0] 38)).alloc (.cells #[.int .i64 0, .int .i64 0, .int .i64 0, .int .i64 0, .slice none 0 0, .slice PA pn pc, .slice none 0 0] 38)) (w.heap.size + 2) (rxC [x0, x1, x2, x3] 0 (.slice PA pn pc)) none 0 0 [] none 0 0 [] := by
    rw [rxC_0]
    refine ⟨?_, Own.nil _ _ _ _, OwnS.nil _ _ _ _ _, hbel, by omega, ?_, ?_⟩
    · have := heap_alloc_new ((w.alloc (.cells #[.int .i16 x0, .int .i16 x1, .int .i16 x2, .int .i16 x3, .slice EA en ec, .slice PA pn pc, .slice SA sn sc] 29)).alloc (.cells #[.int .i64 0, .int .i64 0, .int .i64 0, .int .i64 0, .slice none 0 0, .slice none 0 0, .slice none 0 0] 38)) (.cells #[.int .i64 0, .int .i64 0, .int .i64 0, .int .i64 0, .slice none 0 0, .slice PA pn pc, .slice none 0 0] 38)
      rwa [show ((w.alloc (.cells #[.int .i16 x0, .int .i16 x1, .int .i16 x2, .int .i16 x3, .slice EA en ec, .slice PA pn pc, .slice SA sn sc] 29)).alloc (.cells #[.int .i64 0, .int .i64 0, .int .i64 0, .int .i64 0, .slice none 0 0, .slice none 0 0, .slice none 0 0] 38)).heap.size = w.heap.size + 2 by simp] at this
    · intro p hp
      simp only [List.mem_cons, List.not_mem_nil, or_false] at hp
      rcases hp with rfl | rfl
      · exact kept_alloc hkv _
      · exact kept_alloc hkr _
    · intro p hp
      simp only [List.mem_cons, List.not_mem_nil, or_false] at hp
      rcases hp with rfl | rfl <;> exact ⟨by simp, by simp, by simp⟩
  clear hA hA2 hbel hkv hkr
  generalize ((w.alloc _).alloc _).alloc _ = V0 at *
  generalize hL : ([(w.heap.size, #[.int .i16 x0, .int .i16 x1, .int .i16 x2, .int .i16 x3, .slice EA en ec, .slice PA pn pc, .slice SA sn sc], 29), (w.heap.size + 1, #[.int .i64 0, .int .i64 0, .int .i64 0, .int .i64 0, .slice none 0 0, .slice none 0 0, .slice none 0 0], 38)] : List (Nat × Array Value × TypeId)) = L at hs
  have HL := Lib.hid hL
  clear hL
  have hbxg : w.heap.size + 1 < w.heap.size + 2 := by omega
  generalize hbx : w.heap.size + 2 = bx at hs hbxg ⊢
  have Hbx2 := Lib.hid hbx
  clear hbx
  go_loopw [15] (fun i' wr => ∃ k : Nat, k ≤ 4 ∧ i' = .int .i64 k ∧ OW L w wr bx (rxC [x0, x1, x2, x3] k (.slice PA pn pc)) none 0 0 [] none 0 0 []) (fun i' _ => 4 - (intOf i').toNat)
  case atStart => exact ⟨0, Nat.zero_le _, rfl, hs⟩
  case round =>
    clear hs
    obtain ⟨k, hk, rfl, hs⟩ := hrel
    by_cases hlt : k < 4
    · obtain ⟨x, hx⟩ := get_some (zs := [x0, x1, x2, x3]) (k := k) hlt
      obtain ⟨u0, u1⟩ := Hbx.out x (List.mem_of_getElem? hx)
      have HC := Lib.hid (rxC_set [x0, x1, x2, x3] (.slice PA pn pc) hlt hx)
      have hix := run_index_arr (P := Try.prog) wr 23 22 4 #[.int .i16 x0, .int .i16 x1, .int .i16 x2, .int .i16 x3] k (.int .i16 x) Try.underlying23 (by simp [go_sem]) (by simp [go_sem]) hlt (by
        have h := cellsOf_get (k := .i16) hx
        simpa [cellsOf] using h)
      have c0 := hs.cell k _ (rxC_get [x0, x1, x2, x3] (.slice PA pn pc) hlt)
      have f0 := hs.thaw k
      have hs3 := hs.set k (.int .i64 x)
      rw [HC.out] at hs3
      have H3 := Lib.hid hs3
      have ik0 : (0 : Int) ≤ (k : Int) := by omega
      have ik1 : (k : Int) < 4 := by omega
      clear hs hs3 HC hx
      go_wp2
      go_roundw
      case rel => exact ⟨k + 1, by omega, by go_num, H3.out⟩
      case measure => simp [intOf]; omega
    · obtain rfl : k = 4 := by omega
      rw [rxC_4] at hs
      have kv := hs.kp _ (by rw [← HL.out]; exact List.mem_cons_self)
      have c4 : wr.cell? ⟨w.heap.size, 4, none⟩ = some (.slice EA en ec) := cell_of_row wr _ 4 _ _ _ kv
      go_wp2
      clear c4 kv hlt hk
      go_loopw [28] (fun i' wr => ∃ (k : Nat) (IA : Option Addr) (ic : Nat), k ≤ en ∧ i' = .int .i64 k ∧ OW L w wr bx #[.int .i64 x0, .int .i64 x1, .int .i64 x2, .int .i64 x3, .slice IA k ic, .slice PA pn pc, .slice none 0 0] IA k ic (es.take k) none 0 0 []) (fun i' _ => en - (intOf i').toNat)
      case atStart => exact ⟨0, none, 0, Nat.zero_le _, rfl, by simpa using hs⟩
      case round =>
        clear hs
        obtain ⟨k, IA, ic, hk, rfl, hs⟩ := hrel
        have hsz := hs.bel.size
        by_cases hlt : k < en
        · obtain ⟨x, hx⟩ := get_some (zs := es) (k := k) (by have := HE.out; omega)
          obtain ⟨u0, u1⟩ := HEs.out x (List.mem_of_getElem? hx)
          obtain ⟨g, off, rfl, hg, hc⟩ := (Hre.out.below hs.bel).at (cellsOf_get (k := .u16) hx)
          have HT : Hid (es.take k ++ [x] = es.take (k + 1)) := by show _ = _; rw [List.take_add_one, hx]; rfl
          have c4 := hs.cell 4 _ rfl
          clear hx
          have hA := (Below.refl wr.heap.size wr).alloc (Nat.le_refl _) (.cells #[.int .i64 x] 3)
          have hs2 := hs.below hA
          clear hs hA
          go_wp2_with (at_builtin; refine wpList_append_row rfl (.tmp 33) (.tmp 36) _ rfl 3 .i64 w.heap.size i0 8 Try.underlying35 hi hz0 hz1 hz2 IA k ic _ rfl hs2.ia (some ⟨wr.heap.size, 0, none⟩) 1 1 [x] rfl (row_one _ _ _ _) (by omega) (by omega) (by simp; omega) ?_; intro A3 c3 w1 hown1 hg1; have hs3 := hs2.appI hown1 hg1; have c4' := hs3.cell 4 _ rfl; have f4' := hs3.thaw 4)
          rw [HT.out] at hs3
          have hs4 : OW L w (w1.setCell ⟨bx, 4, none⟩ (.slice A3 (k + 1) c3)) bx #[.int .i64 x0, .int .i64 x1, .int .i64 x2, .int .i64 x3, .slice A3 (k + 1) c3, .slice PA pn pc, .slice none 0 0] A3 (k + 1) c3 (es.take (k + 1)) none 0 0 [] := hs3.set 4 (.slice A3 (k + 1) c3)
          clear hs2 hs3 hown1 hg1 c4' f4' c4
          go_roundw
          case rel => exact ⟨k + 1, A3, c3, by omega, by go_num, hs4⟩
          case measure => simp [intOf]; omega
        · obtain rfl : k = en := by omega
          rw [List.take_of_length_le (by have := HE.out; omega)] at hs
          have kv := hs.kp _ (by rw [← HL.out]; exact List.mem_cons_self)
          have c6 : wr.cell? ⟨w.heap.size, 6, none⟩ = some (.slice SA sn sc) := cell_of_row wr _ 6 _ _ _ kv
          go_wp2
          clear c6 kv hlt hk
          go_loopw [43] (fun i' wr => ∃ (j : Nat) (QA : Option Addr) (qc : Nat), j ≤ sn ∧ i' = .int .i64 j ∧ OW L w wr bx #[.int .i64 x0, .int .i64 x1, .int .i64 x2, .int .i64 x3, .slice IA k ic, .slice PA pn pc, .slice QA j qc] IA k ic es QA j qc (ps.take j)) (fun i' _ => sn - (intOf i').toNat)
          case atStart => exact ⟨0, none, 0, Nat.zero_le _, rfl, by simpa using hs⟩
          case round =>
            clear hs
            obtain ⟨j, QA, qc, hj, rfl, hs⟩ := hrel
            have hsz2 := hs.bel.size
            by_cases hlt : j < sn
            · obtain ⟨p, hp⟩ : ∃ p, ps[j]? = some p := ⟨ps[j]'(by have := HS.out; omega), List.getElem?_eq_getElem (by have := HS.out; omega)⟩
              obtain ⟨⟨u0, u1⟩, ⟨u2, u3⟩⟩ := HPs.out p (List.mem_of_getElem? hp)
              obtain ⟨g, off, rfl, hg, q0, q1, q2⟩ := atSp (Hrs.out.below hs.bel) hp
              have HT : Hid (ps.take j ++ [p] = ps.take (j + 1)) := by show _ = _; rw [List.take_add_one, hp]; rfl
              obtain ⟨px, py, po⟩ := p
              simp only at q0 q1 q2 u0 u1 u2 u3
              have hA := (Below.refl wr.heap.size wr).alloc (Nat.le_refl _) (.cells #[.int .i16 px, .int .i16 py, .bool po] 60)
              have hA2 := hA.alloc hA.size (.cells #[.int .i64 px, .int .i64 py, .bool po] 107)
              have hs2 := hs.below hA2
              have c6 := hs.cell 6 _ rfl
              have hgn : g ≠ wr.heap.size := by omega
              have hbn : bx ≠ wr.heap.size := by have := lt_of_block hs.box; omega
              have hbn2 : bx < wr.heap.size := lt_of_block hs.box
              have hrow : RowS encRp 3 ((wr.alloc (.cells #[.int .i16 px, .int .i16 py, .bool po] 60)).alloc (.cells #[.int .i64 px, .int .i64 py, .bool po] 107)) (some ⟨wr.heap.size + 1, 0, none⟩) 1 [(px, py, po)] := by
                have := rowS_vals encRp_len (wr.alloc (.cells #[.int .i16 px, .int .i16 py, .bool po] 60)) 107 [(px, py, po)] #[.int .i64 px, .int .i64 py, .bool po] rfl 1 rfl
                rwa [show (wr.alloc (.cells #[.int .i16 px, .int .i16 py, .bool po] 60)).heap.size = wr.heap.size + 1 by simp] at this
              clear hs hA hA2 hp
              go_wp2_with (at_builtin; refine wpList_append_rowS rfl (.tmp 48) (.tmp 58) _ rfl 107 encRp 3 encRp_len (by omega) encRp_one w.heap.size i1 _ 24 Try.underlying36 hi1 hz01 hz11 rfl hz21 QA j qc _ rfl hs2.qa (some ⟨wr.heap.size + 1, 0, none⟩) 1 1 [(px, py, po)] rfl hrow (by omega) (by omega) (by simp; omega) ?_; intro A3 c3 w1 hown1 hg1; have hs3 := hs2.appQ hown1 hg1; have c6' := hs3.cell 6 _ rfl; have f6' := hs3.thaw 6)
              rw [HT.out] at hs3
              have hs4 : OW L w (w1.setCell ⟨bx, 6, none⟩ (.slice A3 (j + 1) c3)) bx #[.int .i64 x0, .int .i64 x1, .int .i64 x2, .int .i64 x3, .slice IA k ic, .slice PA pn pc, .slice A3 (j + 1) c3] IA k ic es A3 (j + 1) c3 (ps.take (j + 1)) := hs3.set 6 (.slice A3 (j + 1) c3)
              clear hs2 hs3 hown1 hg1 c6' f6' c6 hrow
              go_roundw
              case rel => exact ⟨j + 1, A3, c3, by omega, by go_num, hs4⟩
              case measure => simp [intOf]; omega
            · obtain rfl : j = sn := by omega
              rw [List.take_of_length_le (by have := HS.out; omega)] at hs
              have kr := hs.kp _ (by rw [← HL.out]; exact List.mem_cons_of_mem _ List.mem_cons_self)
              simp only at kr
              obtain ⟨b0, b1, b2, b3, b4, b5, b6⟩ := cells7 hs.box
              have KR := Lib.hid (setRow_heap wr (w.heap.size + 1) _ #[.int .i64 x0, .int .i64 x1, .int .i64 x2, .int .i64 x3, .slice IA k ic, .slice PA pn pc, .slice QA j qc] 38 (0, 0) kr)
              have HBl := Lib.hid (below_rowO (B := w.heap.size) (by omega : w.heap.size ≤ w.heap.size + 1) #[.int .i64 x0, .int .i64 x1, .int .i64 x2, .int .i64 x3, .slice IA k ic, .slice PA pn pc, .slice QA j qc] hs.bel)
              have HRows : Hid (RlV.rows (wr.setRow (w.heap.size + 1) #[.int .i64 x0, .int .i64 x1, .int .i64 x2, .int .i64 x3, .slice IA k ic, .slice PA pn pc, .slice QA j qc]) ⟨⟨x0, x1, x2, x3, es, pr, ps⟩, IA, k, ic, PA, pn, pc, QA, j, qc⟩) := by
                refine ⟨hs.ia.row.keep (by simp) (fun g e _ => setRow_other _ _ _ _ (own_neS hs.ia kr (by decide) g e)), ?_, (hs.qa.row encRp_len).keep (by simp) (fun g e _ => setRow_other _ _ _ _ (ownS_ne hs.qa kr (by decide) g e))⟩
                exact (Hrp.out.below (hs.bel.trans ((below_rowO (B := w.heap.size) (by omega : w.heap.size ≤ w.heap.size + 1) _ (Below.refl _ wr)).mono (Nat.le_refl _))))
              clear hs hlt hj
              go_wp2_with (with_reducible refine wpList_store_row rfl 38 (.tmp 2) (.tmp 62) rfl (w.heap.size + 1) #[.int .i64 x0, .int .i64 x1, .int .i64 x2, .int .i64 x3, .slice IA k ic, .slice PA pn pc, .slice QA j qc] rfl rfl 38 #[.int .i64 0, .int .i64 0, .int .i64 0, .int .i64 0, .slice none 0 0, .slice none 0 0, .slice none 0 0] kr (rg7 _ _ _ _ _ _ _ _ _ _ _ _ _).1 (rg7 _ _ _ _ _ _ _ _ _ _ _ _ _).2.1 (rg7 _ _ _ _ _ _ _ _ _ _ _ _ _).2.2 ?_)
              exact bodyPost_ret (v := RlV.val ⟨⟨x0, x1, x2, x3, es, pr, ps⟩, IA, k, ic, PA, pn, pc, QA, j, qc⟩) (results_cell_row Try.results20 _ _ (w.heap.size + 1) 38 _ (0, 0) _ rfl KR.out Try.underlying38 rfl (rg7 _ _ _ _ _ _ _ _ _ _ _ _ _).1) rfl (HRet.out _ _ HRows.out rfl HBl.out)

end Go.Proofs.Ytlcnonhebppeiaa

/- Bytes that come in as a slice. -/
namespace Go.Proofs.Ytlcnonhebppeiaa
open Go.RowKit Go.ChangeShapes Go.WideShapes Go.ChangeAt
set_option linter.unusedVariables false

set_option maxRecDepth 100000 in
theorem open_bs {H : Type} {enc : TypeId × Value → H} {W : World} {base : Nat} {v : Value} {d : DataW H} {p : List MemPlace} (hv : Value.okWide Try.prog W .any base 25 v) (h : DataW.Trod enc Try.prog W 0 (fun _ => true) true 25 v d p) :
    ∃ A n c zs, v = .slice A n c ∧ Row W A n (cellsOf .u8 zs) ∧ Bytes zs ∧ n ≤ 9223372036854775807 := by
  obtain ⟨a, len, cap, rfl⟩ := okWide_slice Try.underlying25 hv
  obtain ⟨fuel, hf⟩ := h
  have key : ∃ zs, (a = none ∧ len = 0 ∧ cap = 0 ∧ zs = []) ∨ ∃ x, a = some x ∧ len ≤ cap ∧ cap ≤ maxLen ∧ zs.length = cap ∧ (∀ i, i < zs.length → W.cell? (x.add i) = some (.int .u8 (zs.getD i 0))) ∧ ∀ n ∈ zs, (Lit.int .u8 n).wf = true := by
    rcases open_ints Try.underlying25 Try.underlying5 (by kernel_rfl) hf with ⟨hcs, _⟩ | ⟨x, l, c, zs, hcs, _, hl, hm, hz, _, hcell, hwz⟩
    · simp [Value.cells] at hcs
      obtain ⟨rfl, rfl, rfl⟩ := hcs
      exact ⟨[], .inl ⟨rfl, rfl, rfl, rfl⟩⟩
    · simp [Value.cells] at hcs
      obtain ⟨rfl, rfl, rfl⟩ := hcs
      exact ⟨zs, .inr ⟨_, rfl, hl, hm, by simpa using hz, hcell, hwz⟩⟩
  obtain ⟨zs, w0⟩ := key
  exact ⟨a, len, cap, zs.take len, rfl, (row_of w0).1, bytes_of (row_of w0).2.2, (row_of w0).2.1⟩

end Go.Proofs.Ytlcnonhebppeiaa

/- Outlines' boxes and points that come in. -/
namespace Go.Proofs.Ytlcnonhebppeiaa
open Go.RowKit Go.Joins Go.ChangeShapes Go.WideShapes
set_option linter.unusedVariables false

theorem Try.cellsSp : Try.prog.cellsOf 60 = 3 := by kernel_rfl
theorem Try.cellsI16 : Try.prog.cellsOf 22 = 1 := by kernel_rfl
theorem Try.cellsBool : Try.prog.cellsOf 4 = 1 := by kernel_rfl
theorem Try.cellsArr4 : Try.prog.cellsOf 23 = 4 := by kernel_rfl

def Sp.ok (p : Sp) : Prop := (-32768 ≤ p.1 ∧ p.1 ≤ 32767) ∧ (-32768 ≤ p.2.1 ∧ p.2.1 ≤ 32767)

section
variable {H : Type} {enc : TypeId × Value → H} {W : World} {base : Nat} {v : Value} {d : DataW H} {p : List MemPlace}

theorem read_i16 {m : Nat} {c : Value} {y : DataW H × List MemPlace} (h : DataW.trod enc Try.prog W 0 (fun _ => true) true m 22 [c] = some y) : ∃ a, c = .int .i16 a ∧ -32768 ≤ a ∧ a ≤ 32767 := by
  obtain ⟨a, e, _, wa⟩ := DataW.trod_int Try.underlying22 h
  simp at e
  subst e
  have := bounds_i16 wa
  exact ⟨a, rfl, by omega⟩

set_option maxRecDepth 100000 in
theorem read_sp {m : Nat} {cs : List Value} {y : DataW H × List MemPlace} (h : DataW.trod enc Try.prog W 0 (fun _ => true) true m 60 cs = some y) : ∃ p : Sp, cs = encSp p ∧ Sp.ok p := by
  obtain ⟨xs, n, _, _, hl, hxl, hf⟩ := DataW.trod_struct Try.underlying60 h
  rw [Try.cellsSp] at hl
  match cs, hl with
  | [c0, c1, c2], _ =>
    match xs, hxl with
    | [y0, y1, y2], _ =>
      have h0 := hf 0 _ rfl
      have h1 := hf 1 _ rfl
      have h2 := hf 2 _ rfl
      simp [Try.cellsI16, Try.cellsBool] at h0 h1 h2
      obtain ⟨a, rfl, a0, a1⟩ := read_i16 h0
      obtain ⟨b, rfl, b0, b1⟩ := read_i16 h1
      obtain ⟨o, e2, _⟩ := DataW.trod_bool Try.underlying4 h2
      simp at e2
      subst e2
      exact ⟨(a, b, o), rfl, ⟨a0, a1⟩, ⟨b0, b1⟩⟩

set_option maxRecDepth 100000 in
theorem open_sps (hv : Value.okWide Try.prog W .any base 24 v) (h : DataW.Trod enc Try.prog W 0 (fun _ => true) true 24 v d p) :
    ∃ A len cap l, v = .slice A len cap ∧ RowS encSp 3 W A len l ∧ (∀ q ∈ l, Sp.ok q) ∧ len ≤ 9223372036854775807 ∧ len ≤ cap := by
  obtain ⟨a, len, cap, rfl⟩ := okWide_slice Try.underlying24 hv
  refine ⟨a, len, cap, ?_⟩
  rcases open_sliceK Try.underlying24 Try.cellsSp h with ⟨rfl, rfl, rfl⟩ | ⟨x, rfl, hl, hm, hi⟩
  · exact ⟨[], rfl, RowS.empty _ _, (fun q hq => by cases hq), by omega, by omega⟩
  · obtain ⟨l, hll, hp⟩ := list_of (p := fun i (q : Sp) => Sp.ok q ∧ ∀ j u, (encSp q)[j]? = some u → W.cell? (x.add (i * 3 + j)) = some u) len (fun i hlt => by
      obtain ⟨cs, m, y, hcl, hc, ht⟩ := hi i hlt
      obtain ⟨q, rfl, hq⟩ := read_sp ht
      refine ⟨q, hq, fun j u hu => ?_⟩
      have hj : j < 3 := (List.getElem?_eq_some_iff.1 hu).1
      rw [hc j hj]
      exact hu)
    simp only [maxLen] at hm
    refine ⟨l, rfl, rowS_in encSp_len l hll (fun i y hy => (hp i y hy).2), fun q hq => ?_, by omega, hl⟩
    obtain ⟨i, hi2⟩ := List.mem_iff_getElem?.1 hq
    exact (hp i q hi2).1

set_option maxRecDepth 100000 in
theorem open_box (hv : Value.okWide Try.prog W .any base 23 v) (h : DataW.Trod enc Try.prog W 0 (fun _ => true) true 23 v d p) :
    ∃ x0 x1 x2 x3, v = .agg #[.int .i16 x0, .int .i16 x1, .int .i16 x2, .int .i16 x3] ∧ ∀ x ∈ [x0, x1, x2, x3], -32768 ≤ x ∧ x ≤ 32767 := by
  obtain ⟨fuel, hf⟩ := h
  obtain ⟨ys, m, _, _, hcl, hyl, ha⟩ := DataW.trod_array Try.underlying23 hf
  rw [Try.cellsArr4] at hcl
  have hvv : ∃ cs, v = .agg cs := by
    cases v with
    | agg cs => exact ⟨cs, rfl⟩
    | _ => simp [Value.cells] at hcl
  obtain ⟨⟨l⟩, rfl⟩ := hvv
  simp only [Value.cells] at hcl ha
  match l, hcl with
  | [c0, c1, c2, c3], _ =>
    have key : ∀ i, i < 4 → ∀ c, ([c0, c1, c2, c3] : List Value)[i]? = some c → ∃ a, c = .int .i16 a ∧ -32768 ≤ a ∧ a ≤ 32767 := by
      intro i hi c hc
      have h2 := ha i hi
      rw [Try.cellsI16, Nat.mul_one, List.getElem?_eq_getElem (by omega)] at h2
      obtain ⟨hlt, hce⟩ := List.getElem?_eq_some_iff.1 hc
      rw [List.drop_eq_getElem_cons hlt, List.take_succ_cons, List.take_zero, hce] at h2
      exact read_i16 h2
    obtain ⟨a0, rfl, b0⟩ := key 0 (by omega) c0 rfl
    obtain ⟨a1, rfl, b1⟩ := key 1 (by omega) c1 rfl
    obtain ⟨a2, rfl, b2⟩ := key 2 (by omega) c2 rfl
    obtain ⟨a3, rfl, b3⟩ := key 3 (by omega) c3 rfl
    exact ⟨a0, a1, a2, a3, rfl, fun x hx => by simp at hx; rcases hx with rfl | rfl | rfl | rfl <;> assumption⟩
end

end Go.Proofs.Ytlcnonhebppeiaa

/- A region that draws its order, in which memory only grows: whatever yields its value in every world that goes on from the one at hand is taken first; the rest one by one, each from the world that it meets. -/
namespace Go.Proofs.Ytlcnonhebppeiaa
open Go.RowKit
set_option linter.unusedVariables false

/-- w' goes on from w: what lay in w is unturned. -/
def Ext (w w' : World) : Prop := Below w.heap.size w w'
theorem Ext.refl (w : World) : Ext w w := Below.refl _ _
theorem Ext.trans {a b c : World} (h : Ext a b) (k : Ext b c) : Ext a c := Below.trans h (Below.mono k (Below.size h))
theorem Ext.cell {w w' : World} (h : Ext w w') {a : Addr} {v : Value} (hc : w.cell? a = some v) : w'.cell? a = some v := (Below.cell h (World.block_lt_of_cell? w _ hc)).trans hc
theorem Ext.alloc (w : World) (o : Obj) : Ext w (w.alloc o) := (Below.refl _ _).alloc (Nat.le_refl _) o

section
variable {P : Program} {ops : Array Oper} {Q : Exit → Act → World → Prop} {md : Region.Mode}

theorem held_mono {S1 S2 : World → Prop} (h : ∀ w, S2 w → S1 w) : ∀ (fuel : Nat) (listed : Array Bool) (a : Act) (w : World), wpAnyH P md ops Q S2 fuel listed a w → wpAnyH P md ops Q S1 fuel listed a w
  | 0, _, _, _, hh => hh
  | fuel + 1, _, _, _, hh => ⟨hh.1, fun i hi => wpOp_mono (fun a' w' h' => ⟨h w' h'.1, held_mono h fuel _ a' w' h'.2⟩) (hh.2 i hi)⟩

theorem reg_start {id : Nat} {a : Act} {w : World} (hm : P.follows .mixedOrders = true) (h : wpAnyH P .any ops Q (Ext w.drew) ops.size (Array.replicate ops.size false) a w.drew) : (Code.region id ops true).wp P Q a w := wp_region_held hm h

theorem reg_take {i : Nat} {d : Option Tmp} {oi : Oper} {v : Value} {fuel : Nat} {listed : Array Bool} {a : Act} {w : World} (hi : ops[i]? = some oi) (hd : oi.dst = d) (hs : Region.noSelect ops = true) (hf : Region.free md ops listed i = true) (hr : (Region.ready md ops listed).contains i = true)
    (hQ : ∀ c a w, Q (.panic c) (a.put oi.dst v) w → Q (.panic c) a w) (hy : YieldsIf P ops (Ext w) oi v a) (h : wpAnyH P md ops Q (Ext w) fuel (listed.setIfInBounds i true) (a.put d v) w) : wpAnyH P md ops Q (Ext w) (fuel + 1) listed a w := by
  subst hd
  exact wpAnyH_take hi hs hf hr hQ hy (Ext.refl w) h

/-- One of those that may come up. -/
def OneR (P : Program) (md : Region.Mode) (ops : Array Oper) (Q : Exit → Act → World → Prop) (fuel : Nat) (listed : Array Bool) (a : Act) (w : World) (i : Nat) (o : Oper) : Prop :=
  ∀ K : Act → World → Prop, Shut (∀ a' w', Ext w w' → wpAnyH P md ops Q (Ext w') fuel (listed.setIfInBounds i true) a' w' → K a' w') → if Region.wanted o (yielded ops a.tmps) = true then Oper.wp P o a w K Q else K (a.put o.dst undef) w

theorem oneR_op {fuel : Nat} {listed : Array Bool} {a : Act} {w : World} {i : Nat} {o : Oper} (ho : ops[i]? = some o) (h : OneR P md ops Q fuel listed a w i o) : wpOp P ops Q i (fun a' w' => Ext w w' ∧ wpAnyH P md ops Q (Ext w) fuel (listed.setIfInBounds i true) a' w') a w :=
  wpOp_step ho fun K hK => h K fun a' w' hx hw => hK a' w' ⟨hx, held_mono (fun _ hy => hx.trans hy) _ _ _ _ hw⟩

theorem reg_one {fuel : Nat} {listed : Array Bool} {a : Act} {w : World} (i : Nat) (o : Oper) (hr : Region.ready md ops listed = [i]) (ho : ops[i]? = some o) (h : OneR P md ops Q fuel listed a w i o) : wpAnyH P md ops Q (Ext w) (fuel + 1) listed a w :=
  wpAnyH_all hr (by simp) fun j hj => by simp at hj; subst hj; exact oneR_op ho h

theorem reg_two {fuel : Nat} {listed : Array Bool} {a : Act} {w : World} (i j : Nat) (o p : Oper) (hr : Region.ready md ops listed = [i, j]) (ho : ops[i]? = some o) (hp : ops[j]? = some p) (h : OneR P md ops Q fuel listed a w i o) (k : OneR P md ops Q fuel listed a w j p) : wpAnyH P md ops Q (Ext w) (fuel + 1) listed a w :=
  wpAnyH_all hr (by simp) fun q hq => by
    simp at hq
    rcases hq with rfl | rfl
    · exact oneR_op ho h
    · exact oneR_op hp k
end

end Go.Proofs.Ytlcnonhebppeiaa

/- A region that draws its order, in which what lay at its start is never turned: whatever yields its value in every world that goes on from the start is taken first. -/
namespace Go.Proofs.Ytlcnonhebppeiaa
open Go.RowKit
set_option linter.unusedVariables false
theorem Ext.set {w0 w : World} (h : Ext w0 w) {b : Nat} (hb : w0.heap.size ≤ b) (o : Nat) (v : Value) : Ext w0 (w.setCell ⟨b, o, none⟩ v) := Below.setCell (p := ⟨b, o, none⟩) h hb v
theorem Ext.new {w0 w : World} (h : Ext w0 w) (o : Obj) : Ext w0 (w.alloc o) := Below.alloc h (Below.size h) o
theorem Ext.call {w0 w w' : World} (h : Ext w0 w) (hb : Below w.heap.size w w') : Ext w0 w' := h.trans hb

section
variable {P : Program} {ops : Array Oper} {Q : Exit → Act → World → Prop} {md : Region.Mode} {w0 : World}

theorem regF_start {id : Nat} {a : Act} {w : World} (hm : P.follows .mixedOrders = true) (h : wpAnyH P .any ops Q (Ext w.drew) ops.size (Array.replicate ops.size false) a w.drew) : (Code.region id ops true).wp P Q a w := wp_region_held hm h

theorem regF_take {i : Nat} {d : Option Tmp} {oi : Oper} {v : Value} {fuel : Nat} {listed : Array Bool} {a : Act} {w : World} (hx : Ext w0 w) (hi : ops[i]? = some oi) (hd : oi.dst = d) (hs : Region.noSelect ops = true) (hf : Region.free md ops listed i = true) (hr : (Region.ready md ops listed).contains i = true)
    (hQ : ∀ c a w, Q (.panic c) (a.put oi.dst v) w → Q (.panic c) a w) (hy : YieldsIf P ops (Ext w0) oi v a) (h : wpAnyH P md ops Q (Ext w0) fuel (listed.setIfInBounds i true) (a.put d v) w) : wpAnyH P md ops Q (Ext w0) (fuel + 1) listed a w := by
  subst hd
  exact wpAnyH_take hi hs hf hr hQ hy hx h

/-- One of those that may come up. -/
def OneF (P : Program) (md : Region.Mode) (ops : Array Oper) (Q : Exit → Act → World → Prop) (w0 : World) (fuel : Nat) (listed : Array Bool) (a : Act) (w : World) (i : Nat) (o : Oper) : Prop :=
  ∀ K : Act → World → Prop, Shut (∀ a' w', Ext w0 w' → wpAnyH P md ops Q (Ext w0) fuel (listed.setIfInBounds i true) a' w' → K a' w') → if Region.wanted o (yielded ops a.tmps) = true then Oper.wp P o a w K Q else K (a.put o.dst undef) w

theorem oneF_op {fuel : Nat} {listed : Array Bool} {a : Act} {w : World} {i : Nat} {o : Oper} (ho : ops[i]? = some o) (h : OneF P md ops Q w0 fuel listed a w i o) : wpOp P ops Q i (fun a' w' => Ext w0 w' ∧ wpAnyH P md ops Q (Ext w0) fuel (listed.setIfInBounds i true) a' w') a w :=
  wpOp_step ho fun K hK => h K fun a' w' hx hw => hK a' w' ⟨hx, hw⟩

theorem regF_one {fuel : Nat} {listed : Array Bool} {a : Act} {w : World} (i : Nat) (o : Oper) (hr : Region.ready md ops listed = [i]) (ho : ops[i]? = some o) (h : OneF P md ops Q w0 fuel listed a w i o) : wpAnyH P md ops Q (Ext w0) (fuel + 1) listed a w :=
  wpAnyH_all hr (by simp) fun j hj => by simp at hj; subst hj; exact oneF_op ho h

theorem regF_two {fuel : Nat} {listed : Array Bool} {a : Act} {w : World} (i j : Nat) (o p : Oper) (hr : Region.ready md ops listed = [i, j]) (ho : ops[i]? = some o) (hp : ops[j]? = some p) (h : OneF P md ops Q w0 fuel listed a w i o) (k : OneF P md ops Q w0 fuel listed a w j p) : wpAnyH P md ops Q (Ext w0) (fuel + 1) listed a w :=
  wpAnyH_all hr (by simp) fun q hq => by
    simp at hq
    rcases hq with rfl | rfl
    · exact oneF_op ho h
    · exact oneF_op hp k
end

/-- append, where an operation of a drawn region comes up. -/
theorem step_append_row {P : Program} {w : World} {ops : Array Oper} {o : Oper} {a : Act} {K : Act → World → Prop} {Q : Exit → Act → World → Prop} {E : Prop} (hgd : o.guard = none) (s x : Operand) (T : TypeId)
    (ho : o.op = .call { callee := .builtin .append, args := #[s, x], argTypes := #[T, T] }) (t : TypeId) (k : IntKind)
    (base : Nat) (i : TypeInfo) (b : Nat) (ht : P.underlying T = some (.slice t)) (hi : P.info? t = some i) (hz : i.zero = some (.int k 0)) (hs : i.size = 1) (hby : i.bytes = b)
    (A : Option Addr) (n c : Nat) (zs : List Int) (hes : a.eval s = .slice A n c) (hown : Own t k w base A n c zs) (A' : Option Addr) (n' c' : Nat) (ys : List Int) (hex : a.eval x = .slice A' n' c') (hr : Row w A' n' (cellsOf k ys))
    (hb : (n + n') * b ≤ 140737488355328) (hm : n + n' ≤ 140737488355328) (hbase : base ≤ w.heap.size)
    (h : ∀ A2 c2 w', Own t k w' base A2 (n + n') c2 (zs ++ ys) → w.grownBy w' (blockOf A) → K (a.put o.dst (.slice A2 (n + n') c2)) w') : if Region.wanted o (yielded ops a.tmps) = true then Oper.wp P o a w K Q else E := by
  have hw : Region.wanted o (yielded ops a.tmps) = true := by simp [Region.wanted, hgd]
  rw [if_pos hw]
  obtain ⟨A2, c2, w', hrun, h2, h3⟩ := run_append_row (P := P) w t k base T o.type i b ht hi hz hs hby A n c zs hown A' n' c' ys hr hb hm hbase
  unfold Oper.wp execOp
  simp only [ho, resolve, invoke, builtin, Sem.run_bind, Sem.run_pure, Result.andThen_ok, List.map_toArray, List.map_cons, List.map_nil, hes, hex, hrun]
  exact h A2 c2 w' h2 h3

/-- Seven cells, one by one. -/
def sets7 (w : World) (b : Nat) (v0 v1 v2 v3 v4 v5 v6 : Value) : World := ((((((w.setCell ⟨b, 0, none⟩ v0).setCell ⟨b, 1, none⟩ v1).setCell ⟨b, 2, none⟩ v2).setCell ⟨b, 3, none⟩ v3).setCell ⟨b, 4, none⟩ v4).setCell ⟨b, 5, none⟩ v5).setCell ⟨b, 6, none⟩ v6
section
variable {w : World} {b t : Nat} {z0 z1 z2 z3 z4 z5 z6 : Value} (v0 v1 v2 v3 v4 v5 v6 : Value)
theorem sets7_block (h : w.heap[b]? = some (.cells #[z0, z1, z2, z3, z4, z5, z6] t (0, 0))) : (sets7 w b v0 v1 v2 v3 v4 v5 v6).heap[b]? = some (.cells #[v0, v1, v2, v3, v4, v5, v6] t (0, 0)) :=
  by
  have h0 : (w.setCell ⟨b, 0, none⟩ v0).heap[b]? = some (.cells #[v0, z1, z2, z3, z4, z5, z6] t (0, 0)) := (set_block h 0 v0).trans (by simp)
  have h1 : ((w.setCell ⟨b, 0, none⟩ v0).setCell ⟨b, 1, none⟩ v1).heap[b]? = some (.cells #[v0, v1, z2, z3, z4, z5, z6] t (0, 0)) := (set_block h0 1 v1).trans (by simp)
  have h2 : (((w.setCell ⟨b, 0, none⟩ v0).setCell ⟨b, 1, none⟩ v1).setCell ⟨b, 2, none⟩ v2).heap[b]? = some (.cells #[v0, v1, v2, z3, z4, z5, z6] t (0, 0)) := (set_block h1 2 v2).trans (by simp)
  have h3 := (set_block h2 3 v3)
  have h4 := (set_block h3 4 v4)
  have h5 := (set_block h4 5 v5)
  have h6 := (set_block h5 6 v6)
  rw [show (((((#[v0, v1, v2, z3, z4, z5, z6].setIfInBounds 3 v3).setIfInBounds 4 v4).setIfInBounds 5 v5).setIfInBounds 6 v6)) = #[v0, v1, v2, v3, v4, v5, v6] by simp] at h6
  exact h6
theorem sets7_far {g : Nat} (h : g ≠ b) : (sets7 w b v0 v1 v2 v3 v4 v5 v6).heap[g]? = w.heap[g]? := by
  unfold sets7
  refine (Below.heap_setCell _ _ _ _ h).trans ((Below.heap_setCell _ _ _ _ h).trans ((Below.heap_setCell _ _ _ _ h).trans ((Below.heap_setCell _ _ _ _ h).trans ((Below.heap_setCell _ _ _ _ h).trans ((Below.heap_setCell _ _ _ _ h).trans (Below.heap_setCell _ _ _ _ h))))))
theorem sets7_below {B : Nat} {u : World} (h : Below B u w) (hb : B ≤ b) : Below B u (sets7 w b v0 v1 v2 v3 v4 v5 v6) :=
  ((((((h.setCell (p := ⟨b, 0, none⟩) hb v0).setCell (p := ⟨b, 1, none⟩) hb v1).setCell (p := ⟨b, 2, none⟩) hb v2).setCell (p := ⟨b, 3, none⟩) hb v3).setCell (p := ⟨b, 4, none⟩) hb v4).setCell (p := ⟨b, 5, none⟩) hb v5).setCell (p := ⟨b, 6, none⟩) hb v6
end
end Go.Proofs.Ytlcnonhebppeiaa

/- The law's made: an outline of points, sizes and a program; as a contract over this seat's translation. -/
namespace Go.Proofs.Ytlcnonhebppeiaa
open Go.RowKit
set_option linter.unusedVariables false

theorem box4 {w : World} {b t : Nat} {v0 v1 v2 v3 : Value} (h : w.heap[b]? = some (.cells #[v0, v1, v2, v3] t (0, 0))) :
    w.cell? ⟨b, 0, none⟩ = some v0 ∧ w.cell? ⟨b, 1, none⟩ = some v1 ∧ w.cell? ⟨b, 2, none⟩ = some v2 ∧ w.cell? ⟨b, 3, none⟩ = some v3 :=
  ⟨cell_of_row w b 0 _ t (0, 0) h, cell_of_row w b 1 _ t (0, 0) h, cell_of_row w b 2 _ t (0, 0) h, cell_of_row w b 3 _ t (0, 0) h⟩

/-- What made leaves. -/
def RetMade (w : World) (bx : List Int) (ps : List Sp) (pr : List Int) (e : Ending) (w' : World) : Prop :=
  ∃ v : GlV, e = .returned v.val ∧ v.rows w' ∧ v.g.ok ∧ v.few ∧ v.g.box = bx ∧ v.g.ps = ps.take 300 ∧ v.g.pr = pr.take 30 ∧ v.en ≤ 41 ∧ v.sn ≤ 300 ∧ v.pn ≤ 30 ∧ Below w.heap.size w w' ∧ v.sn ≤ v.sc

/-- A block of an outline under way, with fresh lists; the result's block is kept. -/
structure MW (w wr : World) (br bx : Nat) (cs : Array Value) (EA : Option Addr) (n ec : Nat) (es : List Int) (PA : Option Addr) (pn pc : Nat) (pr : List Int) (QA : Option Addr) (q qc : Nat) (ps : List Sp) : Prop where
  box : wr.heap[bx]? = some (.cells cs 29 (0, 0))
  out : wr.heap[br]? = some (.cells glZ 29 (0, 0))
  ea : Own 54 .u16 wr w.heap.size EA n ec es
  pa : OwnB wr w.heap.size PA pn pc pr
  qa : OwnS 60 encSp 3 wr w.heap.size QA q qc ps
  bel : Below w.heap.size w wr
  lx : w.heap.size ≤ bx
  lr : w.heap.size ≤ br
  ne : br ≠ bx

theorem mem_snoc_bd {es : List Int} {v : Int} (h : ∀ x ∈ es, 0 ≤ x ∧ x < 65536) (h0 : 0 ≤ v) (h1 : v < 65536) : ∀ x ∈ es ++ [v], 0 ≤ x ∧ x < 65536 := by
  intro x hx
  rcases List.mem_append.1 hx with hx | hx
  · exact h x hx
  · simp only [List.mem_singleton] at hx
    subst hx
    exact ⟨h0, h1⟩
theorem own_neOO {t t' : TypeId} {k k' : IntKind} {w : World} {B B' n c n' c' : Nat} {A A' : Option Addr} {zs ys : List Int} (h : Own t k w B A n c zs) (h' : Own t' k' w B' A' n' c' ys) (ht : t ≠ t') : ∀ q, blockOf A = some q → some q ≠ blockOf A' := by
  intro q hq e
  rcases h'.shape with ⟨rfl, _⟩ | ⟨g', cur, rfl, _, _, hh, _⟩
  · simp [blockOf] at e
  · simp [blockOf] at e
    subst e
    exact own_neS h hh ht _ hq rfl
section
variable {w wr w' : World} {br bx : Nat} {cs : Array Value} {EA PA QA : Option Addr} {n ec pn pc q qc : Nat} {es pr : List Int} {ps : List Sp}
theorem MW.below (h : MW w wr br bx cs EA n ec es PA pn pc pr QA q qc ps) (hb : Below wr.heap.size wr w') : MW w w' br bx cs EA n ec es PA pn pc pr QA q qc ps :=
  ⟨kept_block h.box hb, kept_block h.out hb, h.ea.below hb, h.pa.below hb, h.qa.below hb, h.bel.trans (hb.mono h.bel.size), h.lx, h.lr, h.ne⟩
theorem MW.drew (h : MW w wr br bx cs EA n ec es PA pn pc pr QA q qc ps) : MW w wr.drew br bx cs EA n ec es PA pn pc pr QA q qc ps := h.below (Below.refl _ _).drew
theorem MW.set (h : MW w wr br bx cs EA n ec es PA pn pc pr QA q qc ps) (j : Nat) (v : Value) : MW w (wr.setCell ⟨bx, j, none⟩ v) br bx (cs.setIfInBounds j v) EA n ec es PA pn pc pr QA q qc ps :=
  ⟨set_block h.box j v, (Below.heap_setCell wr _ v _ h.ne).trans h.out, h.ea.keep (fun g e => Below.heap_setCell wr _ v _ (own_neS h.ea h.box (by decide) g e)), h.pa.keep (fun g e => Below.heap_setCell wr _ v _ (own_neS h.pa h.box (by decide) g e)), h.qa.keep (fun g e => Below.heap_setCell wr _ v _ (ownS_ne h.qa h.box (by decide) g e)), h.bel.setCell (p := ⟨bx, j, none⟩) h.lx v, h.lx, h.lr, h.ne⟩
theorem MW.cell (h : MW w wr br bx cs EA n ec es PA pn pc pr QA q qc ps) (j : Nat) (v : Value) (hq : cs[j]? = some v) : wr.cell? ⟨bx, j, none⟩ = some v := (cell_of_row wr _ j _ _ _ h.box).trans hq
theorem MW.thaw (h : MW w wr br bx cs EA n ec es PA pn pc pr QA q qc ps) (o : Nat) : wr.frozen? ⟨bx, o, none⟩ = false := thawed h.box o
theorem MW.appE (h : MW w wr br bx cs EA n ec es PA pn pc pr QA q qc ps) {A2 : Option Addr} {n2 c2 : Nat} {es2 : List Int} (ho : Own 54 .u16 w' w.heap.size A2 n2 c2 es2) (hg : wr.grownBy w' (blockOf EA)) : MW w w' br bx cs A2 n2 c2 es2 PA pn pc pr QA q qc ps := by
  have hn : ∀ (b : Nat) (cs : Array Value), wr.heap[b]? = some (.cells cs 29 (0, 0)) → some b ≠ blockOf EA := fun b cs hh e => own_neS h.ea hh (by decide) b e.symm rfl
  exact ⟨(hg.block bx (lt_of_block h.box) (hn _ _ h.box)).trans h.box, (hg.block br (lt_of_block h.out) (hn _ _ h.out)).trans h.out, ho, h.pa.keep (fun g e => hg.block g (h.pa.from_ g e).2 (fun e2 => own_neOO h.ea h.pa (by decide) g e2.symm e.symm)), h.qa.keep (fun g e => hg.block g (h.qa.from_ g e).2 (fun e2 => own_neSS h.ea h.qa (by decide) g e2.symm e.symm)), h.bel.grown hg h.bel.size (fun g e => (h.ea.from_ g e).1), h.lx, h.lr, h.ne⟩
theorem MW.appQ (h : MW w wr br bx cs EA n ec es PA pn pc pr QA q qc ps) {A2 : Option Addr} {n2 c2 : Nat} {ps2 : List Sp} (ho : OwnS 60 encSp 3 w' w.heap.size A2 n2 c2 ps2) (hg : wr.grownBy w' (blockOf QA)) : MW w w' br bx cs EA n ec es PA pn pc pr A2 n2 c2 ps2 := by
  have hn : ∀ (b : Nat) (cs : Array Value), wr.heap[b]? = some (.cells cs 29 (0, 0)) → some b ≠ blockOf QA := fun b cs hh e => ownS_ne h.qa hh (by decide) b e.symm rfl
  exact ⟨(hg.block bx (lt_of_block h.box) (hn _ _ h.box)).trans h.box, (hg.block br (lt_of_block h.out) (hn _ _ h.out)).trans h.out, h.ea.keep (fun g e => hg.block g (h.ea.from_ g e).2 (own_neSS h.ea h.qa (by decide) g e)), h.pa.keep (fun g e => hg.block g (h.pa.from_ g e).2 (own_neSS h.pa h.qa (by decide) g e)), ho, h.bel.grown hg h.bel.size (fun g e => (h.qa.from_ g e).1), h.lx, h.lr, h.ne⟩
end

set_option maxRecDepth 100000 in
set_option maxHeartbeats 4000000 in
theorem made_any (x0 x1 x2 x3 : Int) (QA : Option Addr) (q qc : Nat) (ps : List Sp) (SA : Option Addr) (sn sc : Nat) (ss : List Int) (PA : Option Addr) (pn pc : Nat) (pr : List Int) (w : World)
    (hbx : ∀ x ∈ [x0, x1, x2, x3], -32768 ≤ x ∧ x ≤ 32767) (hq : RowS encSp 3 w QA q ps) (hps : ∀ p ∈ ps, Sp.ok p) (hqc : q ≤ qc) (hqm : q ≤ 9223372036854775807) (hs0 : Row w SA sn (cellsOf .u8 ss)) (hsB : Bytes ss) (hsm : sn ≤ 9223372036854775807)
    (hp : Row w PA pn (cellsOf .u8 pr)) (hpB : Bytes pr) (hpm : pn ≤ 9223372036854775807) :
    Calls Try.prog 16 #[.agg #[.int .i16 x0, .int .i16 x1, .int .i16 x2, .int .i16 x3], .slice QA q qc, .slice SA sn sc, .slice PA pn pc] w (RetMade w [x0, x1, x2, x3] ps pr) := by
  have hA1 := (Below.refl w.heap.size w).alloc (Nat.le_refl _) (.cells #[.int .i16 x0, .int .i16 x1, .int .i16 x2, .int .i16 x3] 23)
  have hA2 := hA1.alloc hA1.size (.cells glZ 29)
  have HC : Hid (∀ W, Below w.heap.size w W → Calls Try.prog 17 #[.slice PA pn pc, .int .i64 30] W (RetB W (pr.take 30))) := fun W hW => cut_any _ _ _ pr 30 W (hp.below hW) hpm (by omega)
  have hkb : ((w.alloc (.cells #[.int .i16 x0, .int .i16 x1, .int .i16 x2, .int .i16 x3] 23)).alloc (.cells glZ 29)).heap[w.heap.size]? = some (.cells #[.int .i16 x0, .int .i16 x1, .int .i16 x2, .int .i16 x3] 23 (0, 0)) := kept_alloc (heap_alloc_new w _) _
  have hkr : ((w.alloc (.cells #[.int .i16 x0, .int .i16 x1, .int .i16 x2, .int .i16 x3] 23)).alloc (.cells glZ 29)).heap[w.heap.size + 1]? = some (.cells glZ 29 (0, 0)) := by
    have := heap_alloc_new (w.alloc (.cells #[.int .i16 x0, .int .i16 x1, .int .i16 x2, .int .i16 x3] 23)) (.cells glZ 29)
    rwa [show (w.alloc (.cells #[.int .i16 x0, .int .i16 x1, .int .i16 x2, .int .i16 x3] 23)).heap.size = w.heap.size + 1 by simp] at this
  unfold glZ at hA2 hkb hkr
  go_enter Try.func16, Try.ntmps16
  go_upto_region 1 with fail
  generalize (w.alloc _).alloc _ = V at *
  have hb := hA2.drew
  replace hkb : V.drew.heap[w.heap.size]? = _ := hkb
  replace hkr : V.drew.heap[w.heap.size + 1]? = _ := hkr
  clear hA1
  go_cut [9] (fun p wx => ∃ (bx : Nat) (CA : Option Addr) (cn cc : Nat), p = .pointer (some ⟨bx, 0, none⟩) ∧ MW w wx (w.heap.size + 1) bx #[.int .i16 x0, .int .i16 x1, .int .i16 x2, .int .i16 x3, .slice none 0 0, .slice CA cn cc, .slice none 0 0] none 0 0 [] CA cn cc (pr.take 30) none 0 0 [])
  · have hsl : w.heap.size + 1 < V.heap.size := lt_of_block hkr
    have hkb0 : V.heap[w.heap.size]? = _ := hkb
    have hkr0 : V.heap[w.heap.size + 1]? = _ := hkr
    obtain ⟨k0, k1, k2, k3⟩ := box4 hkb
    have hsz : V.drew.heap.size = V.heap.size := rfl
    refine regF_start (by kernel_rfl) ?_
    refine regF_take (i := 0) (d := some 15) (v := ?_) (Ext.refl _) rfl rfl (by kernel_rfl) (by kernel_rfl) (by kernel_rfl) (fun _ _ _ h => h) (Or.inl ⟨by rfl, ?_⟩) ?_
    rotate_left
    · intro w' hx; have q0 := hx.cell k0; have q1 := hx.cell k1; have q2 := hx.cell k2; have q3 := hx.cell k3; (go_simp <;> with_reducible rfl)
    simp only [Act.put, List.setIfInBounds_toArray, List.set_cons_zero, List.set_cons_succ]
    refine regF_take (i := 1) (d := some 16) (v := ?_) (Ext.refl _) rfl rfl (by kernel_rfl) (by kernel_rfl) (by kernel_rfl) (fun _ _ _ h => h) (Or.inl ⟨by rfl, ?_⟩) ?_
    rotate_left
    · intro w' hx; (go_simp <;> with_reducible rfl)
    simp only [Act.put, List.setIfInBounds_toArray, List.set_cons_zero, List.set_cons_succ]
    refine regF_two 2 4 _ _ (by kernel_rfl) rfl rfl ?_ ?_
    · intro K hK
      go_simp
      refine (HC.out _ hb).mono ?_
      rintro e w2 ⟨CA, cn, cc, rfl, hown, hb2⟩
      refine hK.out _ _ hb2 ?_
      clear hK K
      have hx2 : Ext V.drew w2 := hb2
      refine regF_take (i := 3) (d := some 18) (v := ?_) hx2 rfl rfl (by kernel_rfl) (by kernel_rfl) (by kernel_rfl) (fun _ _ _ h => h) (Or.inl ⟨by rfl, ?_⟩) ?_
      rotate_left
      · intro w' hx; (go_simp <;> with_reducible rfl)
      simp only [Act.put, List.setIfInBounds_toArray, List.set_cons_zero, List.set_cons_succ]
      refine regF_one 4 _ (by kernel_rfl) rfl ?_
      intro K hK
      go_simp
      have hx3 := hx2.new (.cells glZ 29)
      have hn3 := heap_alloc_new w2 (.cells glZ 29)
      unfold glZ at hx3 hn3
      refine hK.out _ _ hx3 ?_
      clear hK K
      obtain ⟨z0, z1, z2, z3, z4, z5, z6⟩ := cells7 hn3
      have zf := thawed hn3
      refine regF_one 5 _ (by kernel_rfl) rfl ?_
      intro K hK
      go_simp
      have HX := hx2.new (.cells #[.int .i16 x0, .int .i16 x1, .int .i16 x2, .int .i16 x3, .slice none 0 0, .slice CA cn cc, .slice none 0 0] 29)
      have HB7 := heap_alloc_new w2 (.cells #[.int .i16 x0, .int .i16 x1, .int .i16 x2, .int .i16 x3, .slice none 0 0, .slice CA cn cc, .slice none 0 0] 29)
      have HF7 := fun (g : Nat) (h : g < w2.heap.size) => Below.heap_alloc w2 (.cells #[.int .i16 x0, .int .i16 x1, .int .i16 x2, .int .i16 x3, .slice none 0 0, .slice CA cn cc, .slice none 0 0] 29) g h
      refine hK.out _ _ HX ?_
      generalize w2.alloc (.cells #[.int .i16 x0, .int .i16 x1, .int .i16 x2, .int .i16 x3, .slice none 0 0, .slice CA cn cc, .slice none 0 0] 29) = W7 at *
      clear hK K
      refine wpAnyH_done (by kernel_rfl) ?_ _
      go_wp2_with fail
      go_meet
      have hsb : V.heap.size ≤ w2.heap.size := hb2.size
      have hna : ∀ (g : Nat) (o : Obj), w2.heap[g]? = some o → g ≠ w2.heap.size := fun g o h e => by have := lt_of_block h; omega
      have hkr2 := kept_block hkr hb2
      exact ⟨w2.heap.size, CA, cn, cc, rfl, HB7, (HF7 _ (by omega)).trans hkr2, Own.nil _ _ _ _, (hown.mono hb.size).keep (fun g e => HF7 _ (hown.from_ g e).2), OwnS.nil _ _ _ _ _, hb.trans (HX.mono hb.size), by omega, by omega, by omega⟩
    · intro K hK
      go_simp
      have hx3 := (Ext.refl V.drew).new (.cells glZ 29)
      have hn3 : (V.drew.alloc (.cells #[.int .i16 0, .int .i16 0, .int .i16 0, .int .i16 0, .slice none 0 0, .slice none 0 0, .slice none 0 0] 29)).heap[V.heap.size]? = _ := heap_alloc_new V.drew (.cells glZ 29)
      unfold glZ at hx3 hn3
      refine hK.out _ _ hx3 ?_
      clear hK K
      refine regF_one 2 _ (by kernel_rfl) rfl ?_
      intro K hK
      go_simp
      have hbA := hb.trans (hx3.mono hb.size)
      refine (HC.out _ hbA).mono ?_
      rintro e w2 ⟨CA, cn, cc, rfl, hown, hb2⟩
      have hx2 := hx3.call hb2
      refine hK.out _ _ hx2 ?_
      clear hK K
      refine regF_take (i := 3) (d := some 18) (v := ?_) hx2 rfl rfl (by kernel_rfl) (by kernel_rfl) (by kernel_rfl) (fun _ _ _ h => h) (Or.inl ⟨by rfl, ?_⟩) ?_
      rotate_left
      · intro w' hx; (go_simp <;> with_reducible rfl)
      simp only [Act.put, List.setIfInBounds_toArray, List.set_cons_zero, List.set_cons_succ]
      have hn4 := kept_block hn3 hb2
      obtain ⟨z0, z1, z2, z3, z4, z5, z6⟩ := cells7 hn4
      have zf := thawed hn4
      refine regF_one 5 _ (by kernel_rfl) rfl ?_
      intro K hK
      go_simp
      have HX := sets7_below (b := V.heap.size) (.int .i16 x0) (.int .i16 x1) (.int .i16 x2) (.int .i16 x3) (.slice none 0 0) (.slice CA cn cc) (.slice none 0 0) hx2 (Nat.le_refl _)
      have HB7 := sets7_block (.int .i16 x0) (.int .i16 x1) (.int .i16 x2) (.int .i16 x3) (.slice none 0 0) (.slice CA cn cc) (.slice none 0 0) hn4
      have HF7 := fun (g : Nat) (h : g ≠ V.heap.size) => sets7_far (w := w2) (.int .i16 x0) (.int .i16 x1) (.int .i16 x2) (.int .i16 x3) (.slice none 0 0) (.slice CA cn cc) (.slice none 0 0) h
      refine hK.out _ (sets7 w2 V.heap.size (.int .i16 x0) (.int .i16 x1) (.int .i16 x2) (.int .i16 x3) (.slice none 0 0) (.slice CA cn cc) (.slice none 0 0)) HX ?_
      generalize sets7 _ _ _ _ _ _ _ _ _ = W7 at *
      clear hK K
      refine wpAnyH_done (by kernel_rfl) ?_ _
      go_wp2_with fail
      go_meet
      have hfar : ∀ g, blockOf CA = some g → V.heap.size + 1 ≤ g := fun g e => by have := (hown.from_ g e).1; simpa using this
      exact ⟨V.heap.size, CA, cn, cc, rfl, HB7, (HF7 _ (by omega)).trans (kept_block (kept_alloc hkr _) hb2), Own.nil _ _ _ _, (hown.mono hbA.size).keep (fun g e => (HF7 _ (by have := hfar g e; omega))), OwnS.nil _ _ _ _ _, hb.trans (HX.mono hb.size), by omega, by omega, by omega⟩
  · obtain ⟨bx, CA, cn, cc, rfl, hs⟩ := hcut
    clear hA2 hb HC
    obtain ⟨m, hm⟩ : ∃ m : Nat, m = min q 300 := ⟨_, rfl⟩
    have hm0 : m ≤ q := by omega
    have hm1 : m ≤ 300 := by omega
    have HPm : Hid (ps.take m = ps.take 300) := by
      by_cases hq3 : q ≤ 300
      · show _ = _; rw [show m = q by omega, List.take_of_length_le (by rw [hq.len]; exact Nat.le_refl _), List.take_of_length_le (by rw [hq.len]; exact hq3)]
      · show _ = _; rw [show m = 300 by omega]
    have hqm2 := RowS.take encSp_len hq hm0
    have HRow : Hid (∀ w', Below w.heap.size w w' → RowS encSp 3 w' QA m (ps.take m)) := fun w' hb => hqm2.below hb
    have HS : Hid (∀ w', Below w.heap.size w w' → Row w' SA sn (cellsOf .u8 ss)) := fun w' hb => hs0.below hb
    clear hqm2
    go_upto_region 3 with fail
    rw [show min (q : Int) 300 = (m : Int) by omega]
    have hs2 := hs.drew
    have c6 := hs2.cell 6 _ rfl
    have s0 : (0 : Int) ≤ (m : Int) := by omega
    have s1 : (m : Int) ≤ (q : Int) := by omega
    have s2 : (q : Int) ≤ (qc : Int) := by omega
    have s3 : (m : Int) ≤ (qc : Int) := by omega
    obtain ⟨i1, hi1, hz01, hz11, hz21⟩ := info_parts Try.spinfo
    clear hkb hkr hm
    go_still_tail 5, (by kernel_rfl)
    refine wpList_append_rowS rfl (.tmp 23) (.tmp 26) _ rfl 60 encSp 3 encSp_len (by omega) encSp_one w.heap.size i1 _ 6 Try.underlying24 hi1 hz01 hz11 rfl hz21 none 0 0 [] rfl hs2.qa QA m qc (ps.take m) rfl (HRow.out _ hs2.bel) (by omega) (by omega) hs2.bel.size ?_
    intro A3 c3 w1 hown1 hg1
    have hs3 := hs2.appQ hown1 hg1
    have c6' := hs3.cell 6 _ rfl
    have f6' := hs3.thaw 6
    rw [Nat.zero_add, List.nil_append] at hs3
    rw [Nat.zero_add]
    have hs4 : MW w (w1.setCell ⟨bx, 6, none⟩ (.slice A3 m c3)) (w.heap.size + 1) bx #[.int .i16 x0, .int .i16 x1, .int .i16 x2, .int .i16 x3, .slice none 0 0, .slice CA cn cc, .slice A3 m c3] none 0 0 [] CA cn cc (pr.take 30) A3 m c3 (ps.take m) := hs3.set 6 (.slice A3 m c3)
    have Hs4 := Lib.hid hs4
    clear hs2 hs3 hs hown1 hg1 c6 hs4
    go_wp2
    have hs := Hs4.out
    clear Hs4 c6' f6'
    generalize w1.setCell _ _ = V1 at *
    have hsl := hs0.len
    have HSl := Lib.hid hsl
    have HSB := Lib.hid hsB
    have HPB := Lib.hid hpB
    have HPs := Lib.hid hps
    obtain ⟨i2, hi2, hz02, hz12, hz22⟩ := info_parts Try.u16info
    clear hsl
    clear hq hps hs0 hsB hp hpB HRow
    go_loopw [11, 31] (fun at' i' wr => ∃ (k : Nat) (at_ : Int) (EA : Option Addr) (n ec : Nat) (es : List Int), k ≤ sn ∧ i' = .int .i64 k ∧ at' = .int .i64 at_ ∧ Hid (k ≤ 40 → 0 ≤ at_ ∧ at_ ≤ 9 * k) ∧ Hid (n ≤ 40 ∧ n ≤ k ∧ es.length = n ∧ ∀ x ∈ es, 0 ≤ x ∧ x < 65536) ∧ MW w wr (w.heap.size + 1) bx #[.int .i16 x0, .int .i16 x1, .int .i16 x2, .int .i16 x3, .slice EA n ec, .slice CA cn cc, .slice A3 m c3] EA n ec es CA cn cc (pr.take 30) A3 m c3 (ps.take m)) (fun _ i' _ => sn - (intOf i').toNat)
    case atStart => exact ⟨0, 0, none, 0, 0, [], Nat.zero_le _, rfl, rfl, (fun _ => ⟨by omega, by omega⟩ : _), (⟨by omega, by omega, rfl, by simp⟩ : _), hs⟩
    case round =>
      clear hs
      obtain ⟨k, at_, EA, n, ec, es, hk, rfl, rfl, Hat, Hes, hs⟩ := hrel
      have hsz := hs.bel.size
      obtain ⟨e0, e1, e2, e3⟩ := Hes.out
      by_cases hlt : k < sn
      · obtain ⟨b, hb⟩ := get_some (zs := ss) (k := k) (by rw [HSl.out]; exact hlt)
        obtain ⟨u0, u1⟩ := HSB.out b (List.mem_of_getElem? hb)
        obtain ⟨g, off, rfl, hg, hc⟩ := (HS.out _ hs.bel).at (cellsOf_get (k := .u8) hb)
        clear hb
        by_cases hi : k < 40
        · obtain ⟨t0, t1⟩ := Hat.out (by omega)
          by_cases hlt2 : at_ + (1 + b % 9) < m
          · have He3 := Lib.hid e3
            clear e3 e2
            have c4 := hs.cell 4 _ rfl
            have hA := (Below.refl wr.heap.size wr).alloc (Nat.le_refl _) (.cells #[.int .u16 (at_ + (1 + b % 9) - 1)] 54)
            have hs2 := hs.below hA
            have hrow := row_one wr .u16 (at_ + (1 + b % 9) - 1) 54
            clear hA hs
            go_wp2_with (at_builtin; refine wpList_append_row rfl (.tmp 50) (.tmp 54) _ rfl 54 .u16 w.heap.size i2 2 Try.underlying27 hi2 hz02 hz12 hz22 EA n ec _ rfl hs2.ea (some ⟨wr.heap.size, 0, none⟩) 1 1 [at_ + (1 + b % 9) - 1] rfl hrow (by omega) (by omega) (by simp; omega) ?_; intro A5 c5 w5 hown5 hg5; have hs3 := hs2.appE hown5 hg5; have c4' := hs3.cell 4 _ rfl; have f4' := hs3.thaw 4)
            have hs4 : MW w (w5.setCell ⟨bx, 4, none⟩ (.slice A5 (n + 1) c5)) (w.heap.size + 1) bx #[.int .i16 x0, .int .i16 x1, .int .i16 x2, .int .i16 x3, .slice A5 (n + 1) c5, .slice CA cn cc, .slice A3 m c3] A5 (n + 1) c5 (es ++ [at_ + (1 + b % 9) - 1]) CA cn cc (pr.take 30) A3 m c3 (ps.take m) := hs3.set 4 (.slice A5 (n + 1) c5)
            clear hs2 hs3 hown5 hg5 c4' f4' c4 hrow
            go_roundw
            case rel => exact ⟨k + 1, at_ + (1 + b % 9), A5, n + 1, c5, es ++ [at_ + (1 + b % 9) - 1], by omega, by go_num, rfl, (fun _ => ⟨by omega, by omega⟩ : _), (⟨by omega, by omega, by have := Hes.out.2.2.1; simp [this], mem_snoc_bd He3.out (by omega) (by omega)⟩ : _), hs4⟩
            case measure => simp [intOf]; omega
          · go_wp2
            go_roundw
            case rel => exact ⟨k + 1, at_ + (1 + b % 9), EA, n, ec, es, by omega, by go_num, rfl, (fun _ => ⟨by omega, by omega⟩ : _), (⟨by omega, by omega, e2, e3⟩ : _), hs⟩
            case measure => simp [intOf]; omega
        · go_wp2
          go_roundw
          case rel => exact ⟨k + 1, _, EA, n, ec, es, by omega, by go_num, rfl, (fun h => absurd h (by omega) : _), (⟨by omega, by omega, e2, e3⟩ : _), hs⟩
          case measure => simp [intOf]; omega
      · obtain rfl : k = sn := by omega
        clear Hat hlt
        have He3 := Lib.hid e3
        have c4 := hs.cell 4 _ rfl
        by_cases hm3 : m = 0
        · have hm4 : ¬ (0 < (m : Int)) := by omega
          have Hm3 := Lib.hid hm3
          clear hm3
          have kr : wr.heap[w.heap.size + 1]? = some (.cells #[.int .i16 0, .int .i16 0, .int .i16 0, .int .i16 0, .slice none 0 0, .slice none 0 0, .slice none 0 0] 29 (0, 0)) := hs.out
          obtain ⟨z0, z1, z2, z3, z4, z5, z6⟩ := cells7 hs.box
          have HSf := Lib.hid hs
          clear hs c4
          go_wp2_with (with_reducible refine wpList_store_row rfl 29 (.tmp 8) (.tmp 85) rfl (w.heap.size + 1) #[.int .i16 x0, .int .i16 x1, .int .i16 x2, .int .i16 x3, .slice EA (n) ec, .slice CA cn cc, .slice A3 m c3] rfl rfl 29 #[.int .i16 0, .int .i16 0, .int .i16 0, .int .i16 0, .slice none 0 0, .slice none 0 0, .slice none 0 0] kr (gl7 _ _ _ _ _ _ _ _ _ _ _ _ _).1 (gl7 _ _ _ _ _ _ _ _ _ _ _ _ _).2.1 (gl7 _ _ _ _ _ _ _ _ _ _ _ _ _).2.2 ?_)
          have KR := Lib.hid (setRow_heap (wr) (w.heap.size + 1) _ #[.int .i16 x0, .int .i16 x1, .int .i16 x2, .int .i16 x3, .slice EA (n) ec, .slice CA cn cc, .slice A3 m c3] 29 (0, 0) kr)
          have HBl := Lib.hid (below_rowO (B := w.heap.size) (by omega : w.heap.size ≤ w.heap.size + 1) #[.int .i16 x0, .int .i16 x1, .int .i16 x2, .int .i16 x3, .slice EA (n) ec, .slice CA cn cc, .slice A3 m c3] HSf.out.bel)
          have hpn := HSf.out.pa.len
          have HRows : Hid (GlV.rows ((wr).setRow (w.heap.size + 1) #[.int .i16 x0, .int .i16 x1, .int .i16 x2, .int .i16 x3, .slice EA (n) ec, .slice CA cn cc, .slice A3 m c3]) ⟨⟨x0, x1, x2, x3, es, pr.take 30, ps.take m⟩, EA, n, ec, CA, cn, cc, A3, m, c3⟩) := ⟨HSf.out.ea.row.keep (by simp) (fun g e _ => setRow_other _ _ _ _ (own_neS HSf.out.ea kr (by decide) g e)), HSf.out.pa.row.keep (by simp) (fun g e _ => setRow_other _ _ _ _ (own_neS HSf.out.pa kr (by decide) g e)), (HSf.out.qa.row encSp_len).keep (by simp) (fun g e _ => setRow_other _ _ _ _ (ownS_ne HSf.out.qa kr (by decide) g e))⟩
          have hcn : cn ≤ 30 := by rw [← hpn, List.length_take]; omega
          have HM : RetMade w [x0, x1, x2, x3] ps pr (.returned (GlV.val ⟨⟨x0, x1, x2, x3, es, pr.take 30, ps.take m⟩, EA, n, ec, CA, cn, cc, A3, m, c3⟩)) ((wr).setRow (w.heap.size + 1) #[.int .i16 x0, .int .i16 x1, .int .i16 x2, .int .i16 x3, .slice EA (n) ec, .slice CA cn cc, .slice A3 m c3]) :=
            ⟨⟨⟨x0, x1, x2, x3, es, pr.take 30, ps.take m⟩, EA, n, ec, CA, cn, cc, A3, m, c3⟩, rfl, HRows.out, ⟨hbx, He3.out, fun x hx => HPB.out x (List.mem_of_mem_take hx), fun x hx => HPs.out x (List.mem_of_mem_take hx)⟩, ⟨by show n ≤ 10000; omega, by show cn ≤ 10000; omega, by show m ≤ 10000; omega⟩, rfl, HPm.out, rfl, by show n ≤ 41; omega, hm1, hcn, HBl.out, HSf.out.qa.cap⟩
          exact bodyPost_ret (v := GlV.val ⟨⟨x0, x1, x2, x3, es, pr.take 30, ps.take m⟩, EA, n, ec, CA, cn, cc, A3, m, c3⟩) (results_cell_row Try.results16 _ _ (w.heap.size + 1) 29 _ (0, 0) _ rfl KR.out Try.underlying29 rfl (glSize rfl)) rfl HM
        · have hm4 : 0 < (m : Int) := by omega
          by_cases hn0 : n = 0
          · subst hn0
            have hA := (Below.refl wr.heap.size wr).alloc (Nat.le_refl _) (.cells #[.int .u16 ((m : Int) - 1)] 54)
            have hs2 := hs.below hA
            have hrow := row_one wr .u16 ((m : Int) - 1) 54
            clear hA hs
            go_wp2_with (first | (at_builtin; refine wpList_append_row rfl (.tmp 78) (.tmp 82) _ rfl 54 .u16 w.heap.size i2 2 Try.underlying27 hi2 hz02 hz12 hz22 EA 0 ec _ rfl hs2.ea (some ⟨wr.heap.size, 0, none⟩) 1 1 [(m : Int) - 1] rfl hrow (by omega) (by omega) (by simp; omega) ?_; intro A5 c5 w5 hown5 hg5; have hs3 := hs2.appE hown5 hg5; have c4' := hs3.cell 4 _ rfl; have f4' := hs3.thaw 4; have hs4 : MW w (w5.setCell ⟨bx, 4, none⟩ (.slice A5 (0 + 1) c5)) (w.heap.size + 1) bx #[.int .i16 x0, .int .i16 x1, .int .i16 x2, .int .i16 x3, .slice A5 (0 + 1) c5, .slice CA cn cc, .slice A3 m c3] A5 (0 + 1) c5 (es ++ [(m : Int) - 1]) CA cn cc (pr.take 30) A3 m c3 (ps.take m) := hs3.set 4 (.slice A5 (0 + 1) c5); have HSf := Lib.hid hs4; have kr : (w5.setCell ⟨bx, 4, none⟩ (.slice A5 (0 + 1) c5)).heap[w.heap.size + 1]? = some (.cells #[.int .i16 0, .int .i16 0, .int .i16 0, .int .i16 0, .slice none 0 0, .slice none 0 0, .slice none 0 0] 29 (0, 0)) := hs4.out; obtain ⟨z0, z1, z2, z3, z4, z5, z6⟩ := cells7 hs4.box; clear hs4 hs3 hs2 hown5 hg5 hrow) | (with_reducible refine wpList_store_row rfl 29 (.tmp 8) (.tmp 85) rfl (w.heap.size + 1) #[.int .i16 x0, .int .i16 x1, .int .i16 x2, .int .i16 x3, .slice A5 (0 + 1) c5, .slice CA cn cc, .slice A3 m c3] rfl rfl 29 #[.int .i16 0, .int .i16 0, .int .i16 0, .int .i16 0, .slice none 0 0, .slice none 0 0, .slice none 0 0] kr (gl7 _ _ _ _ _ _ _ _ _ _ _ _ _).1 (gl7 _ _ _ _ _ _ _ _ _ _ _ _ _).2.1 (gl7 _ _ _ _ _ _ _ _ _ _ _ _ _).2.2 ?_))
            have KR := Lib.hid (setRow_heap (w5.setCell ⟨bx, 4, none⟩ (.slice A5 (0 + 1) c5)) (w.heap.size + 1) _ #[.int .i16 x0, .int .i16 x1, .int .i16 x2, .int .i16 x3, .slice A5 (0 + 1) c5, .slice CA cn cc, .slice A3 m c3] 29 (0, 0) kr)
            have HBl := Lib.hid (below_rowO (B := w.heap.size) (by omega : w.heap.size ≤ w.heap.size + 1) #[.int .i16 x0, .int .i16 x1, .int .i16 x2, .int .i16 x3, .slice A5 (0 + 1) c5, .slice CA cn cc, .slice A3 m c3] HSf.out.bel)
            have hpn := HSf.out.pa.len
            have HRows : Hid (GlV.rows ((w5.setCell ⟨bx, 4, none⟩ (.slice A5 (0 + 1) c5)).setRow (w.heap.size + 1) #[.int .i16 x0, .int .i16 x1, .int .i16 x2, .int .i16 x3, .slice A5 (0 + 1) c5, .slice CA cn cc, .slice A3 m c3]) ⟨⟨x0, x1, x2, x3, es ++ [(m : Int) - 1], pr.take 30, ps.take m⟩, A5, 0 + 1, c5, CA, cn, cc, A3, m, c3⟩) := ⟨HSf.out.ea.row.keep (by simp) (fun g e _ => setRow_other _ _ _ _ (own_neS HSf.out.ea kr (by decide) g e)), HSf.out.pa.row.keep (by simp) (fun g e _ => setRow_other _ _ _ _ (own_neS HSf.out.pa kr (by decide) g e)), (HSf.out.qa.row encSp_len).keep (by simp) (fun g e _ => setRow_other _ _ _ _ (ownS_ne HSf.out.qa kr (by decide) g e))⟩
            have hcn : cn ≤ 30 := by rw [← hpn, List.length_take]; omega
            have HM : RetMade w [x0, x1, x2, x3] ps pr (.returned (GlV.val ⟨⟨x0, x1, x2, x3, es ++ [(m : Int) - 1], pr.take 30, ps.take m⟩, A5, 0 + 1, c5, CA, cn, cc, A3, m, c3⟩)) ((w5.setCell ⟨bx, 4, none⟩ (.slice A5 (0 + 1) c5)).setRow (w.heap.size + 1) #[.int .i16 x0, .int .i16 x1, .int .i16 x2, .int .i16 x3, .slice A5 (0 + 1) c5, .slice CA cn cc, .slice A3 m c3]) :=
              ⟨⟨⟨x0, x1, x2, x3, es ++ [(m : Int) - 1], pr.take 30, ps.take m⟩, A5, 0 + 1, c5, CA, cn, cc, A3, m, c3⟩, rfl, HRows.out, ⟨hbx, mem_snoc_bd He3.out (by omega) (by omega), fun x hx => HPB.out x (List.mem_of_mem_take hx), fun x hx => HPs.out x (List.mem_of_mem_take hx)⟩, ⟨by show 0 + 1 ≤ 10000; omega, by show cn ≤ 10000; omega, by show m ≤ 10000; omega⟩, rfl, HPm.out, rfl, by show 0 + 1 ≤ 41; omega, hm1, hcn, HBl.out, HSf.out.qa.cap⟩
            exact bodyPost_ret (v := GlV.val ⟨⟨x0, x1, x2, x3, es ++ [(m : Int) - 1], pr.take 30, ps.take m⟩, A5, 0 + 1, c5, CA, cn, cc, A3, m, c3⟩) (results_cell_row Try.results16 _ _ (w.heap.size + 1) 29 _ (0, 0) _ rfl KR.out Try.underlying29 rfl (glSize rfl)) rfl HM
          · obtain ⟨y, hy⟩ : ∃ y, es[n - 1]? = some y := ⟨es[n - 1]'(by omega), List.getElem?_eq_getElem (by omega)⟩
            obtain ⟨y0, y1⟩ := e3 y (List.mem_of_getElem? hy)
            obtain ⟨ge, oe, rfl, hge, hce⟩ := hs.ea.row.at (cellsOf_get (k := .u16) hy)
            have hi0 : (0 : Int) ≤ (n : Int) - 1 := by omega
            have hi1 : (n : Int) - 1 < (n : Int) := by omega
            have hi2' : ((n : Int) - 1).toNat = n - 1 := by omega
            have hnn : ¬ ((n : Int) = 0) := by omega
            clear e3 hy
            by_cases hlt3 : y < (m : Int) - 1
            · skip
              have hA := (Below.refl wr.heap.size wr).alloc (Nat.le_refl _) (.cells #[.int .u16 ((m : Int) - 1)] 54)
              have hs2 := hs.below hA
              have hrow := row_one wr .u16 ((m : Int) - 1) 54
              clear hA hs
              go_wp2_with (first | (at_builtin; refine wpList_append_row rfl (.tmp 78) (.tmp 82) _ rfl 54 .u16 w.heap.size i2 2 Try.underlying27 hi2 hz02 hz12 hz22 (some ⟨ge, oe, none⟩) n ec _ rfl hs2.ea (some ⟨wr.heap.size, 0, none⟩) 1 1 [(m : Int) - 1] rfl hrow (by omega) (by omega) (by simp; omega) ?_; intro A5 c5 w5 hown5 hg5; have hs3 := hs2.appE hown5 hg5; have c4' := hs3.cell 4 _ rfl; have f4' := hs3.thaw 4; have hs4 : MW w (w5.setCell ⟨bx, 4, none⟩ (.slice A5 (n + 1) c5)) (w.heap.size + 1) bx #[.int .i16 x0, .int .i16 x1, .int .i16 x2, .int .i16 x3, .slice A5 (n + 1) c5, .slice CA cn cc, .slice A3 m c3] A5 (n + 1) c5 (es ++ [(m : Int) - 1]) CA cn cc (pr.take 30) A3 m c3 (ps.take m) := hs3.set 4 (.slice A5 (n + 1) c5); have HSf := Lib.hid hs4; have kr : (w5.setCell ⟨bx, 4, none⟩ (.slice A5 (n + 1) c5)).heap[w.heap.size + 1]? = some (.cells #[.int .i16 0, .int .i16 0, .int .i16 0, .int .i16 0, .slice none 0 0, .slice none 0 0, .slice none 0 0] 29 (0, 0)) := hs4.out; obtain ⟨z0, z1, z2, z3, z4, z5, z6⟩ := cells7 hs4.box; clear hs4 hs3 hs2 hown5 hg5 hrow) | (with_reducible refine wpList_store_row rfl 29 (.tmp 8) (.tmp 85) rfl (w.heap.size + 1) #[.int .i16 x0, .int .i16 x1, .int .i16 x2, .int .i16 x3, .slice A5 (n + 1) c5, .slice CA cn cc, .slice A3 m c3] rfl rfl 29 #[.int .i16 0, .int .i16 0, .int .i16 0, .int .i16 0, .slice none 0 0, .slice none 0 0, .slice none 0 0] kr (gl7 _ _ _ _ _ _ _ _ _ _ _ _ _).1 (gl7 _ _ _ _ _ _ _ _ _ _ _ _ _).2.1 (gl7 _ _ _ _ _ _ _ _ _ _ _ _ _).2.2 ?_))
              have KR := Lib.hid (setRow_heap (w5.setCell ⟨bx, 4, none⟩ (.slice A5 (n + 1) c5)) (w.heap.size + 1) _ #[.int .i16 x0, .int .i16 x1, .int .i16 x2, .int .i16 x3, .slice A5 (n + 1) c5, .slice CA cn cc, .slice A3 m c3] 29 (0, 0) kr)
              have HBl := Lib.hid (below_rowO (B := w.heap.size) (by omega : w.heap.size ≤ w.heap.size + 1) #[.int .i16 x0, .int .i16 x1, .int .i16 x2, .int .i16 x3, .slice A5 (n + 1) c5, .slice CA cn cc, .slice A3 m c3] HSf.out.bel)
              have hpn := HSf.out.pa.len
              have HRows : Hid (GlV.rows ((w5.setCell ⟨bx, 4, none⟩ (.slice A5 (n + 1) c5)).setRow (w.heap.size + 1) #[.int .i16 x0, .int .i16 x1, .int .i16 x2, .int .i16 x3, .slice A5 (n + 1) c5, .slice CA cn cc, .slice A3 m c3]) ⟨⟨x0, x1, x2, x3, es ++ [(m : Int) - 1], pr.take 30, ps.take m⟩, A5, n + 1, c5, CA, cn, cc, A3, m, c3⟩) := ⟨HSf.out.ea.row.keep (by simp) (fun g e _ => setRow_other _ _ _ _ (own_neS HSf.out.ea kr (by decide) g e)), HSf.out.pa.row.keep (by simp) (fun g e _ => setRow_other _ _ _ _ (own_neS HSf.out.pa kr (by decide) g e)), (HSf.out.qa.row encSp_len).keep (by simp) (fun g e _ => setRow_other _ _ _ _ (ownS_ne HSf.out.qa kr (by decide) g e))⟩
              have hcn : cn ≤ 30 := by rw [← hpn, List.length_take]; omega
              have HM : RetMade w [x0, x1, x2, x3] ps pr (.returned (GlV.val ⟨⟨x0, x1, x2, x3, es ++ [(m : Int) - 1], pr.take 30, ps.take m⟩, A5, n + 1, c5, CA, cn, cc, A3, m, c3⟩)) ((w5.setCell ⟨bx, 4, none⟩ (.slice A5 (n + 1) c5)).setRow (w.heap.size + 1) #[.int .i16 x0, .int .i16 x1, .int .i16 x2, .int .i16 x3, .slice A5 (n + 1) c5, .slice CA cn cc, .slice A3 m c3]) :=
                ⟨⟨⟨x0, x1, x2, x3, es ++ [(m : Int) - 1], pr.take 30, ps.take m⟩, A5, n + 1, c5, CA, cn, cc, A3, m, c3⟩, rfl, HRows.out, ⟨hbx, mem_snoc_bd He3.out (by omega) (by omega), fun x hx => HPB.out x (List.mem_of_mem_take hx), fun x hx => HPs.out x (List.mem_of_mem_take hx)⟩, ⟨by show n + 1 ≤ 10000; omega, by show cn ≤ 10000; omega, by show m ≤ 10000; omega⟩, rfl, HPm.out, rfl, by show n + 1 ≤ 41; omega, hm1, hcn, HBl.out, HSf.out.qa.cap⟩
              exact bodyPost_ret (v := GlV.val ⟨⟨x0, x1, x2, x3, es ++ [(m : Int) - 1], pr.take 30, ps.take m⟩, A5, n + 1, c5, CA, cn, cc, A3, m, c3⟩) (results_cell_row Try.results16 _ _ (w.heap.size + 1) 29 _ (0, 0) _ rfl KR.out Try.underlying29 rfl (glSize rfl)) rfl HM
            · skip
              have kr : wr.heap[w.heap.size + 1]? = some (.cells #[.int .i16 0, .int .i16 0, .int .i16 0, .int .i16 0, .slice none 0 0, .slice none 0 0, .slice none 0 0] 29 (0, 0)) := hs.out
              obtain ⟨z0, z1, z2, z3, z4, z5, z6⟩ := cells7 hs.box
              have HSf := Lib.hid hs
              clear hs c4
              go_wp2_with (with_reducible refine wpList_store_row rfl 29 (.tmp 8) (.tmp 85) rfl (w.heap.size + 1) #[.int .i16 x0, .int .i16 x1, .int .i16 x2, .int .i16 x3, .slice (some ⟨ge, oe, none⟩) (n) ec, .slice CA cn cc, .slice A3 m c3] rfl rfl 29 #[.int .i16 0, .int .i16 0, .int .i16 0, .int .i16 0, .slice none 0 0, .slice none 0 0, .slice none 0 0] kr (gl7 _ _ _ _ _ _ _ _ _ _ _ _ _).1 (gl7 _ _ _ _ _ _ _ _ _ _ _ _ _).2.1 (gl7 _ _ _ _ _ _ _ _ _ _ _ _ _).2.2 ?_)
              have KR := Lib.hid (setRow_heap (wr) (w.heap.size + 1) _ #[.int .i16 x0, .int .i16 x1, .int .i16 x2, .int .i16 x3, .slice (some ⟨ge, oe, none⟩) (n) ec, .slice CA cn cc, .slice A3 m c3] 29 (0, 0) kr)
              have HBl := Lib.hid (below_rowO (B := w.heap.size) (by omega : w.heap.size ≤ w.heap.size + 1) #[.int .i16 x0, .int .i16 x1, .int .i16 x2, .int .i16 x3, .slice (some ⟨ge, oe, none⟩) (n) ec, .slice CA cn cc, .slice A3 m c3] HSf.out.bel)
              have hpn := HSf.out.pa.len
              have HRows : Hid (GlV.rows ((wr).setRow (w.heap.size + 1) #[.int .i16 x0, .int .i16 x1, .int .i16 x2, .int .i16 x3, .slice (some ⟨ge, oe, none⟩) (n) ec, .slice CA cn cc, .slice A3 m c3]) ⟨⟨x0, x1, x2, x3, es, pr.take 30, ps.take m⟩, (some ⟨ge, oe, none⟩), n, ec, CA, cn, cc, A3, m, c3⟩) := ⟨HSf.out.ea.row.keep (by simp) (fun g e _ => setRow_other _ _ _ _ (own_neS HSf.out.ea kr (by decide) g e)), HSf.out.pa.row.keep (by simp) (fun g e _ => setRow_other _ _ _ _ (own_neS HSf.out.pa kr (by decide) g e)), (HSf.out.qa.row encSp_len).keep (by simp) (fun g e _ => setRow_other _ _ _ _ (ownS_ne HSf.out.qa kr (by decide) g e))⟩
              have hcn : cn ≤ 30 := by rw [← hpn, List.length_take]; omega
              have HM : RetMade w [x0, x1, x2, x3] ps pr (.returned (GlV.val ⟨⟨x0, x1, x2, x3, es, pr.take 30, ps.take m⟩, (some ⟨ge, oe, none⟩), n, ec, CA, cn, cc, A3, m, c3⟩)) ((wr).setRow (w.heap.size + 1) #[.int .i16 x0, .int .i16 x1, .int .i16 x2, .int .i16 x3, .slice (some ⟨ge, oe, none⟩) (n) ec, .slice CA cn cc, .slice A3 m c3]) :=
                ⟨⟨⟨x0, x1, x2, x3, es, pr.take 30, ps.take m⟩, (some ⟨ge, oe, none⟩), n, ec, CA, cn, cc, A3, m, c3⟩, rfl, HRows.out, ⟨hbx, He3.out, fun x hx => HPB.out x (List.mem_of_mem_take hx), fun x hx => HPs.out x (List.mem_of_mem_take hx)⟩, ⟨by show n ≤ 10000; omega, by show cn ≤ 10000; omega, by show m ≤ 10000; omega⟩, rfl, HPm.out, rfl, by show n ≤ 41; omega, hm1, hcn, HBl.out, HSf.out.qa.cap⟩
              exact bodyPost_ret (v := GlV.val ⟨⟨x0, x1, x2, x3, es, pr.take 30, ps.take m⟩, (some ⟨ge, oe, none⟩), n, ec, CA, cn, cc, A3, m, c3⟩) (results_cell_row Try.results16 _ _ (w.heap.size + 1) 29 _ (0, 0) _ rfl KR.out Try.underlying29 rfl (glSize rfl)) rfl HM

end Go.Proofs.Ytlcnonhebppeiaa

/- simple: what is written is read again; more behind it says nothing: plain lists. -/
namespace Go.Proofs.Ytlcnonhebppeiaa
open Go.RowKit
set_option linter.unusedVariables false

theorem drop_len {A B : List Int} {i : Nat} (h : A.length = i) : (A ++ B).drop i = B := by subst h; simp
theorem n2at_mid {zs A C : List Int} {x : Int} {i : Nat} (h : zs = A ++ (b2 x ++ C)) (hA : A.length = i) (h0 : 0 ≤ x) (h1 : x < 65536) : n2at zs i = x := by
  refine n2at_of ?_ h0 h1
  rw [h, drop_len hA]
  rfl
theorem n1at_mid {zs A C : List Int} {x : Int} {i : Nat} (h : zs = A ++ (x :: C)) (hA : A.length = i) : n1at zs i = x := by
  refine n1at_get ?_
  subst hA
  rw [h]
  simp
theorem sgn_mod {x : Int} (h0 : -32768 ≤ x) (h1 : x ≤ 32767) : sgn (x % 65536) = x := by unfold sgn; split <;> omega

/-- What counts of a flag. -/
def core (v : Int) : Bool × Bool × Bool × Bool × Bool := (fb v 1, fb v 2, fb v 4, fb v 16, fb v 32)
theorem core8 {f : Int} (h : f ∈ flagsAll) : core (f + 8) = core f ∧ fb f 8 = false ∧ fb f 128 = false ∧ fb (f + 8) 8 = true ∧ fb (f + 8) 128 = false := by
  have : ∀ f ∈ flagsAll, core (f + 8) = core f ∧ fb f 8 = false ∧ fb f 128 = false ∧ fb (f + 8) 8 = true ∧ fb (f + 8) 128 = false := by decide +kernel
  exact this f h

theorem rle_dec (zs : List Int) (n : Nat) : ∀ (m : Nat) (r : List Int) (s : FS) (A C : List Int), r.length ≤ m → (∀ f ∈ r, f ∈ flagsAll) → zs = A ++ (rle r ++ C) → A.length = s.at_ → n = s.fl.length + r.length →
    ∃ t, fAll zs n s = some t ∧ t.fl.map core = s.fl.map core ++ r.map core ∧ t.at_ = s.at_ + (rle r).length := by
  intro m
  induction m with
  | zero =>
    intro r s A C hm hr hz hA hn
    obtain rfl : r = [] := List.eq_nil_of_length_eq_zero (by omega)
    exact ⟨s, fAll_done (by simp at hn; omega), by simp, by simp [rle_nil]⟩
  | succ m ih =>
    intro r s A C hm hr hz hA hn
    by_cases hne : r = []
    · subst hne
      exact ⟨s, fAll_done (by simp at hn; omega), by simp, by simp [rle_nil]⟩
    · have hp := rowOf_pos hne
      obtain ⟨hk1, hk2⟩ := rowOf_le r
      have htk := rowOf_take r
      have hst := rle_step hne
      have hrl : 0 < r.length := by omega
      have hf : r.headD 0 ∈ flagsAll := by
        refine hr _ ?_
        cases r with
        | nil => exact absurd rfl hne
        | cons x l => simp
      obtain ⟨e1, e2, e3, e4, e5⟩ := core8 hf
      unfold rleHead at hst
      generalize hk : rowOf r = k at *
      generalize hff : r.headD 0 = f at *
      have hsplit : r = List.replicate k f ++ r.drop k := by rw [← htk, List.take_append_drop]
      by_cases h1 : k = 1
      · rw [if_pos h1] at hst
        rw [hst] at hz ⊢
        have h1at : n1at zs s.at_ = f := n1at_mid (A := A) (C := rle (r.drop k) ++ C) (by rw [hz]; simp) hA
        have hM : fMore zs s.at_ = 0 := by unfold fMore; rw [h1at, e2]; rfl
        have hS : fSize zs s.at_ = 1 := by unfold fSize; rw [h1at, e2]; rfl
        have hok : fOk zs n s = true := by unfold fOk; rw [h1at, e3, hM]; simp; omega
        have hnx : fNext zs s = ⟨s.fl ++ [f], s.at_ + 1⟩ := by unfold fNext; rw [h1at, hM, hS]; rfl
        obtain ⟨t, ht1, ht2, ht3⟩ := ih (r.drop k) (fNext zs s) (A ++ [f]) C (by rw [List.length_drop]; omega) (fun x hx => hr x (List.mem_of_mem_drop hx)) (by rw [hz]; simp) (by rw [hnx]; simp [hA]) (by rw [hnx, List.length_drop]; simp; omega)
        refine ⟨t, by rw [fAll_step (by omega) hok]; exact ht1, ?_, ?_⟩
        · rw [ht2, hnx]
          conv => rhs; rw [hsplit, h1]
          rw [h1]
          simp
        · rw [ht3, hnx]
          simp
          omega
      · rw [if_neg h1] at hst
        rw [hst] at hz ⊢
        have h1at : n1at zs s.at_ = f + 8 := n1at_mid (A := A) (C := ((k : Int) - 1) :: (rle (r.drop k) ++ C)) (by rw [hz]; simp) hA
        have h2at : n1at zs (s.at_ + 1) = (k : Int) - 1 := n1at_mid (A := A ++ [f + 8]) (C := rle (r.drop k) ++ C) (by rw [hz]; simp) (by simp [hA])
        have hM : fMore zs s.at_ = k - 1 := by unfold fMore; rw [h1at, e4, h2at]; simp
        have hS : fSize zs s.at_ = 2 := by unfold fSize; rw [h1at, e4]; rfl
        have hok : fOk zs n s = true := by unfold fOk; rw [h1at, e5, hM]; simp; omega
        have hnx : fNext zs s = ⟨s.fl ++ List.replicate k (f + 8), s.at_ + 2⟩ := by unfold fNext; rw [h1at, hM, hS, show k - 1 + 1 = k by omega]
        obtain ⟨t, ht1, ht2, ht3⟩ := ih (r.drop k) (fNext zs s) (A ++ [f + 8, (k : Int) - 1]) C (by rw [List.length_drop]; omega) (fun x hx => hr x (List.mem_of_mem_drop hx)) (by rw [hz]; simp) (by rw [hnx]; simp [hA]) (by rw [hnx, List.length_drop]; simp; omega)
        refine ⟨t, by rw [fAll_step (by omega) hok]; exact ht1, ?_, ?_⟩
        · rw [ht2, hnx]
          conv => rhs; rw [hsplit]
          simp [e1]
        · rw [ht3, hnx]
          simp
          omega

/-- The bits that a flag has for a change. -/
def sbit (d : Int) : Bool := decide (d ≠ 0 ∧ -255 ≤ d ∧ d ≤ 255)
def pbit (d : Int) : Bool := decide (d = 0 ∨ (0 < d ∧ d ≤ 255))
theorem bitsV_x (d : Int) : (bitsV d 2 16, sbit d, pbit d) ∈ ([(16, false, true), (18, true, true), (2, true, false), (0, false, false)] : List (Int × Bool × Bool)) := by
  unfold bitsV sbit pbit
  by_cases h0 : d = 0
  · simp [h0]
  · by_cases h1 : -255 ≤ d ∧ d ≤ 255
    · by_cases h2 : 0 < d
      · simp [h0, h1, h2]
      · simp [h0, h1, h2]
    · have h3 : ¬ (0 < d ∧ d ≤ 255) := by omega
      simp [h0, h1]
      omega
theorem bitsV_y (d : Int) : (bitsV d 4 32, sbit d, pbit d) ∈ ([(32, false, true), (36, true, true), (4, true, false), (0, false, false)] : List (Int × Bool × Bool)) := by
  unfold bitsV sbit pbit
  by_cases h0 : d = 0
  · simp [h0]
  · by_cases h1 : -255 ≤ d ∧ d ≤ 255
    · by_cases h2 : 0 < d
      · simp [h0, h1, h2]
      · simp [h0, h1, h2]
    · have h3 : ¬ (0 < d ∧ d ≤ 255) := by omega
      simp [h0, h1]
      omega
theorem flag_core (dx dy : Int) (on : Bool) : core (flagOf dx dy on) = (on, sbit dx, sbit dy, pbit dx, pbit dy) := by
  have hx := bitsV_x dx
  have hy := bitsV_y dy
  unfold flagOf
  simp only [List.mem_cons, Prod.mk.injEq, List.not_mem_nil, or_false] at hx hy
  rcases hx with ⟨h1, h2, h3⟩ | ⟨h1, h2, h3⟩ | ⟨h1, h2, h3⟩ | ⟨h1, h2, h3⟩ <;> rcases hy with ⟨k1, k2, k3⟩ | ⟨k1, k2, k3⟩ | ⟨k1, k2, k3⟩ | ⟨k1, k2, k3⟩ <;> rw [h1, h2, h3, k1, k2, k3] <;> cases on <;> decide

theorem cwB_cb (d : Int) : cwB (sbit d) (pbit d) = (cb d).length := by
  unfold cb
  by_cases h0 : d = 0
  · simp [h0, sbit, pbit, cwB]
  · rw [if_neg h0]
    by_cases h1 : -255 ≤ d ∧ d ≤ 255
    · rw [if_pos h1]
      simp [h0, h1, sbit, cwB]
    · rw [if_neg h1]
      have : pbit d = false := by unfold pbit; rw [decide_eq_false_iff_not]; omega
      rw [this]
      simp [h0, h1, sbit, cwB, b2]
theorem cvB_cb {zs A C : List Int} {d : Int} {p : Nat} (h : zs = A ++ (cb d ++ C)) (hA : A.length = p) (h0 : -32768 ≤ d) (h1 : d ≤ 32767) : cvB zs (sbit d) (pbit d) p = d := by
  unfold cb at h
  by_cases hd : d = 0
  · simp [hd, sbit, pbit, cvB]
  · rw [if_neg hd] at h
    by_cases hs : -255 ≤ d ∧ d ≤ 255
    · rw [if_pos hs] at h
      have hv : n1at zs p = max d (-d) := n1at_mid (A := A) (C := C) (by rw [h]; simp) hA
      have hsb : sbit d = true := by unfold sbit; rw [decide_eq_true_eq]; exact ⟨hd, hs⟩
      unfold cvB
      rw [hsb, if_pos rfl, hv]
      by_cases hp : 0 < d
      · have : pbit d = true := by unfold pbit; rw [decide_eq_true_eq]; omega
        rw [this, if_pos rfl]
        omega
      · have : pbit d = false := by unfold pbit; rw [decide_eq_false_iff_not]; omega
        rw [this, if_neg (by decide)]
        omega
    · rw [if_neg hs] at h
      have hv : n2at zs p = d % 65536 := n2at_mid h hA (by omega) (by omega)
      have hsb : sbit d = false := by unfold sbit; rw [decide_eq_false_iff_not]; omega
      have hpb : pbit d = false := by unfold pbit; rw [decide_eq_false_iff_not]; omega
      unfold cvB
      rw [hsb, hpb, if_neg (by decide), if_neg (by decide), hv]
      exact sgn_mod h0 h1

theorem ahd_chA (xs : List Int) (k : Nat) : ahd xs (k + 1) = ahd xs k + chA xs k := by
  unfold ahd chA
  rw [if_neg (by omega), Nat.add_sub_cancel]
  split <;> omega
theorem pk_dec {zs : List Int} {sh pl : Int} {fl xs : List Int} {a : Nat} {A C : List Int} (hz : zs = A ++ (cbs (chs xs) ++ C)) (hA : A.length = a)
    (hb : ∀ i, i < xs.length → fb (fl.getD i 0) sh = sbit (chA xs i) ∧ fb (fl.getD i 0) pl = pbit (chA xs i)) (hd : ∀ d ∈ chs xs, -32768 ≤ d ∧ d ≤ 32767) :
    ∀ k, k ≤ xs.length → pkAt zs sh pl fl a k = (a + (cbs ((chs xs).take k)).length, ahd xs k) := by
  intro k
  induction k with
  | zero => intro _; simp [pkAt, cbs, ahd]
  | succ k ih =>
    intro hk
    have h := ih (by omega)
    obtain ⟨b1, b2⟩ := hb k (by omega)
    have hget := chs_get xs (i := k) (by omega)
    have hc := cbs_cut (chs xs) hget
    have hs := cbs_snoc hget
    obtain ⟨d0, d1⟩ := hd _ (List.mem_of_getElem? hget)
    unfold pkAt
    rw [h, hs, List.length_append, ← cwB_cb, ahd_chA]
    have hv : cv zs sh pl (fl.getD k 0) (a + (cbs ((chs xs).take k)).length) = chA xs k := by
      rw [← cvB_eq, b1, b2]
      exact cvB_cb (A := A ++ cbs ((chs xs).take k)) (C := cbs ((chs xs).drop (k + 1)) ++ C) (by rw [hz, hc]; simp) (by rw [List.length_append, hA]) d0 d1
    rw [← cwB_eq, b1, b2]
    simp only [hv]
    rw [Nat.add_assoc]

theorem ahd_get {xs : List Int} {k : Nat} {x : Int} (h : xs[k]? = some x) : ahd xs (k + 1) = x := by
  unfold ahd
  rw [if_neg (by omega), Nat.add_sub_cancel]
  simp [h]
theorem ahd_bd {xs : List Int} (h : ∀ x ∈ xs, -32768 ≤ x ∧ x ≤ 32767) (k : Nat) : -32768 ≤ ahd xs k ∧ ahd xs k ≤ 32767 := by
  unfold ahd
  split
  · omega
  · rw [List.getD_eq_getElem?_getD]
    cases h2 : xs[k - 1]? with
    | none => simp
    | some x => exact h x (List.mem_of_getElem? h2)
theorem pkOk_of {zs : List Int} {sh pl : Int} {fl xs : List Int} {a : Nat} (hx : ∀ x ∈ xs, -32768 ≤ x ∧ x ≤ 32767) (h : ∀ k, k ≤ xs.length → (pkAt zs sh pl fl a k).2 = ahd xs k) : pkOk zs sh pl fl a xs.length = true := by
  unfold pkOk
  rw [List.all_eq_true]
  intro i hi
  rw [h (i + 1) (by have := List.mem_range.1 hi; omega)]
  obtain ⟨h0, h1⟩ := ahd_bd hx (i + 1)
  exact fitsB_of h0 h1

theorem endB_cut (l : List Int) {k : Nat} {x : Int} (h : l[k]? = some x) : endB l = endB (l.take k) ++ (b2 x ++ endB (l.drop (k + 1))) := by
  obtain ⟨hk, rfl⟩ := List.getElem?_eq_some_iff.1 h
  conv => lhs; rw [← List.take_append_drop k l, List.drop_eq_getElem_cons hk]
  unfold endB
  rw [List.flatMap_append, List.flatMap_cons]

/-- What is written is read. -/
theorem oParse_oB (g : Gl) (ho : g.ok) (hr : oRight g = true) : oParse (oB g) = some (g, (oB g).length) := by
  obtain ⟨⟨r1, r2, r3, r4⟩, hcx, hcy⟩ := oRight_parts hr
  obtain ⟨x0, x1, x2, x3, es, pr, ps⟩ := g
  obtain ⟨hbx, hes, hpr, hps⟩ := ho
  simp only at r1 r2 r3 r4 hcx hcy hes hpr hps
  simp only [Gl.box] at hbx
  generalize hzs : oB ⟨x0, x1, x2, x3, es, pr, ps⟩ = zs
  have hz : zs = b2 es.length ++ (boxB [x0, x1, x2, x3] ++ (endB es ++ (b2 pr.length ++ (pr ++ (rle (fls ps) ++ (cbs (chs (xsOf ps)) ++ cbs (chs (ysOf ps)))))))) := by
    rw [← hzs]
    simp [oB, oFront, Gl.box]
  have hn : n2at zs 0 = (es.length : Int) := n2at_mid (A := []) hz rfl (by omega) (by omega)
  have hnt : (n2at zs 0).toNat = es.length := by omega
  have hb0 := hbx x0 (by simp)
  have hb1 := hbx x1 (by simp)
  have hb2 := hbx x2 (by simp)
  have hb3 := hbx x3 (by simp)
  have hB : boxB [x0, x1, x2, x3] = b2 (x0 % 65536) ++ (b2 (x1 % 65536) ++ (b2 (x2 % 65536) ++ b2 (x3 % 65536))) := by simp [boxB]
  have h2 : n2at zs 2 = x0 % 65536 := n2at_mid (A := b2 es.length) (C := _) (by rw [hz, hB]; simp; rfl) rfl (by omega) (by omega)
  have h4 : n2at zs 4 = x1 % 65536 := n2at_mid (A := b2 es.length ++ b2 (x0 % 65536)) (C := _) (by rw [hz, hB]; simp; rfl) rfl (by omega) (by omega)
  have h6 : n2at zs 6 = x2 % 65536 := n2at_mid (A := b2 es.length ++ (b2 (x0 % 65536) ++ b2 (x1 % 65536))) (C := _) (by rw [hz, hB]; simp; rfl) rfl (by omega) (by omega)
  have h8 : n2at zs 8 = x3 % 65536 := n2at_mid (A := b2 es.length ++ (b2 (x0 % 65536) ++ (b2 (x1 % 65536) ++ b2 (x2 % 65536)))) (C := _) (by rw [hz, hB]; simp; rfl) rfl (by omega) (by omega)
  have hE : oEs zs es.length = es := by
    apply List.ext_getElem?
    intro i
    by_cases hi : i < es.length
    · rw [oEs_get zs hi, List.getElem?_eq_getElem hi]
      have hg : es[i]? = some es[i] := List.getElem?_eq_getElem hi
      have hxx := hes _ (List.mem_of_getElem? hg)
      rw [n2at_mid (A := b2 es.length ++ (boxB [x0, x1, x2, x3] ++ endB (es.take i))) (C := _) (by rw [hz, endB_cut es hg]; simp; rfl) (by rw [List.length_append, List.length_append, boxB_len, endB_len, List.length_take]; simp [b2]; omega) hxx.1 hxx.2]
    · rw [List.getElem?_eq_none (by rw [oEs_len]; omega), List.getElem?_eq_none (by omega)]
  have hS : n2at zs (10 + 2 * es.length) = (pr.length : Int) := n2at_mid (A := b2 es.length ++ (boxB [x0, x1, x2, x3] ++ endB es)) (C := _) (by rw [hz]; simp; rfl) (by rw [List.length_append, List.length_append, boxB_len, endB_len]; simp [b2]; omega) (by omega) (by omega)
  have hSz : oSz zs es.length = pr.length := by unfold oSz; rw [hS]; omega
  have hP : (zs.drop (12 + 2 * es.length)).take pr.length = pr := by
    rw [show zs = (b2 es.length ++ (boxB [x0, x1, x2, x3] ++ (endB es ++ b2 pr.length))) ++ (pr ++ (rle (fls ps) ++ (cbs (chs (xsOf ps)) ++ cbs (chs (ysOf ps))))) by rw [hz]; simp, drop_len (by rw [List.length_append, List.length_append, List.length_append, boxB_len, endB_len]; simp [b2]; omega)]
    simp
  have hA : oA zs es.length = 12 + 2 * es.length + pr.length := by unfold oA; rw [hSz]
  obtain ⟨s, hs1, hs2, hs3⟩ := rle_dec zs (cntE es) (fls ps).length (fls ps) ⟨[], oA zs es.length⟩ (b2 es.length ++ (boxB [x0, x1, x2, x3] ++ (endB es ++ (b2 pr.length ++ pr)))) (cbs (chs (xsOf ps)) ++ cbs (chs (ysOf ps))) (Nat.le_refl _) (fls_in ps) (by rw [hz]; simp) (by rw [hA]; rw [List.length_append, List.length_append, List.length_append, List.length_append, boxB_len, endB_len]; simp [b2]; omega) (by unfold fls; rw [flK_len, ← r4]; simp)
  simp only [List.map_nil, List.nil_append] at hs2
  have hsl : s.fl.length = ps.length := by
    have := congrArg List.length hs2
    rw [List.length_map, List.length_map] at this
    rw [this]
    exact flK_len _ _
  have hcore : ∀ i, i < ps.length → core (s.fl.getD i 0) = ((ps.getD i (0, 0, false)).2.2, sbit (chA (xsOf ps) i), sbit (chA (ysOf ps) i), pbit (chA (xsOf ps) i), pbit (chA (ysOf ps) i)) := by
    intro i hi
    have h1 := congrArg (fun l : List _ => l[i]?) hs2
    simp only [List.getElem?_map] at h1
    rw [show (fls ps)[i]? = some (flA ps i) from flK_get ps hi] at h1
    have h2 : s.fl[i]? = some (s.fl.getD i 0) := by rw [List.getD_eq_getElem?_getD, List.getElem?_eq_getElem (by omega)]; rfl
    rw [h2] at h1
    simp only [Option.map_some, Option.some.injEq] at h1
    rw [h1]
    unfold flA
    exact flag_core _ _ _
  have hbits := fun i hi => (Prod.mk.inj (hcore i hi))
  have hX := pk_dec (zs := zs) (sh := 2) (pl := 16) (fl := s.fl) (xs := xsOf ps) (a := s.at_) (A := b2 es.length ++ (boxB [x0, x1, x2, x3] ++ (endB es ++ (b2 pr.length ++ (pr ++ rle (fls ps)))))) (C := cbs (chs (ysOf ps))) (by rw [hz]; simp) (by
    rw [hs3, hA]
    rw [List.length_append, List.length_append, List.length_append, List.length_append, List.length_append, boxB_len, endB_len]
    simp [b2]
    omega) (fun i hi => by
    rw [xsOf_len] at hi
    have h1 := hcore i hi
    simp only [core, Prod.mk.injEq] at h1
    exact ⟨h1.2.1, h1.2.2.2.1⟩) hcx
  have hXe : oXe zs s = s.at_ + (cbs (chs (xsOf ps))).length := by
    unfold oXe
    rw [hsl, ← xsOf_len ps, hX _ (Nat.le_refl _)]
    rw [List.take_of_length_le (by rw [chs_len]; exact Nat.le_refl _)]
  have hY := pk_dec (zs := zs) (sh := 4) (pl := 32) (fl := s.fl) (xs := ysOf ps) (a := oXe zs s) (A := b2 es.length ++ (boxB [x0, x1, x2, x3] ++ (endB es ++ (b2 pr.length ++ (pr ++ (rle (fls ps) ++ cbs (chs (xsOf ps)))))))) (C := []) (by rw [hz]; simp) (by
    rw [hXe, hs3, hA]
    rw [List.length_append, List.length_append, List.length_append, List.length_append, List.length_append, List.length_append, boxB_len, endB_len]
    simp [b2]
    omega) (fun i hi => by
    rw [ysOf_len] at hi
    have h1 := hcore i hi
    simp only [core, Prod.mk.injEq] at h1
    exact ⟨h1.2.2.1, h1.2.2.2.2⟩) hcy
  have hEn : oEnd zs s = zs.length := by
    unfold oEnd
    rw [hsl, ← ysOf_len ps, hY _ (Nat.le_refl _)]
    rw [List.take_of_length_le (by rw [chs_len]; exact Nat.le_refl _), hXe, hs3, hA, hz]
    simp only [List.length_append, boxB_len, endB_len]
    simp [b2]
    omega
  have hpsx : ∀ x ∈ xsOf ps, -32768 ≤ x ∧ x ≤ 32767 := by
    intro x hx
    simp only [xsOf, List.mem_map] at hx
    obtain ⟨p, hp, rfl⟩ := hx
    exact (hps p hp).1
  have hpsy : ∀ x ∈ ysOf ps, -32768 ≤ x ∧ x ≤ 32767 := by
    intro x hx
    simp only [ysOf, List.mem_map] at hx
    obtain ⟨p, hp, rfl⟩ := hx
    exact (hps p hp).2
  have hPk : oPk zs s = true := by
    unfold oPk
    have e1 := pkOk_of (zs := zs) (sh := 2) (pl := 16) (fl := s.fl) (a := s.at_) hpsx (fun k hk => by rw [hX k hk])
    have e2 := pkOk_of (zs := zs) (sh := 4) (pl := 32) (fl := s.fl) (a := oXe zs s) hpsy (fun k hk => by rw [hY k hk])
    rw [xsOf_len] at e1
    rw [ysOf_len] at e2
    rw [hsl, e1, e2]
    rfl
  have hgood : oGood zs s := ⟨by omega, by rw [hnt, hE]; exact r3, by rw [hnt]; unfold oFs; rw [hE]; exact hs1, hPk⟩
  have hPs : oPs zs s ps.length = ps := by
    apply List.ext_getElem?
    intro i
    by_cases hi : i < ps.length
    · have hg : ps[i]? = some ps[i] := List.getElem?_eq_getElem hi
      have hx : (xsOf ps)[i]? = some ps[i].1 := by simp [xsOf, hi]
      have hy : (ysOf ps)[i]? = some ps[i].2.1 := by simp [ysOf, hi]
      have h1 := hcore i hi
      simp only [core, Prod.mk.injEq] at h1
      rw [hg]
      unfold oPs
      rw [List.getElem?_map, List.getElem?_range hi, Option.map_some, hX (i + 1) (by rw [xsOf_len]; omega), hY (i + 1) (by rw [ysOf_len]; omega), ahd_get hx, ahd_get hy, h1.1]
      simp [hg]
    · rw [List.getElem?_eq_none (by rw [oPs_len]; omega), List.getElem?_eq_none (by omega)]
  rw [oParse_some hgood (by omega), hEn]
  rw [oTold_eq hgood (by omega)]
  unfold oGl
  rw [hnt, hE, hSz, hP, hsl, hPs, h2, h4, h6, h8, sgn_mod hb0.1 hb0.2, sgn_mod hb1.1 hb1.2, sgn_mod hb2.1 hb2.2, sgn_mod hb3.1 hb3.2]

end Go.Proofs.Ytlcnonhebppeiaa
