/- The document's outline of simple's: own, as a contract over this seat's translation. -/
import Derived.Test.YtlcnonhebppeiaaSimE2
import Derived.Test.YtlcnonhebppeiaaSimR
import Derived.Test.YtlcnonhebppeiaaSimT
import Derived.Test.YtlcnonhebppeiaaWrBox
import Derived.Laws.Rows
import Derived.Laws.Tables
namespace Go.Proofs.Ytlcnonhebppeiaa
open Go.RowKit
set_option linter.unusedVariables false

def encRp (p : Sp) : List Value := [.int .i64 p.1, .int .i64 p.2.1, .bool p.2.2]
theorem encRp_len (p : Sp) : (encRp p).length = 3 := rfl
theorem encRp_one (p : Sp) : ∀ u ∈ encRp p, u.oneCell' = true := by intro u hu; simp [encRp] at hu; rcases hu with rfl | rfl | rfl <;> rfl
theorem Try.rpinfo : (Try.prog.info? 107).map (fun i => (i.zero, i.size, i.bytes)) = some (some (.agg #[.int .i64 0, .int .i64 0, .bool false]), 3, 24) := by kernel_rfl
theorem atRp {w : World} {A : Option Addr} {n : Nat} {l : List Sp} {j : Nat} {x : Sp} (h : RowS encRp 3 w A n l) (hj : l[j]? = some x) :
    ∃ g off, A = some ⟨g, off, none⟩ ∧ g < w.heap.size ∧ w.cell? ⟨g, off + j * 3, none⟩ = some (.int .i64 x.1) ∧ w.cell? ⟨g, off + j * 3 + 1, none⟩ = some (.int .i64 x.2.1) ∧ w.cell? ⟨g, off + j * 3 + 2, none⟩ = some (.bool x.2.2) := by
  obtain ⟨g, off, e, hg, hc⟩ := h.at encRp_len (by omega) hj
  exact ⟨g, off, e, hg, hc 0 _ rfl, hc 1 _ rfl, hc 2 _ rfl⟩

/-- An outline of the document's own, as a value, and where its lists lie. -/
structure RlV where
  g : Gl
  IA : Option Addr
  n : Nat
  ic : Nat
  PA : Option Addr
  pn : Nat
  pc : Nat
  QA : Option Addr
  q : Nat
  qc : Nat
def RlV.cells (v : RlV) : Array Value := #[.int .i64 v.g.x0, .int .i64 v.g.x1, .int .i64 v.g.x2, .int .i64 v.g.x3, .slice v.IA v.n v.ic, .slice v.PA v.pn v.pc, .slice v.QA v.q v.qc]
def RlV.val (v : RlV) : Value := .agg v.cells
structure RlV.rows (w : World) (v : RlV) : Prop where
  es : Row w v.IA v.n (cellsOf .i64 v.g.es)
  pr : Row w v.PA v.pn (cellsOf .u8 v.g.pr)
  ps : RowS encRp 3 w v.QA v.q v.g.ps
theorem RlV.rows.below {w w' : World} {v : RlV} (h : v.rows w) (hb : Below w.heap.size w w') : v.rows w' := ⟨h.es.below hb, h.pr.below hb, h.ps.below hb⟩

theorem Try.rgsize : (Try.prog.info? 38).map (·.size) = some 7 := by kernel_rfl
theorem rg7 (x0 x1 x2 x3 : Int) (EA PA SA : Option Addr) (en ec pn pc sn sc : Nat) : (Try.prog.info? 38).map (·.size) = some (#[Value.int .i64 x0, .int .i64 x1, .int .i64 x2, .int .i64 x3, .slice EA en ec, .slice PA pn pc, .slice SA sn sc]).size ∧ (#[Value.int .i64 0, .int .i64 0, .int .i64 0, .int .i64 0, .slice none 0 0, .slice none 0 0, .slice none 0 0]).size = (#[Value.int .i64 x0, .int .i64 x1, .int .i64 x2, .int .i64 x3, .slice EA en ec, .slice PA pn pc, .slice SA sn sc]).size ∧ (#[Value.int .i64 x0, .int .i64 x1, .int .i64 x2, .int .i64 x3, .slice EA en ec, .slice PA pn pc, .slice SA sn sc].all (·.oneCell')) = true :=
  ⟨Try.rgsize, rfl, by rw [← Array.all_toList]; rfl⟩

/-- A block of an outline under way, with fresh lists; other blocks are kept. -/
structure OW (L : List (Nat × Array Value × TypeId)) (w wr : World) (bx : Nat) (cs : Array Value) (IA : Option Addr) (n ic : Nat) (es : List Int) (QA : Option Addr) (q qc : Nat) (ps : List Sp) : Prop where
  box : wr.heap[bx]? = some (.cells cs 38 (0, 0))
  ia : Own 3 .i64 wr w.heap.size IA n ic es
  qa : OwnS 107 encRp 3 wr w.heap.size QA q qc ps
  bel : Below w.heap.size w wr
  lx : w.heap.size ≤ bx
  kp : ∀ p ∈ L, wr.heap[p.1]? = some (.cells p.2.1 p.2.2 (0, 0))
  ks : ∀ p ∈ L, p.1 ≠ bx ∧ 3 ≠ p.2.2 ∧ 107 ≠ p.2.2
theorem ownS_ne {α : Type} {t t' : TypeId} {enc : α → List Value} {k : Nat} {w : World} {B g n c : Nat} {A : Option Addr} {l : List α} {cur : Array Value} (h : OwnS t enc k w B A n c l) (h' : w.heap[g]? = some (.cells cur t' (0, 0))) (ht : t ≠ t') : ∀ q, blockOf A = some q → q ≠ g := by
  intro q hq
  rintro rfl
  rcases h.shape with ⟨rfl, _⟩ | ⟨g', cur, rfl, _, _, hh, _⟩
  · simp [blockOf] at hq
  · simp [blockOf] at hq
    subst hq
    rw [hh] at h'
    simp at h'
    exact ht h'.2
theorem own_neSS {α : Type} {t t' : TypeId} {k : IntKind} {enc : α → List Value} {m : Nat} {w : World} {B B' n c n' c' : Nat} {A A' : Option Addr} {zs : List Int} {l : List α} (h : Own t k w B A n c zs) (h' : OwnS t' enc m w B' A' n' c' l) (ht : t ≠ t') : ∀ q, blockOf A = some q → some q ≠ blockOf A' := by
  intro q hq e
  rcases h'.shape with ⟨rfl, _⟩ | ⟨g', cur, rfl, _, _, hh, _⟩
  · simp [blockOf] at e
  · simp [blockOf] at e
    subst e
    exact own_neS h hh ht _ hq rfl
section
variable {L : List (Nat × Array Value × TypeId)} {w wr w' : World} {bx : Nat} {cs : Array Value} {IA QA : Option Addr} {n ic q qc : Nat} {es : List Int} {ps : List Sp}
theorem OW.below (h : OW L w wr bx cs IA n ic es QA q qc ps) (hb : Below wr.heap.size wr w') : OW L w w' bx cs IA n ic es QA q qc ps :=
  ⟨kept_block h.box hb, h.ia.below hb, h.qa.below hb, h.bel.trans (hb.mono h.bel.size), h.lx, fun p hp => kept_block (h.kp p hp) hb, h.ks⟩
theorem OW.drew (h : OW L w wr bx cs IA n ic es QA q qc ps) : OW L w wr.drew bx cs IA n ic es QA q qc ps := h.below (Below.refl _ _).drew
theorem OW.set (h : OW L w wr bx cs IA n ic es QA q qc ps) (j : Nat) (v : Value) : OW L w (wr.setCell ⟨bx, j, none⟩ v) bx (cs.setIfInBounds j v) IA n ic es QA q qc ps :=
  ⟨set_block h.box j v, h.ia.keep (fun g e => Below.heap_setCell wr _ v _ (own_neS h.ia h.box (by decide) g e)), h.qa.keep (fun g e => Below.heap_setCell wr _ v _ (ownS_ne h.qa h.box (by decide) g e)), h.bel.setCell (p := ⟨bx, j, none⟩) h.lx v, h.lx, fun p hp => (Below.heap_setCell wr _ v _ (h.ks p hp).1).trans (h.kp p hp), h.ks⟩
theorem OW.cell (h : OW L w wr bx cs IA n ic es QA q qc ps) (j : Nat) (v : Value) (hq : cs[j]? = some v) : wr.cell? ⟨bx, j, none⟩ = some v := (cell_of_row wr _ j _ _ _ h.box).trans hq
theorem OW.thaw (h : OW L w wr bx cs IA n ic es QA q qc ps) (o : Nat) : wr.frozen? ⟨bx, o, none⟩ = false := thawed h.box o
theorem OW.appI (h : OW L w wr bx cs IA n ic es QA q qc ps) {A2 : Option Addr} {n2 c2 : Nat} {es2 : List Int} (ho : Own 3 .i64 w' w.heap.size A2 n2 c2 es2) (hg : wr.grownBy w' (blockOf IA)) : OW L w w' bx cs A2 n2 c2 es2 QA q qc ps := by
  have hne : some bx ≠ blockOf IA := fun e => own_neS h.ia h.box (by decide) bx e.symm rfl
  exact ⟨(hg.block bx (lt_of_block h.box) hne).trans h.box, ho, h.qa.keep (fun g e => hg.block g (h.qa.from_ g e).2 (fun e2 => own_neSS h.ia h.qa (by decide) g e2.symm e.symm)), h.bel.grown hg h.bel.size (fun g e => (h.ia.from_ g e).1), h.lx, fun p hp => (hg.block p.1 (lt_of_block (h.kp p hp)) (fun e => own_neS h.ia (h.kp p hp) (h.ks p hp).2.1 p.1 e.symm rfl)).trans (h.kp p hp), h.ks⟩
theorem OW.appQ (h : OW L w wr bx cs IA n ic es QA q qc ps) {A2 : Option Addr} {n2 c2 : Nat} {ps2 : List Sp} (ho : OwnS 107 encRp 3 w' w.heap.size A2 n2 c2 ps2) (hg : wr.grownBy w' (blockOf QA)) : OW L w w' bx cs IA n ic es A2 n2 c2 ps2 := by
  have hne : some bx ≠ blockOf QA := fun e => ownS_ne h.qa h.box (by decide) bx e.symm rfl
  exact ⟨(hg.block bx (lt_of_block h.box) hne).trans h.box, h.ia.keep (fun g e => hg.block g (h.ia.from_ g e).2 (own_neSS h.ia h.qa (by decide) g e)), ho, h.bel.grown hg h.bel.size (fun g e => (h.qa.from_ g e).1), h.lx, fun p hp => (hg.block p.1 (lt_of_block (h.kp p hp)) (fun e => ownS_ne h.qa (h.kp p hp) (h.ks p hp).2.2 p.1 e.symm rfl)).trans (h.kp p hp), h.ks⟩
end

/-- The Box so far. -/
def rxAt (xs : List Int) (k j : Nat) : Int := if j < k then xs.getD j 0 else 0
def rxC (xs : List Int) (k : Nat) (P : Value) : Array Value := #[.int .i64 (rxAt xs k 0), .int .i64 (rxAt xs k 1), .int .i64 (rxAt xs k 2), .int .i64 (rxAt xs k 3), .slice none 0 0, P, .slice none 0 0]
theorem rxC_set (xs : List Int) (P : Value) {k : Nat} (h : k < 4) {x : Int} (hx : xs[k]? = some x) : (rxC xs k P).setIfInBounds k (.int .i64 x) = rxC xs (k + 1) P := by
  have : xs.getD k 0 = x := by simp [hx]
  match k, h with
  | 0, _ => simp [rxC, rxAt, hx]
  | 1, _ => simp [rxC, rxAt, hx]
  | 2, _ => simp [rxC, rxAt, hx]
  | 3, _ => simp [rxC, rxAt, hx]
theorem rxC_get (xs : List Int) (P : Value) {k : Nat} (h : k < 4) : (rxC xs k P)[k]? = some (.int .i64 0) := by
  match k, h with
  | 0, _ => simp [rxC, rxAt]
  | 1, _ => simp [rxC, rxAt]
  | 2, _ => simp [rxC, rxAt]
  | 3, _ => simp [rxC, rxAt]
theorem rxC_0 (xs : List Int) (P : Value) : rxC xs 0 P = #[.int .i64 0, .int .i64 0, .int .i64 0, .int .i64 0, .slice none 0 0, P, .slice none 0 0] := by simp [rxC, rxAt]
theorem rxC_4 (x0 x1 x2 x3 : Int) (P : Value) : rxC [x0, x1, x2, x3] 4 P = #[.int .i64 x0, .int .i64 x1, .int .i64 x2, .int .i64 x3, .slice none 0 0, P, .slice none 0 0] := by simp [rxC, rxAt]

/-- What own leaves. -/
def RetOwn (w : World) (v : GlV) (e : Ending) (w' : World) : Prop := ∃ r : RlV, e = .returned r.val ∧ r.rows w' ∧ r.g = v.g ∧ Below w.heap.size w w'

set_option maxRecDepth 100000 in
set_option maxHeartbeats 4000000 in
theorem oown_any (v : GlV) (w : World) (hr : v.rows w) (a1 : v.en ≤ 1000000) (a3 : v.sn ≤ 1000000) (ho : v.g.ok) : Calls Try.prog 20 #[v.val] w (RetOwn w v) := by
  obtain ⟨i0, hi, hz0, hz1, hz2⟩ := info_parts Try.i64info
  obtain ⟨i1, hi1, hz01, hz11, hz21⟩ := info_parts Try.rpinfo
  have hA := (Below.refl w.heap.size w).alloc (Nat.le_refl _) (.cells v.cells 29)
  have HE : Hid (v.g.es.length = v.en) := hr.es.len
  have HS : Hid (v.g.ps.length = v.sn) := hr.ps.len
  have Hre := Lib.hid hr.es
  have Hrp := Lib.hid hr.pr
  have Hrs := Lib.hid hr.ps
  have HEs := Lib.hid ho.es
  have HPs := Lib.hid ho.ps
  have Hbx := Lib.hid ho.bx
  have HRet : Hid (∀ (r : RlV) w', r.rows w' → r.g = v.g → Below w.heap.size w w' → RetOwn w v (.returned r.val) w') := fun r w' h1 h2 h3 => ⟨r, rfl, h1, h2, h3⟩
  clear hr ho
  unfold GlV.val at *
  unfold GlV.cells at *
  obtain ⟨⟨x0, x1, x2, x3, es, pr, ps⟩, EA, en, ec, PA, pn, pc, SA, sn, sc⟩ := v
  simp only at *
  have hA2 := hA.alloc hA.size (.cells #[.int .i64 0, .int .i64 0, .int .i64 0, .int .i64 0, .slice none 0 0, .slice none 0 0, .slice none 0 0] 38)
  have hbel := hA2.alloc hA2.size (.cells #[.int .i64 0, .int .i64 0, .int .i64 0, .int .i64 0, .slice none 0 0, .slice PA pn pc, .slice none 0 0] 38)
  have hkv : ((w.alloc (.cells #[.int .i16 x0, .int .i16 x1, .int .i16 x2, .int .i16 x3, .slice EA en ec, .slice PA pn pc, .slice SA sn sc] 29)).alloc (.cells #[.int .i64 0, .int .i64 0, .int .i64 0, .int .i64 0, .slice none 0 0, .slice none 0 0, .slice none 0 0] 38)).heap[w.heap.size]? = some (.cells #[.int .i16 x0, .int .i16 x1, .int .i16 x2, .int .i16 x3, .slice EA en ec, .slice PA pn pc, .slice SA sn sc] 29 (0, 0)) := kept_alloc (heap_alloc_new w _) _
  have hkr : ((w.alloc (.cells #[.int .i16 x0, .int .i16 x1, .int .i16 x2, .int .i16 x3, .slice EA en ec, .slice PA pn pc, .slice SA sn sc] 29)).alloc (.cells #[.int .i64 0, .int .i64 0, .int .i64 0, .int .i64 0, .slice none 0 0, .slice none 0 0, .slice none 0 0] 38)).heap[w.heap.size + 1]? = some (.cells #[.int .i64 0, .int .i64 0, .int .i64 0, .int .i64 0, .slice none 0 0, .slice none 0 0, .slice none 0 0] 38 (0, 0)) := by
    have := heap_alloc_new (w.alloc (.cells #[.int .i16 x0, .int .i16 x1, .int .i16 x2, .int .i16 x3, .slice EA en ec, .slice PA pn pc, .slice SA sn sc] 29)) (.cells #[.int .i64 0, .int .i64 0, .int .i64 0, .int .i64 0, .slice none 0 0, .slice none 0 0, .slice none 0 0] 38)
    rwa [show (w.alloc (.cells #[.int .i16 x0, .int .i16 x1, .int .i16 x2, .int .i16 x3, .slice EA en ec, .slice PA pn pc, .slice SA sn sc] 29)).heap.size = w.heap.size + 1 by simp] at this
  go_enter Try.func20, Try.ntmps20
  go_wp2
  have hs : OW [(w.heap.size, #[.int .i16 x0, .int .i16 x1, .int .i16 x2, .int .i16 x3, .slice EA en ec, .slice PA pn pc, .slice SA sn sc], 29), (w.heap.size + 1, #[.int .i64 0, .int .i64 0, .int .i64 0, .int .i64 0, .slice none 0 0, .slice none 0 0, .slice none 0 0], 38)] w (((w.alloc (.cells #[.int .i16 x0, .int .i16 x1, .int .i16 x2, .int .i16 x3, .slice EA en ec, .slice PA pn pc, .slice SA sn sc] 29)).alloc (.cells #[.int .i64 0, .int .i64 0, .int .i64 0, .int .i64 0, .slice none 0 0, .slice none 0 0, .slice none 0 0] 38)).alloc (.cells #[.int .i64 0, .int .i64 0, .int .i64 0, .int .i64 0, .slice none 0 0, .slice PA pn pc, .slice none 0 0] 38)) (w.heap.size + 2) (rxC [x0, x1, x2, x3] 0 (.slice PA pn pc)) none 0 0 [] none 0 0 [] := by
    rw [rxC_0]
    refine ⟨?_, Own.nil _ _ _ _, OwnS.nil _ _ _ _ _, hbel, by omega, ?_, ?_⟩
    · have := heap_alloc_new ((w.alloc (.cells #[.int .i16 x0, .int .i16 x1, .int .i16 x2, .int .i16 x3, .slice EA en ec, .slice PA pn pc, .slice SA sn sc] 29)).alloc (.cells #[.int .i64 0, .int .i64 0, .int .i64 0, .int .i64 0, .slice none 0 0, .slice none 0 0, .slice none 0 0] 38)) (.cells #[.int .i64 0, .int .i64 0, .int .i64 0, .int .i64 0, .slice none 0 0, .slice PA pn pc, .slice none 0 0] 38)
      rwa [show ((w.alloc (.cells #[.int .i16 x0, .int .i16 x1, .int .i16 x2, .int .i16 x3, .slice EA en ec, .slice PA pn pc, .slice SA sn sc] 29)).alloc (.cells #[.int .i64 0, .int .i64 0, .int .i64 0, .int .i64 0, .slice none 0 0, .slice none 0 0, .slice none 0 0] 38)).heap.size = w.heap.size + 2 by simp] at this
    · intro p hp
      simp only [List.mem_cons, List.not_mem_nil, or_false] at hp
      rcases hp with rfl | rfl
      · exact kept_alloc hkv _
      · exact kept_alloc hkr _
    · intro p hp
      simp only [List.mem_cons, List.not_mem_nil, or_false] at hp
      rcases hp with rfl | rfl <;> exact ⟨by simp, by simp, by simp⟩
  clear hA hA2 hbel hkv hkr
  generalize ((w.alloc _).alloc _).alloc _ = V0 at *
  generalize hL : ([(w.heap.size, #[.int .i16 x0, .int .i16 x1, .int .i16 x2, .int .i16 x3, .slice EA en ec, .slice PA pn pc, .slice SA sn sc], 29), (w.heap.size + 1, #[.int .i64 0, .int .i64 0, .int .i64 0, .int .i64 0, .slice none 0 0, .slice none 0 0, .slice none 0 0], 38)] : List (Nat × Array Value × TypeId)) = L at hs
  have HL := Lib.hid hL
  clear hL
  have hbxg : w.heap.size + 1 < w.heap.size + 2 := by omega
  generalize hbx : w.heap.size + 2 = bx at hs hbxg ⊢
  have Hbx2 := Lib.hid hbx
  clear hbx
  go_loopw [15] (fun i' wr => ∃ k : Nat, k ≤ 4 ∧ i' = .int .i64 k ∧ OW L w wr bx (rxC [x0, x1, x2, x3] k (.slice PA pn pc)) none 0 0 [] none 0 0 []) (fun i' _ => 4 - (intOf i').toNat)
  case atStart => exact ⟨0, Nat.zero_le _, rfl, hs⟩
  case round =>
    clear hs
    obtain ⟨k, hk, rfl, hs⟩ := hrel
    by_cases hlt : k < 4
    · obtain ⟨x, hx⟩ := get_some (zs := [x0, x1, x2, x3]) (k := k) hlt
      obtain ⟨u0, u1⟩ := Hbx.out x (List.mem_of_getElem? hx)
      have HC := Lib.hid (rxC_set [x0, x1, x2, x3] (.slice PA pn pc) hlt hx)
      have hix := run_index_arr (P := Try.prog) wr 23 22 4 #[.int .i16 x0, .int .i16 x1, .int .i16 x2, .int .i16 x3] k (.int .i16 x) Try.underlying23 (by simp [go_sem]) (by simp [go_sem]) hlt (by
        have h := cellsOf_get (k := .i16) hx
        simpa [cellsOf] using h)
      have c0 := hs.cell k _ (rxC_get [x0, x1, x2, x3] (.slice PA pn pc) hlt)
      have f0 := hs.thaw k
      have hs3 := hs.set k (.int .i64 x)
      rw [HC.out] at hs3
      have H3 := Lib.hid hs3
      have ik0 : (0 : Int) ≤ (k : Int) := by omega
      have ik1 : (k : Int) < 4 := by omega
      clear hs hs3 HC hx
      go_wp2
      go_roundw
      case rel => exact ⟨k + 1, by omega, by go_num, H3.out⟩
      case measure => simp [intOf]; omega
    · obtain rfl : k = 4 := by omega
      rw [rxC_4] at hs
      have kv := hs.kp _ (by rw [← HL.out]; exact List.mem_cons_self)
      have c4 : wr.cell? ⟨w.heap.size, 4, none⟩ = some (.slice EA en ec) := cell_of_row wr _ 4 _ _ _ kv
      go_wp2
      clear c4 kv hlt hk
      go_loopw [28] (fun i' wr => ∃ (k : Nat) (IA : Option Addr) (ic : Nat), k ≤ en ∧ i' = .int .i64 k ∧ OW L w wr bx #[.int .i64 x0, .int .i64 x1, .int .i64 x2, .int .i64 x3, .slice IA k ic, .slice PA pn pc, .slice none 0 0] IA k ic (es.take k) none 0 0 []) (fun i' _ => en - (intOf i').toNat)
      case atStart => exact ⟨0, none, 0, Nat.zero_le _, rfl, by simpa using hs⟩
      case round =>
        clear hs
        obtain ⟨k, IA, ic, hk, rfl, hs⟩ := hrel
        have hsz := hs.bel.size
        by_cases hlt : k < en
        · obtain ⟨x, hx⟩ := get_some (zs := es) (k := k) (by have := HE.out; omega)
          obtain ⟨u0, u1⟩ := HEs.out x (List.mem_of_getElem? hx)
          obtain ⟨g, off, rfl, hg, hc⟩ := (Hre.out.below hs.bel).at (cellsOf_get (k := .u16) hx)
          have HT : Hid (es.take k ++ [x] = es.take (k + 1)) := by show _ = _; rw [List.take_add_one, hx]; rfl
          have c4 := hs.cell 4 _ rfl
          clear hx
          have hA := (Below.refl wr.heap.size wr).alloc (Nat.le_refl _) (.cells #[.int .i64 x] 3)
          have hs2 := hs.below hA
          clear hs hA
          go_wp2_with (at_builtin; refine wpList_append_row rfl (.tmp 33) (.tmp 36) _ rfl 3 .i64 w.heap.size i0 8 Try.underlying35 hi hz0 hz1 hz2 IA k ic _ rfl hs2.ia (some ⟨wr.heap.size, 0, none⟩) 1 1 [x] rfl (row_one _ _ _ _) (by omega) (by omega) (by simp; omega) ?_; intro A3 c3 w1 hown1 hg1; have hs3 := hs2.appI hown1 hg1; have c4' := hs3.cell 4 _ rfl; have f4' := hs3.thaw 4)
          rw [HT.out] at hs3
          have hs4 : OW L w (w1.setCell ⟨bx, 4, none⟩ (.slice A3 (k + 1) c3)) bx #[.int .i64 x0, .int .i64 x1, .int .i64 x2, .int .i64 x3, .slice A3 (k + 1) c3, .slice PA pn pc, .slice none 0 0] A3 (k + 1) c3 (es.take (k + 1)) none 0 0 [] := hs3.set 4 (.slice A3 (k + 1) c3)
          clear hs2 hs3 hown1 hg1 c4' f4' c4
          go_roundw
          case rel => exact ⟨k + 1, A3, c3, by omega, by go_num, hs4⟩
          case measure => simp [intOf]; omega
        · obtain rfl : k = en := by omega
          rw [List.take_of_length_le (by have := HE.out; omega)] at hs
          have kv := hs.kp _ (by rw [← HL.out]; exact List.mem_cons_self)
          have c6 : wr.cell? ⟨w.heap.size, 6, none⟩ = some (.slice SA sn sc) := cell_of_row wr _ 6 _ _ _ kv
          go_wp2
          clear c6 kv hlt hk
          go_loopw [43] (fun i' wr => ∃ (j : Nat) (QA : Option Addr) (qc : Nat), j ≤ sn ∧ i' = .int .i64 j ∧ OW L w wr bx #[.int .i64 x0, .int .i64 x1, .int .i64 x2, .int .i64 x3, .slice IA k ic, .slice PA pn pc, .slice QA j qc] IA k ic es QA j qc (ps.take j)) (fun i' _ => sn - (intOf i').toNat)
          case atStart => exact ⟨0, none, 0, Nat.zero_le _, rfl, by simpa using hs⟩
          case round =>
            clear hs
            obtain ⟨j, QA, qc, hj, rfl, hs⟩ := hrel
            have hsz2 := hs.bel.size
            by_cases hlt : j < sn
            · obtain ⟨p, hp⟩ : ∃ p, ps[j]? = some p := ⟨ps[j]'(by have := HS.out; omega), List.getElem?_eq_getElem (by have := HS.out; omega)⟩
              obtain ⟨⟨u0, u1⟩, ⟨u2, u3⟩⟩ := HPs.out p (List.mem_of_getElem? hp)
              obtain ⟨g, off, rfl, hg, q0, q1, q2⟩ := atSp (Hrs.out.below hs.bel) hp
              have HT : Hid (ps.take j ++ [p] = ps.take (j + 1)) := by show _ = _; rw [List.take_add_one, hp]; rfl
              obtain ⟨px, py, po⟩ := p
              simp only at q0 q1 q2 u0 u1 u2 u3
              have hA := (Below.refl wr.heap.size wr).alloc (Nat.le_refl _) (.cells #[.int .i16 px, .int .i16 py, .bool po] 60)
              have hA2 := hA.alloc hA.size (.cells #[.int .i64 px, .int .i64 py, .bool po] 107)
              have hs2 := hs.below hA2
              have c6 := hs.cell 6 _ rfl
              have hgn : g ≠ wr.heap.size := by omega
              have hbn : bx ≠ wr.heap.size := by have := lt_of_block hs.box; omega
              have hbn2 : bx < wr.heap.size := lt_of_block hs.box
              have hrow : RowS encRp 3 ((wr.alloc (.cells #[.int .i16 px, .int .i16 py, .bool po] 60)).alloc (.cells #[.int .i64 px, .int .i64 py, .bool po] 107)) (some ⟨wr.heap.size + 1, 0, none⟩) 1 [(px, py, po)] := by
                have := rowS_vals encRp_len (wr.alloc (.cells #[.int .i16 px, .int .i16 py, .bool po] 60)) 107 [(px, py, po)] #[.int .i64 px, .int .i64 py, .bool po] rfl 1 rfl
                rwa [show (wr.alloc (.cells #[.int .i16 px, .int .i16 py, .bool po] 60)).heap.size = wr.heap.size + 1 by simp] at this
              clear hs hA hA2 hp
              go_wp2_with (at_builtin; refine wpList_append_rowS rfl (.tmp 48) (.tmp 58) _ rfl 107 encRp 3 encRp_len (by omega) encRp_one w.heap.size i1 _ 24 Try.underlying36 hi1 hz01 hz11 rfl hz21 QA j qc _ rfl hs2.qa (some ⟨wr.heap.size + 1, 0, none⟩) 1 1 [(px, py, po)] rfl hrow (by omega) (by omega) (by simp; omega) ?_; intro A3 c3 w1 hown1 hg1; have hs3 := hs2.appQ hown1 hg1; have c6' := hs3.cell 6 _ rfl; have f6' := hs3.thaw 6)
              rw [HT.out] at hs3
              have hs4 : OW L w (w1.setCell ⟨bx, 6, none⟩ (.slice A3 (j + 1) c3)) bx #[.int .i64 x0, .int .i64 x1, .int .i64 x2, .int .i64 x3, .slice IA k ic, .slice PA pn pc, .slice A3 (j + 1) c3] IA k ic es A3 (j + 1) c3 (ps.take (j + 1)) := hs3.set 6 (.slice A3 (j + 1) c3)
              clear hs2 hs3 hown1 hg1 c6' f6' c6 hrow
              go_roundw
              case rel => exact ⟨j + 1, A3, c3, by omega, by go_num, hs4⟩
              case measure => simp [intOf]; omega
            · obtain rfl : j = sn := by omega
              rw [List.take_of_length_le (by have := HS.out; omega)] at hs
              have kr := hs.kp _ (by rw [← HL.out]; exact List.mem_cons_of_mem _ List.mem_cons_self)
              simp only at kr
              obtain ⟨b0, b1, b2, b3, b4, b5, b6⟩ := cells7 hs.box
              have KR := Lib.hid (setRow_heap wr (w.heap.size + 1) _ #[.int .i64 x0, .int .i64 x1, .int .i64 x2, .int .i64 x3, .slice IA k ic, .slice PA pn pc, .slice QA j qc] 38 (0, 0) kr)
              have HBl := Lib.hid (below_rowO (B := w.heap.size) (by omega : w.heap.size ≤ w.heap.size + 1) #[.int .i64 x0, .int .i64 x1, .int .i64 x2, .int .i64 x3, .slice IA k ic, .slice PA pn pc, .slice QA j qc] hs.bel)
              have HRows : Hid (RlV.rows (wr.setRow (w.heap.size + 1) #[.int .i64 x0, .int .i64 x1, .int .i64 x2, .int .i64 x3, .slice IA k ic, .slice PA pn pc, .slice QA j qc]) ⟨⟨x0, x1, x2, x3, es, pr, ps⟩, IA, k, ic, PA, pn, pc, QA, j, qc⟩) := by
                refine ⟨hs.ia.row.keep (by simp) (fun g e _ => setRow_other _ _ _ _ (own_neS hs.ia kr (by decide) g e)), ?_, (hs.qa.row encRp_len).keep (by simp) (fun g e _ => setRow_other _ _ _ _ (ownS_ne hs.qa kr (by decide) g e))⟩
                exact (Hrp.out.below (hs.bel.trans ((below_rowO (B := w.heap.size) (by omega : w.heap.size ≤ w.heap.size + 1) _ (Below.refl _ wr)).mono (Nat.le_refl _))))
              clear hs hlt hj
              go_wp2_with (with_reducible refine wpList_store_row rfl 38 (.tmp 2) (.tmp 62) rfl (w.heap.size + 1) #[.int .i64 x0, .int .i64 x1, .int .i64 x2, .int .i64 x3, .slice IA k ic, .slice PA pn pc, .slice QA j qc] rfl rfl 38 #[.int .i64 0, .int .i64 0, .int .i64 0, .int .i64 0, .slice none 0 0, .slice none 0 0, .slice none 0 0] kr (rg7 _ _ _ _ _ _ _ _ _ _ _ _ _).1 (rg7 _ _ _ _ _ _ _ _ _ _ _ _ _).2.1 (rg7 _ _ _ _ _ _ _ _ _ _ _ _ _).2.2 ?_)
              exact bodyPost_ret (v := RlV.val ⟨⟨x0, x1, x2, x3, es, pr, ps⟩, IA, k, ic, PA, pn, pc, QA, j, qc⟩) (results_cell_row Try.results20 _ _ (w.heap.size + 1) 38 _ (0, 0) _ rfl KR.out Try.underlying38 rfl (rg7 _ _ _ _ _ _ _ _ _ _ _ _ _).1) rfl (HRet.out _ _ HRows.out rfl HBl.out)

end Go.Proofs.Ytlcnonhebppeiaa
