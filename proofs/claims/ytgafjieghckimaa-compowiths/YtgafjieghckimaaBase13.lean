/- What the laws of this seat lean on: ComO ComF ComZ ComZ2 ComZ3 LoopsOf AppAt ComG. -/
import Derived.Laws.Rows
import Derived.Laws.Tables
import Derived.Lib.MinMax
import Derived.Deep.DeepCutAuto
import Derived.Maps.AppendAt
import Derived.Test.YtgafjieghckimaaBase1
import Derived.Test.YtgafjieghckimaaBase3
import Derived.Test.YtgafjieghckimaaBase4
import Derived.Test.YtgafjieghckimaaBase6
import Derived.Test.YtgafjieghckimaaBase7
import Derived.Test.YtgafjieghckimaaBase8

/- The document's glyph of compo's: own, as a contract over this seat's translation. -/
namespace Go.Proofs.Ytgafjieghckimaa
open Go.RowKit
set_option linter.unusedVariables false

def encRt (p : Pt) : List Value := [.int .i64 p.f, .int .i64 p.i, .int .i64 p.x, .int .i64 p.y, .int .i64 p.xx, .int .i64 p.xy, .int .i64 p.yx, .int .i64 p.yy]
theorem encRt_len (p : Pt) : (encRt p).length = 8 := rfl
theorem encRt_one (p : Pt) : ∀ u ∈ encRt p, u.oneCell' = true := by intro u hu; simp [encRt] at hu; rcases hu with rfl | rfl | rfl | rfl | rfl | rfl | rfl | rfl <;> rfl
theorem Try.rtinfo : (Try.prog.info? 114).map (fun i => (i.zero, i.size, i.bytes)) = some (some (.agg #[.int .i64 0, .int .i64 0, .int .i64 0, .int .i64 0, .int .i64 0, .int .i64 0, .int .i64 0, .int .i64 0]), 8, 64) := by kernel_rfl
theorem atRt {w : World} {A : Option Addr} {n : Nat} {l : List Pt} {j : Nat} {p : Pt} (h : RowS encRt 8 w A n l) (hj : l[j]? = some p) :
    ∃ g off, A = some ⟨g, off, none⟩ ∧ g < w.heap.size ∧ w.cell? ⟨g, off + j * 8, none⟩ = some (.int .i64 p.f) ∧ w.cell? ⟨g, off + j * 8 + 1, none⟩ = some (.int .i64 p.i) ∧ w.cell? ⟨g, off + j * 8 + 2, none⟩ = some (.int .i64 p.x) ∧ w.cell? ⟨g, off + j * 8 + 3, none⟩ = some (.int .i64 p.y) ∧
      w.cell? ⟨g, off + j * 8 + 4, none⟩ = some (.int .i64 p.xx) ∧ w.cell? ⟨g, off + j * 8 + 5, none⟩ = some (.int .i64 p.xy) ∧ w.cell? ⟨g, off + j * 8 + 6, none⟩ = some (.int .i64 p.yx) ∧ w.cell? ⟨g, off + j * 8 + 7, none⟩ = some (.int .i64 p.yy) := by
  obtain ⟨g, off, e, hg, hc⟩ := h.at encRt_len (by omega) hj
  exact ⟨g, off, e, hg, hc 0 _ rfl, hc 1 _ rfl, hc 2 _ rfl, hc 3 _ rfl, hc 4 _ rfl, hc 5 _ rfl, hc 6 _ rfl, hc 7 _ rfl⟩

/-- A glyph of the document's own, as a value, and where its lists lie. -/
structure RcV where
  g : Cg
  QA : Option Addr
  q : Nat
  qc : Nat
  PA : Option Addr
  pn : Nat
  pc : Nat
def RcV.cells (v : RcV) : Array Value := #[.int .i64 v.g.x0, .int .i64 v.g.x1, .int .i64 v.g.x2, .int .i64 v.g.x3, .slice v.QA v.q v.qc, .slice v.PA v.pn v.pc]
def RcV.val (v : RcV) : Value := .agg v.cells
structure RcV.rows (w : World) (v : RcV) : Prop where
  ps : RowS encRt 8 w v.QA v.q v.g.ps
  pr : Row w v.PA v.pn (cellsOf .u8 v.g.pr)
theorem RcV.rows.below {w w' : World} {v : RcV} (h : v.rows w) (hb : Below w.heap.size w w') : v.rows w' := ⟨h.ps.below hb, h.pr.below hb⟩
theorem Try.rcsize : (Try.prog.info? 49).map (·.size) = some 6 := by kernel_rfl
theorem rc6 (x0 x1 x2 x3 : Int) (PA SA : Option Addr) (pn pc sn sc : Nat) : (Try.prog.info? 49).map (·.size) = some (#[Value.int .i64 x0, .int .i64 x1, .int .i64 x2, .int .i64 x3, .slice PA pn pc, .slice SA sn sc]).size ∧ (#[Value.int .i64 0, .int .i64 0, .int .i64 0, .int .i64 0, .slice none 0 0, .slice none 0 0]).size = (#[Value.int .i64 x0, .int .i64 x1, .int .i64 x2, .int .i64 x3, .slice PA pn pc, .slice SA sn sc]).size ∧ (#[Value.int .i64 x0, .int .i64 x1, .int .i64 x2, .int .i64 x3, .slice PA pn pc, .slice SA sn sc].all (·.oneCell')) = true :=
  ⟨Try.rcsize, rfl, by rw [← Array.all_toList]; rfl⟩

/-- A block of a glyph under way, with fresh parts; other blocks are kept. -/
structure OC (L : List (Nat × Array Value × TypeId)) (w wr : World) (bx : Nat) (cs : Array Value) (QA : Option Addr) (q qc : Nat) (ps : List Pt) : Prop where
  box : wr.heap[bx]? = some (.cells cs 49 (0, 0))
  qa : OwnS 114 encRt 8 wr w.heap.size QA q qc ps
  bel : Below w.heap.size w wr
  lx : w.heap.size ≤ bx
  kp : ∀ p ∈ L, wr.heap[p.1]? = some (.cells p.2.1 p.2.2 (0, 0))
  ks : ∀ p ∈ L, p.1 ≠ bx ∧ 114 ≠ p.2.2
theorem ownS_neC {α : Type} {t t' : TypeId} {enc : α → List Value} {k : Nat} {w : World} {B g n c : Nat} {A : Option Addr} {l : List α} {cur : Array Value} (h : OwnS t enc k w B A n c l) (h' : w.heap[g]? = some (.cells cur t' (0, 0))) (ht : t ≠ t') : ∀ q, blockOf A = some q → q ≠ g := by
  intro q hq
  rintro rfl
  rcases h.shape with ⟨rfl, _⟩ | ⟨g', cur, rfl, _, _, hh, _⟩
  · simp [blockOf] at hq
  · simp [blockOf] at hq
    subst hq
    rw [hh] at h'
    simp at h'
    exact ht h'.2
section
variable {L : List (Nat × Array Value × TypeId)} {w wr w' : World} {bx : Nat} {cs : Array Value} {QA : Option Addr} {q qc : Nat} {ps : List Pt}
theorem OC.below (h : OC L w wr bx cs QA q qc ps) (hb : Below wr.heap.size wr w') : OC L w w' bx cs QA q qc ps :=
  ⟨kept_block h.box hb, h.qa.below hb, h.bel.trans (hb.mono h.bel.size), h.lx, fun p hp => kept_block (h.kp p hp) hb, h.ks⟩
theorem OC.set (h : OC L w wr bx cs QA q qc ps) (j : Nat) (v : Value) : OC L w (wr.setCell ⟨bx, j, none⟩ v) bx (cs.setIfInBounds j v) QA q qc ps :=
  ⟨set_block h.box j v, h.qa.keep (fun g e => Below.heap_setCell wr _ v _ (ownS_neC h.qa h.box (by decide) g e)), h.bel.setCell (p := ⟨bx, j, none⟩) h.lx v, h.lx, fun p hp => (Below.heap_setCell wr _ v _ (h.ks p hp).1).trans (h.kp p hp), h.ks⟩
theorem OC.cell (h : OC L w wr bx cs QA q qc ps) (j : Nat) (v : Value) (hq : cs[j]? = some v) : wr.cell? ⟨bx, j, none⟩ = some v := (cell_of_row wr _ j _ _ _ h.box).trans hq
theorem OC.thaw (h : OC L w wr bx cs QA q qc ps) (o : Nat) : wr.frozen? ⟨bx, o, none⟩ = false := thawed h.box o
theorem OC.appQ (h : OC L w wr bx cs QA q qc ps) {A2 : Option Addr} {n2 c2 : Nat} {ps2 : List Pt} (ho : OwnS 114 encRt 8 w' w.heap.size A2 n2 c2 ps2) (hg : wr.grownBy w' (blockOf QA)) : OC L w w' bx cs A2 n2 c2 ps2 := by
  have hne : some bx ≠ blockOf QA := fun e => ownS_neC h.qa h.box (by decide) bx e.symm rfl
  exact ⟨(hg.block bx (lt_of_block h.box) hne).trans h.box, ho, h.bel.grown hg h.bel.size (fun g e => (h.qa.from_ g e).1), h.lx, fun p hp => (hg.block p.1 (lt_of_block (h.kp p hp)) (fun e => ownS_neC h.qa (h.kp p hp) (h.ks p hp).2 p.1 e.symm rfl)).trans (h.kp p hp), h.ks⟩
end

/-- The Box so far. -/
def cxAt (xs : List Int) (k j : Nat) : Int := if j < k then xs.getD j 0 else 0
def cxC (xs : List Int) (k : Nat) (P : Value) : Array Value := #[.int .i64 (cxAt xs k 0), .int .i64 (cxAt xs k 1), .int .i64 (cxAt xs k 2), .int .i64 (cxAt xs k 3), .slice none 0 0, P]
theorem cxC_set (xs : List Int) (P : Value) {k : Nat} (h : k < 4) {x : Int} (hx : xs[k]? = some x) : (cxC xs k P).setIfInBounds k (.int .i64 x) = cxC xs (k + 1) P := by
  have : xs.getD k 0 = x := by simp [hx]
  match k, h with
  | 0, _ => simp [cxC, cxAt, hx]
  | 1, _ => simp [cxC, cxAt, hx]
  | 2, _ => simp [cxC, cxAt, hx]
  | 3, _ => simp [cxC, cxAt, hx]
theorem cxC_get (xs : List Int) (P : Value) {k : Nat} (h : k < 4) : (cxC xs k P)[k]? = some (.int .i64 0) := by
  match k, h with
  | 0, _ => simp [cxC, cxAt]
  | 1, _ => simp [cxC, cxAt]
  | 2, _ => simp [cxC, cxAt]
  | 3, _ => simp [cxC, cxAt]
theorem cxC_0 (xs : List Int) (P : Value) : cxC xs 0 P = #[.int .i64 0, .int .i64 0, .int .i64 0, .int .i64 0, .slice none 0 0, P] := by simp [cxC, cxAt]
theorem cxC_4 (x0 x1 x2 x3 : Int) (P : Value) : cxC [x0, x1, x2, x3] 4 P = #[.int .i64 x0, .int .i64 x1, .int .i64 x2, .int .i64 x3, .slice none 0 0, P] := by simp [cxC, cxAt]

/-- What own leaves. -/
def RetCOwn (w : World) (v : CgV) (e : Ending) (w' : World) : Prop := ∃ r : RcV, e = .returned r.val ∧ r.rows w' ∧ r.g = v.g ∧ r.q = v.q ∧ r.pn = v.pn ∧ Below w.heap.size w w'

set_option maxRecDepth 100000 in
set_option maxHeartbeats 4000000 in
theorem cown_any (v : CgV) (w : World) (hr : v.rows w) (a3 : v.q ≤ 1000000) (ho : v.g.ok) : Calls Try.prog 23 #[v.val] w (RetCOwn w v) := by
  obtain ⟨i1, hi1, hz01, hz11, hz21⟩ := info_parts Try.rtinfo
  have hA := (Below.refl w.heap.size w).alloc (Nat.le_refl _) (.cells v.cells 34)
  have HS : Hid (v.g.ps.length = v.q) := hr.ps.len
  have Hrp := Lib.hid hr.pr
  have Hrs := Lib.hid hr.ps
  have HPs := Lib.hid ho.ps
  have Hbx := Lib.hid ho.bx
  have HRet : Hid (∀ (r : RcV) w', r.rows w' → r.g = v.g → r.q = v.q → r.pn = v.pn → Below w.heap.size w w' → RetCOwn w v (.returned r.val) w') := fun r w' h1 h2 h3 h4 h5 => ⟨r, rfl, h1, h2, h3, h4, h5⟩
  clear hr ho
  unfold CgV.val at *
  unfold CgV.cells at *
  obtain ⟨⟨x0, x1, x2, x3, ps, pr⟩, SA, sn, sc, PA, pn, pc⟩ := v
  simp only at *
  have hA2 := hA.alloc hA.size (.cells #[.int .i64 0, .int .i64 0, .int .i64 0, .int .i64 0, .slice none 0 0, .slice none 0 0] 49)
  have hbel := hA2.alloc hA2.size (.cells #[.int .i64 0, .int .i64 0, .int .i64 0, .int .i64 0, .slice none 0 0, .slice PA pn pc] 49)
  have hkv : ((w.alloc (.cells #[.int .i16 x0, .int .i16 x1, .int .i16 x2, .int .i16 x3, .slice SA sn sc, .slice PA pn pc] 34)).alloc (.cells #[.int .i64 0, .int .i64 0, .int .i64 0, .int .i64 0, .slice none 0 0, .slice none 0 0] 49)).heap[w.heap.size]? = some (.cells #[.int .i16 x0, .int .i16 x1, .int .i16 x2, .int .i16 x3, .slice SA sn sc, .slice PA pn pc] 34 (0, 0)) := kept_alloc (heap_alloc_new w _) _
  have hkr : ((w.alloc (.cells #[.int .i16 x0, .int .i16 x1, .int .i16 x2, .int .i16 x3, .slice SA sn sc, .slice PA pn pc] 34)).alloc (.cells #[.int .i64 0, .int .i64 0, .int .i64 0, .int .i64 0, .slice none 0 0, .slice none 0 0] 49)).heap[w.heap.size + 1]? = some (.cells #[.int .i64 0, .int .i64 0, .int .i64 0, .int .i64 0, .slice none 0 0, .slice none 0 0] 49 (0, 0)) := by
    have := heap_alloc_new (w.alloc (.cells #[.int .i16 x0, .int .i16 x1, .int .i16 x2, .int .i16 x3, .slice SA sn sc, .slice PA pn pc] 34)) (.cells #[.int .i64 0, .int .i64 0, .int .i64 0, .int .i64 0, .slice none 0 0, .slice none 0 0] 49)
    rwa [show (w.alloc (.cells #[.int .i16 x0, .int .i16 x1, .int .i16 x2, .int .i16 x3, .slice SA sn sc, .slice PA pn pc] 34)).heap.size = w.heap.size + 1 by simp] at this
  go_enter Try.func23, Try.ntmps23
  go_wp2
  have hs : OC [(w.heap.size, #[.int .i16 x0, .int .i16 x1, .int .i16 x2, .int .i16 x3, .slice SA sn sc, .slice PA pn pc], 34), (w.heap.size + 1, #[.int .i64 0, .int .i64 0, .int .i64 0, .int .i64 0, .slice none 0 0, .slice none 0 0], 49)] w (((w.alloc (.cells #[.int .i16 x0, .int .i16 x1, .int .i16 x2, .int .i16 x3, .slice SA sn sc, .slice PA pn pc] 34)).alloc (.cells #[.int .i64 0, .int .i64 0, .int .i64 0, .int .i64 0, .slice none 0 0, .slice none 0 0] 49)).alloc (.cells #[.int .i64 0, .int .i64 0, .int .i64 0, .int .i64 0, .slice none 0 0, .slice PA pn pc] 49)) (w.heap.size + 2) (cxC [x0, x1, x2, x3] 0 (.slice PA pn pc)) none 0 0 [] := by
    rw [cxC_0]
    refine ⟨?_, OwnS.nil _ _ _ _ _, hbel, by omega, ?_, ?_⟩
    · have := heap_alloc_new ((w.alloc (.cells #[.int .i16 x0, .int .i16 x1, .int .i16 x2, .int .i16 x3, .slice SA sn sc, .slice PA pn pc] 34)).alloc (.cells #[.int .i64 0, .int .i64 0, .int .i64 0, .int .i64 0, .slice none 0 0, .slice none 0 0] 49)) (.cells #[.int .i64 0, .int .i64 0, .int .i64 0, .int .i64 0, .slice none 0 0, .slice PA pn pc] 49)
      rwa [show ((w.alloc (.cells #[.int .i16 x0, .int .i16 x1, .int .i16 x2, .int .i16 x3, .slice SA sn sc, .slice PA pn pc] 34)).alloc (.cells #[.int .i64 0, .int .i64 0, .int .i64 0, .int .i64 0, .slice none 0 0, .slice none 0 0] 49)).heap.size = w.heap.size + 2 by simp] at this
    · intro p hp
      simp only [List.mem_cons, List.not_mem_nil, or_false] at hp
      rcases hp with rfl | rfl
      · exact kept_alloc hkv _
      · exact kept_alloc hkr _
    · intro p hp
      simp only [List.mem_cons, List.not_mem_nil, or_false] at hp
      rcases hp with rfl | rfl <;> exact ⟨by simp, by simp⟩
  clear hA hA2 hbel hkv hkr
  generalize ((w.alloc _).alloc _).alloc _ = V0 at *
  generalize hL : ([(w.heap.size, #[.int .i16 x0, .int .i16 x1, .int .i16 x2, .int .i16 x3, .slice SA sn sc, .slice PA pn pc], 34), (w.heap.size + 1, #[.int .i64 0, .int .i64 0, .int .i64 0, .int .i64 0, .slice none 0 0, .slice none 0 0], 49)] : List (Nat × Array Value × TypeId)) = L at hs
  have HL := Lib.hid hL
  clear hL
  have hbxg : w.heap.size + 1 < w.heap.size + 2 := by omega
  generalize hbx : w.heap.size + 2 = bx at hs hbxg ⊢
  have Hbx2 := Lib.hid hbx
  clear hbx
  go_loopw [13] (fun i' wr => ∃ k : Nat, k ≤ 4 ∧ i' = .int .i64 k ∧ OC L w wr bx (cxC [x0, x1, x2, x3] k (.slice PA pn pc)) none 0 0 []) (fun i' _ => 4 - (intOf i').toNat)
  case atStart => exact ⟨0, Nat.zero_le _, rfl, hs⟩
  case round =>
    clear hs
    obtain ⟨k, hk, rfl, hs⟩ := hrel
    by_cases hlt : k < 4
    · obtain ⟨x, hx⟩ := get_some (zs := [x0, x1, x2, x3]) (k := k) hlt
      obtain ⟨u0, u1⟩ := Hbx.out x (List.mem_of_getElem? hx)
      have HC := Lib.hid (cxC_set [x0, x1, x2, x3] (.slice PA pn pc) hlt hx)
      have hix := run_index_arr (P := Try.prog) wr 31 22 4 #[.int .i16 x0, .int .i16 x1, .int .i16 x2, .int .i16 x3] k (.int .i16 x) Try.underlying31 (by simp [go_sem]) (by simp [go_sem]) hlt (by
        have h := cellsOf_get (k := .i16) hx
        simpa [cellsOf] using h)
      have c0 := hs.cell k _ (cxC_get [x0, x1, x2, x3] (.slice PA pn pc) hlt)
      have f0 := hs.thaw k
      have hs3 := hs.set k (.int .i64 x)
      rw [HC.out] at hs3
      have H3 := Lib.hid hs3
      have ik0 : (0 : Int) ≤ (k : Int) := by omega
      have ik1 : (k : Int) < 4 := by omega
      clear hs hs3 HC hx
      go_wp2
      go_roundw
      case rel => exact ⟨k + 1, by omega, by go_num, H3.out⟩
      case measure => simp [intOf]; omega
    · obtain rfl : k = 4 := by omega
      rw [cxC_4] at hs
      have kv := hs.kp _ (by rw [← HL.out]; exact List.mem_cons_self)
      have c4 : wr.cell? ⟨w.heap.size, 4, none⟩ = some (.slice SA sn sc) := cell_of_row wr _ 4 _ _ _ kv
      go_wp2
      clear c4 kv hlt hk
      go_loopw [26] (fun i' wr => ∃ (j : Nat) (QA : Option Addr) (qc : Nat), j ≤ sn ∧ i' = .int .i64 j ∧ OC L w wr bx #[.int .i64 x0, .int .i64 x1, .int .i64 x2, .int .i64 x3, .slice QA j qc, .slice PA pn pc] QA j qc (ps.take j)) (fun i' _ => sn - (intOf i').toNat)
      case atStart => exact ⟨0, none, 0, Nat.zero_le _, rfl, by simpa using hs⟩
      case round =>
        clear hs
        obtain ⟨j, QA, qc, hj, rfl, hs⟩ := hrel
        have hsz2 := hs.bel.size
        by_cases hlt : j < sn
        · obtain ⟨p, hp⟩ : ∃ p, ps[j]? = some p := ⟨ps[j]'(by have := HS.out; omega), List.getElem?_eq_getElem (by have := HS.out; omega)⟩
          obtain ⟨⟨u0, u1⟩, ⟨u2, u3⟩, ⟨u4, u5⟩, ⟨u6, u7⟩, ⟨u8, u9⟩, ⟨u10, u11⟩, ⟨u12, u13⟩, ⟨u14, u15⟩⟩ := HPs.out p (List.mem_of_getElem? hp)
          obtain ⟨g, off, rfl, hg, q0, q1, q2, q3, q4, q5, q6, q7⟩ := atPt (Hrs.out.below hs.bel) hp
          have HT : Hid (ps.take j ++ [p] = ps.take (j + 1)) := by show _ = _; rw [List.take_add_one, hp]; rfl
          obtain ⟨pf, pi, px, py, pxx, pxy, pyx, pyy⟩ := p
          simp only at q0 q1 q2 q3 q4 q5 q6 q7 u0 u1 u2 u3 u4 u5 u6 u7 u8 u9 u10 u11 u12 u13 u14 u15
          have hA := (Below.refl wr.heap.size wr).alloc (Nat.le_refl _) (.cells #[.int .u16 pf, .int .u16 pi, .int .i16 px, .int .i16 py, .int .i16 pxx, .int .i16 pxy, .int .i16 pyx, .int .i16 pyy] 29)
          have hA2 := hA.alloc hA.size (.cells #[.int .i64 pf, .int .i64 pi, .int .i64 px, .int .i64 py, .int .i64 pxx, .int .i64 pxy, .int .i64 pyx, .int .i64 pyy] 114)
          have hs2 := hs.below hA2
          have c6 := hs.cell 4 _ rfl
          have hgn : g ≠ wr.heap.size := by omega
          have hbn : bx ≠ wr.heap.size := by have := lt_of_block hs.box; omega
          have hbn2 : bx < wr.heap.size := lt_of_block hs.box
          have hrow : RowS encRt 8 ((wr.alloc (.cells #[.int .u16 pf, .int .u16 pi, .int .i16 px, .int .i16 py, .int .i16 pxx, .int .i16 pxy, .int .i16 pyx, .int .i16 pyy] 29)).alloc (.cells #[.int .i64 pf, .int .i64 pi, .int .i64 px, .int .i64 py, .int .i64 pxx, .int .i64 pxy, .int .i64 pyx, .int .i64 pyy] 114)) (some ⟨wr.heap.size + 1, 0, none⟩) 1 [⟨pf, pi, px, py, pxx, pxy, pyx, pyy⟩] := by
            have := rowS_vals encRt_len (wr.alloc (.cells #[.int .u16 pf, .int .u16 pi, .int .i16 px, .int .i16 py, .int .i16 pxx, .int .i16 pxy, .int .i16 pyx, .int .i16 pyy] 29)) 114 [⟨pf, pi, px, py, pxx, pxy, pyx, pyy⟩] #[.int .i64 pf, .int .i64 pi, .int .i64 px, .int .i64 py, .int .i64 pxx, .int .i64 pxy, .int .i64 pyx, .int .i64 pyy] rfl 1 rfl
            rwa [show (wr.alloc (.cells #[.int .u16 pf, .int .u16 pi, .int .i16 px, .int .i16 py, .int .i16 pxx, .int .i16 pxy, .int .i16 pyx, .int .i16 pyy] 29)).heap.size = wr.heap.size + 1 by simp] at this
          clear hs hA hA2 hp
          go_wp2_with (at_builtin; refine wpList_append_rowS rfl (.tmp 31) (.tmp 62) _ rfl 114 encRt 8 encRt_len (by omega) encRt_one w.heap.size i1 _ 64 Try.underlying47 hi1 hz01 hz11 rfl hz21 QA j qc _ rfl hs2.qa (some ⟨wr.heap.size + 1, 0, none⟩) 1 1 [⟨pf, pi, px, py, pxx, pxy, pyx, pyy⟩] rfl hrow (by omega) (by omega) (by simp; omega) ?_; intro A3 c3 w1 hown1 hg1; have hs3 := hs2.appQ hown1 hg1; have c6' := hs3.cell 4 _ rfl; have f6' := hs3.thaw 4)
          rw [HT.out] at hs3
          have hs4 : OC L w (w1.setCell ⟨bx, 4, none⟩ (.slice A3 (j + 1) c3)) bx #[.int .i64 x0, .int .i64 x1, .int .i64 x2, .int .i64 x3, .slice A3 (j + 1) c3, .slice PA pn pc] A3 (j + 1) c3 (ps.take (j + 1)) := hs3.set 4 (.slice A3 (j + 1) c3)
          clear hs2 hs3 hown1 hg1 c6' f6' c6 hrow
          go_roundw
          case rel => exact ⟨j + 1, A3, c3, by omega, by go_num, hs4⟩
          case measure => simp [intOf]; omega
        · obtain rfl : j = sn := by omega
          rw [List.take_of_length_le (by have := HS.out; omega)] at hs
          have kr := hs.kp _ (by rw [← HL.out]; exact List.mem_cons_of_mem _ List.mem_cons_self)
          simp only at kr
          obtain ⟨b0, b1, b2, b3, b4, b5⟩ := cells6 hs.box
          have KR := Lib.hid (setRow_heap wr (w.heap.size + 1) _ #[.int .i64 x0, .int .i64 x1, .int .i64 x2, .int .i64 x3, .slice QA j qc, .slice PA pn pc] 49 (0, 0) kr)
          have HBl := Lib.hid (below_rowO (B := w.heap.size) (by omega : w.heap.size ≤ w.heap.size + 1) #[.int .i64 x0, .int .i64 x1, .int .i64 x2, .int .i64 x3, .slice QA j qc, .slice PA pn pc] hs.bel)
          have HRows : Hid (RcV.rows (wr.setRow (w.heap.size + 1) #[.int .i64 x0, .int .i64 x1, .int .i64 x2, .int .i64 x3, .slice QA j qc, .slice PA pn pc]) ⟨⟨x0, x1, x2, x3, ps, pr⟩, QA, j, qc, PA, pn, pc⟩) := by
            refine ⟨(hs.qa.row encRt_len).keep (by simp) (fun g e _ => setRow_other _ _ _ _ (ownS_neC hs.qa kr (by decide) g e)), ?_⟩
            exact (Hrp.out.below (hs.bel.trans ((below_rowO (B := w.heap.size) (by omega : w.heap.size ≤ w.heap.size + 1) _ (Below.refl _ wr)).mono (Nat.le_refl _))))
          clear hs hlt hj
          go_wp2_with (with_reducible refine wpList_store_row rfl 49 (.tmp 2) (.tmp 66) rfl (w.heap.size + 1) #[.int .i64 x0, .int .i64 x1, .int .i64 x2, .int .i64 x3, .slice QA j qc, .slice PA pn pc] rfl rfl 49 #[.int .i64 0, .int .i64 0, .int .i64 0, .int .i64 0, .slice none 0 0, .slice none 0 0] kr (rc6 _ _ _ _ _ _ _ _ _ _).1 (rc6 _ _ _ _ _ _ _ _ _ _).2.1 (rc6 _ _ _ _ _ _ _ _ _ _).2.2 ?_)
          exact bodyPost_ret (v := RcV.val ⟨⟨x0, x1, x2, x3, ps, pr⟩, QA, j, qc, PA, pn, pc⟩) (results_cell_row Try.results23 _ _ (w.heap.size + 1) 49 _ (0, 0) _ rfl KR.out Try.underlying49 rfl (rc6 _ _ _ _ _ _ _ _ _ _).1) rfl (HRet.out _ _ HRows.out rfl rfl rfl HBl.out)

end Go.Proofs.Ytgafjieghckimaa

/- compo: a glyph that isn't too great: few, as a contract over this seat's translation. -/
namespace Go.Proofs.Ytgafjieghckimaa
open Go.RowKit
set_option linter.unusedVariables false
set_option linter.unusedSimpArgs false

theorem ext_szC {w1 W : World} (h : Ext w1.drew W) : w1.heap.size ≤ W.heap.size := by have h2 := Below.size (show Below w1.drew.heap.size w1.drew W from h); exact h2
theorem ownS_emptyC {α : Type} (t : TypeId) (enc : α → List Value) (k : Nat) (w : World) (B : Nat) (h : B ≤ w.heap.size) : OwnS t enc k (w.alloc (.cells #[] t)) B (some ⟨w.heap.size, 0, none⟩) 0 0 [] :=
  ⟨rfl, by simp [flat], .inr ⟨w.heap.size, 0, #[], rfl, h, heap_alloc_new w _, by omega, by simp [maxLen], by simp, by simp [flat]⟩⟩
theorem Try.cpinfoF : (Try.prog.info? 29).map (fun i => (i.zero, i.size, i.bytes)) = some (some (.agg #[.int .u16 0, .int .u16 0, .int .i16 0, .int .i16 0, .int .i16 0, .int .i16 0, .int .i16 0, .int .i16 0]), 8, 16) := by kernel_rfl
theorem Try.cgsizeF : (Try.prog.info? 34).map (·.size) = some 6 := by kernel_rfl
theorem cg6 (x0 x1 x2 x3 : Int) (PA SA : Option Addr) (pn pc sn sc : Nat) : (Try.prog.info? 34).map (·.size) = some (#[Value.int .i16 x0, .int .i16 x1, .int .i16 x2, .int .i16 x3, .slice PA pn pc, .slice SA sn sc]).size ∧ (#[Value.int .i16 0, .int .i16 0, .int .i16 0, .int .i16 0, .slice none 0 0, .slice none 0 0]).size = (#[Value.int .i16 x0, .int .i16 x1, .int .i16 x2, .int .i16 x3, .slice PA pn pc, .slice SA sn sc]).size ∧ (#[Value.int .i16 x0, .int .i16 x1, .int .i16 x2, .int .i16 x3, .slice PA pn pc, .slice SA sn sc].all (·.oneCell')) = true :=
  ⟨Try.cgsizeF, rfl, by rw [← Array.all_toList]; rfl⟩

/-- A glyph of which the first 210 parts are left, and 30 bytes. -/
def cFew (g : Cg) : Cg := { g with ps := g.ps.take 210, pr := g.pr.take 30 }
theorem cFew_ok {g : Cg} (h : g.ok) : (cFew g).ok := ⟨h.bx, fun p hp => h.ps p (List.mem_of_mem_take hp), fun x hx => h.pr x (List.mem_of_mem_take hx)⟩
/-- What few leaves. -/
def RetCFew (w : World) (v : CgV) (e : Ending) (w' : World) : Prop := ∃ u : CgV, e = .returned u.val ∧ u.rows w' ∧ u.g = cFew v.g ∧ u.q ≤ 210 ∧ u.pn ≤ 30 ∧ Below w.heap.size w w' ∧ (∀ g, blockOf u.QA = some g → w.heap.size < g) ∧ (∀ g, blockOf u.PA = some g → w.heap.size < g)

set_option maxRecDepth 100000 in
set_option maxHeartbeats 4000000 in
theorem cfew_any (v : CgV) (w : World) (hr : v.rows w) (h1 : v.q ≤ v.qc) (h2 : v.pn ≤ 9223372036854775807) (h3 : v.q ≤ 9223372036854775807) : Calls Try.prog 20 #[v.val] w (RetCFew w v) := by
  obtain ⟨i1, hi1, hz01, hz11, hz21⟩ := info_parts Try.cpinfoF
  have hA0 := (Below.refl w.heap.size w).alloc (Nat.le_refl _) (.cells v.cells 34)
  have hA := hA0.alloc hA0.size (.cells #[.int .i16 0, .int .i16 0, .int .i16 0, .int .i16 0, .slice none 0 0, .slice none 0 0] 34)
  have hk0 : ((w.alloc (.cells v.cells 34)).alloc (.cells #[.int .i16 0, .int .i16 0, .int .i16 0, .int .i16 0, .slice none 0 0, .slice none 0 0] 34)).heap[w.heap.size]? = some (.cells v.cells 34 (0, 0)) := kept_alloc (heap_alloc_new w _) _
  have hkr0 : ((w.alloc (.cells v.cells 34)).alloc (.cells #[.int .i16 0, .int .i16 0, .int .i16 0, .int .i16 0, .slice none 0 0, .slice none 0 0] 34)).heap[w.heap.size + 1]? = some (.cells #[.int .i16 0, .int .i16 0, .int .i16 0, .int .i16 0, .slice none 0 0, .slice none 0 0] 34 (0, 0)) := by
    have := heap_alloc_new (w.alloc (.cells v.cells 34)) (.cells #[.int .i16 0, .int .i16 0, .int .i16 0, .int .i16 0, .slice none 0 0, .slice none 0 0] 34)
    rwa [show (w.alloc (.cells v.cells 34)).heap.size = w.heap.size + 1 by simp] at this
  have hrA := hr.below hA
  have hnm : w.heap.size + 1 < ((w.alloc (.cells v.cells 34)).alloc (.cells #[.int .i16 0, .int .i16 0, .int .i16 0, .int .i16 0, .slice none 0 0, .slice none 0 0] 34)).heap.size := by simp
  have HRet : Hid (∀ (u : CgV) w', u.rows w' → u.g = cFew v.g → u.q ≤ 210 → u.pn ≤ 30 → Below w.heap.size w w' → (∀ g, blockOf u.QA = some g → w.heap.size < g) → (∀ g, blockOf u.PA = some g → w.heap.size < g) → RetCFew w v (.returned u.val) w') := fun u w' g1 g2 g3 g4 g5 g6 g7 => ⟨u, rfl, g1, g2, g3, g4, g5, g6, g7⟩
  have HQl : Hid (v.g.ps.length = v.q) := hr.ps.len
  clear hA0 hr
  unfold cFew at HRet
  unfold CgV.val at *
  unfold CgV.cells at *
  obtain ⟨⟨x0, x1, x2, x3, ps, pr⟩, QA, q, qc, PA, pn, pc⟩ := v
  simp only at *
  go_enter Try.func20, Try.ntmps20
  go_upto_region 1 with fail
  generalize (w.alloc _).alloc _ = V at *
  have hkd : V.drew.heap[w.heap.size]? = some (.cells #[.int .i16 x0, .int .i16 x1, .int .i16 x2, .int .i16 x3, .slice QA q qc, .slice PA pn pc] 34 (0, 0)) := hk0
  have hkrd : V.drew.heap[w.heap.size + 1]? = some (.cells #[.int .i16 0, .int .i16 0, .int .i16 0, .int .i16 0, .slice none 0 0, .slice none 0 0] 34 (0, 0)) := hkr0
  obtain ⟨c0, c1, c2, c3, c4, c5⟩ := cells6 hkd
  obtain ⟨m, hm⟩ : ∃ m : Nat, m = min q 210 := ⟨_, rfl⟩
  have hmE : min (q : Int) 210 = (m : Int) := by omega
  have s0 : (0 : Int) ≤ (m : Int) := by omega
  have s1 : (m : Int) ≤ (q : Int) := by omega
  have s2 : (q : Int) ≤ (qc : Int) := by omega
  have s3 : (m : Int) ≤ (qc : Int) := by omega
  have hm1 : m ≤ 210 := by omega
  have hmq : m ≤ q := by omega
  have HTk : Hid (ps.take m = ps.take 210) := by
    show _ = _
    by_cases hq3 : q ≤ 210
    · rw [show m = q by omega, List.take_of_length_le (by rw [HQl.out]; exact Nat.le_refl _), List.take_of_length_le (by rw [HQl.out]; exact hq3)]
    · rw [show m = 210 by omega]
  have hx0 : Ext V.drew V.drew := Ext.refl _
  have Hm := Lib.hid hm
  clear hm c0 c1 c2 c3 hk0 hkr0
  have hrd := hrA.below ((Below.refl V.heap.size V).drew)
  have HPs : Hid (∀ W, Ext V.drew W → RowS encPt 8 W QA m (ps.take m)) := fun W hW => (RowS.take encPt_len hrd.ps hmq).below hW
  have HC : Hid (∀ W, Ext V.drew W → Calls Try.prog 21 #[.slice PA pn pc, .int .i64 30] W (RetB W (pr.take 30))) := fun W hW => cut_any _ _ _ pr 30 W (hrd.pr.below hW) h2 (by omega)
  clear hrA hrd
  refine regT_start 12 (Ext V.drew) (by kernel_rfl) ?_
  refine regT_take (i := 1) (d := some 4) (v := ?_) [8, 7, 2] hx0 rfl rfl (by kernel_rfl) (by kernel_rfl) (by kernel_rfl) (by kernel_rfl) (by kernel_rfl) (by decide) (fun _ _ _ h => h) (Or.inl ⟨by rfl, ?_⟩) ?_
  rotate_left
  · intro w' hx; (go_simp <;> with_reducible rfl)
  simp only [Act.put, List.setIfInBounds_toArray, List.set_cons_zero, List.set_cons_succ]
  refine regT_take (i := 2) (d := some 5) (v := ?_) [8, 7] hx0 rfl rfl (by kernel_rfl) (by kernel_rfl) (by kernel_rfl) (by kernel_rfl) (by kernel_rfl) (by decide) (fun _ _ _ h => h) (Or.inl ⟨by rfl, ?_⟩) ?_
  rotate_left
  · intro w' hx; have q0 := hx.cell c4; (go_simp <;> with_reducible rfl)
  simp only [Act.put, List.setIfInBounds_toArray, List.set_cons_zero, List.set_cons_succ]
  refine regT_take (i := 3) (d := some 6) (v := ?_) [8, 7, 6, 5, 4] hx0 rfl rfl (by kernel_rfl) (by kernel_rfl) (by kernel_rfl) (by kernel_rfl) (by kernel_rfl) (by decide) (fun _ _ _ h => h) (Or.inl ⟨by rfl, ?_⟩) ?_
  rotate_left
  · intro w' hx; (go_simp <;> with_reducible rfl)
  simp only [Act.put, List.setIfInBounds_toArray, List.set_cons_zero, List.set_cons_succ]
  refine regT_take (i := 4) (d := some 7) (v := ?_) [8, 7, 6, 5] hx0 rfl rfl (by kernel_rfl) (by kernel_rfl) (by kernel_rfl) (by kernel_rfl) (by kernel_rfl) (by decide) (fun _ _ _ h => h) (Or.inl ⟨by rfl, ?_⟩) ?_
  rotate_left
  · intro w' hx; have q0 := hx.cell c4; (go_simp <;> with_reducible rfl)
  simp only [Act.put, List.setIfInBounds_toArray, List.set_cons_zero, List.set_cons_succ]
  refine regT_take (i := 5) (d := some 8) (v := ?_) [8, 7, 6] hx0 rfl rfl (by kernel_rfl) (by kernel_rfl) (by kernel_rfl) (by kernel_rfl) (by kernel_rfl) (by decide) (fun _ _ _ h => h) (Or.inl ⟨by rfl, ?_⟩) ?_
  rotate_left
  · intro w' hx; (go_simp <;> with_reducible rfl)
  simp only [Act.put, List.setIfInBounds_toArray, List.set_cons_zero, List.set_cons_succ]
  refine regT_take (i := 6) (d := some 9) (v := ?_) [8, 7] hx0 rfl rfl (by kernel_rfl) (by kernel_rfl) (by kernel_rfl) (by kernel_rfl) (by kernel_rfl) (by decide) (fun _ _ _ h => h) (Or.inl ⟨by rfl, ?_⟩) ?_
  rotate_left
  · intro w' hx; (go_simp <;> with_reducible rfl)
  simp only [Act.put, List.setIfInBounds_toArray, List.set_cons_zero, List.set_cons_succ]
  try rw [hmE]
  refine regT_take (i := 7) (d := some 10) (v := ?_) [8] hx0 rfl rfl (by kernel_rfl) (by kernel_rfl) (by kernel_rfl) (by kernel_rfl) (by kernel_rfl) (by decide) (fun _ _ _ h => h) (Or.inl ⟨by rfl, ?_⟩) ?_
  rotate_left
  · intro w' hx; (go_simp <;> with_reducible rfl)
  simp only [Act.put, List.setIfInBounds_toArray, List.set_cons_zero, List.set_cons_succ]
  refine regT_take (i := 9) (d := some 12) (v := ?_) [10] hx0 rfl rfl (by kernel_rfl) (by kernel_rfl) (by kernel_rfl) (by kernel_rfl) (by kernel_rfl) (by decide) (fun _ _ _ h => h) (Or.inl ⟨by rfl, ?_⟩) ?_
  rotate_left
  · intro w' hx; (go_simp <;> with_reducible rfl)
  simp only [Act.put, List.setIfInBounds_toArray, List.set_cons_zero, List.set_cons_succ]
  refine regT_take (i := 10) (d := some 13) (v := ?_) [] hx0 rfl rfl (by kernel_rfl) (by kernel_rfl) (by kernel_rfl) (by kernel_rfl) (by kernel_rfl) (by decide) (fun _ _ _ h => h) (Or.inl ⟨by rfl, ?_⟩) ?_
  rotate_left
  · intro w' hx; have q0 := hx.cell c5; (go_simp <;> with_reducible rfl)
  simp only [Act.put, List.setIfInBounds_toArray, List.set_cons_zero, List.set_cons_succ]
  refine regT_one 0 _ (by kernel_rfl) rfl ?_
  intro K hK
  go_simp
  have hx0a := hx0.new (.cells #[] 29)
  have hP := ownS_emptyC 29 encPt 8 V.drew V.heap.size (ext_szC (w1 := V) hx0)
  refine hK.out _ _ (fun _ => hx0a) ?_
  clear hK K
  refine regT_one 8 _ (by kernel_rfl) rfl ?_
  intro K hK
  refine step_append_rowS rfl (.tmp 3) (.tmp 10) _ rfl 29 encPt 8 encPt_len (by omega) encPt_one V.heap.size i1 _ 16 Try.underlying30 hi1 hz01 hz11 rfl hz21 _ 0 0 [] rfl hP QA m qc (ps.take m) rfl (HPs.out _ hx0a) (by omega) (by omega) (ext_szC (w1 := V) hx0a) ?_
  intro E2 c2 W2 hE2 hg2
  have hX2 : Ext V.drew W2 := Below.grown hx0a hg2 (ext_szC (w1 := V) hx0a) (fun g e => (hP.from_ g e).1)
  rw [Nat.zero_add, List.nil_append] at hE2
  rw [Nat.zero_add]
  refine hK.out _ _ (fun _ => hX2) ?_
  clear hK K hP hg2
  simp only [Act.put, List.setIfInBounds_toArray, List.set_cons_zero, List.set_cons_succ]
  refine regT_two 11 12 _ _ (by kernel_rfl) rfl rfl ?_ ?_
  · skip
    intro K hK
    go_simp
    refine (HC.out _ hX2).mono ?_
    rintro e W4 ⟨P2, n2, d2, rfl, hC4, hb4⟩
    have hX4 := hX2.call hb4
    have hE4 := hE2.below hb4
    have hC5 := hC4.mono (B' := V.heap.size) (ext_szC (w1 := V) hX2)
    have hn2 : n2 ≤ 30 := by have h := hC4.len; rw [List.length_take] at h; omega
    refine hK.out _ _ (fun _ => hX4) ?_
    clear hK K hC4 hb4
    have hk4 := kept_block hkd hX4
    have hkr4 := kept_block hkrd hX4
    obtain ⟨z0, z1, z2, z3, z4, z5⟩ := cells6 hk4
    have zf := thawed hk4
    refine regT_one 12 _ (by kernel_rfl) rfl ?_
    intro K hK
    go_simp
    refine hK.out _ _ (fun h => absurd h (by decide)) ?_
    clear hK K
    refine regT_one 13 _ (by kernel_rfl) rfl ?_
    intro K hK
    go_simp
    refine hK.out _ _ (fun h => absurd h (by decide)) ?_
    clear hK K
    refine regT_one 14 _ (by kernel_rfl) rfl ?_
    intro K hK
    go_simp
    refine hK.out _ _ (fun h => absurd h (by decide)) ?_
    clear hK K
    refine regT_one 15 _ (by kernel_rfl) rfl ?_
    intro K hK
    go_simp
    refine hK.out _ _ (fun h => absurd h (by decide)) ?_
    clear hK K
    refine regT_done (by kernel_rfl) ?_ _
    have hne : ∀ g, V.heap.size ≤ g → g ≠ w.heap.size := fun g h => by omega
    have hbk := set_block (set_block hk4 4 (.slice E2 m c2)) 5 (.slice P2 n2 d2)
    have hbkr : ((W4.setCell ⟨w.heap.size, 4, none⟩ (.slice E2 m c2)).setCell ⟨w.heap.size, 5, none⟩ (.slice P2 n2 d2)).heap[w.heap.size + 1]? = _ := (Below.heap_setCell _ _ _ _ (show w.heap.size + 1 ≠ w.heap.size by omega)).trans ((Below.heap_setCell _ _ _ _ (show w.heap.size + 1 ≠ w.heap.size by omega)).trans hkr4)
    have hfar : ∀ g, V.heap.size ≤ g → ((W4.setCell ⟨w.heap.size, 4, none⟩ (.slice E2 m c2)).setCell ⟨w.heap.size, 5, none⟩ (.slice P2 n2 d2)).heap[g]? = W4.heap[g]? := fun g hg => (Below.heap_setCell _ _ _ _ (hne g hg)).trans (Below.heap_setCell _ _ _ _ (hne g hg))
    have hbw : Below w.heap.size w W4 := (hA.drew).trans (Below.mono hX4 hA.size)
    have hbw2 := (hbw.setCell (p := ⟨w.heap.size, 4, none⟩) (Nat.le_refl _) (.slice E2 m c2)).setCell (p := ⟨w.heap.size, 5, none⟩) (Nat.le_refl _) (.slice P2 n2 d2)
    have hps5 := (hE4.row encPt_len).keep (w' := (W4.setCell ⟨w.heap.size, 4, none⟩ (.slice E2 m c2)).setCell ⟨w.heap.size, 5, none⟩ (.slice P2 n2 d2)) (by simp [World.setCell]) (fun g e _ => hfar g (hE4.from_ g e).1)
    have hpr5 := hC5.row.keep (w' := (W4.setCell ⟨w.heap.size, 4, none⟩ (.slice E2 m c2)).setCell ⟨w.heap.size, 5, none⟩ (.slice P2 n2 d2)) (by simp [World.setCell]) (fun g e _ => hfar g (hC5.from_ g e).1)
    have hFr1 : ∀ g, blockOf E2 = some g → w.heap.size < g := fun g e => by have := (hE4.from_ g e).1; omega
    have hFr2 : ∀ g, blockOf P2 = some g → w.heap.size < g := fun g e => by have := (hC5.from_ g e).1; omega
    have hRowNe : ∀ g, blockOf E2 = some g → g ≠ w.heap.size + 1 := fun g e => by have := (hE4.from_ g e).1; omega
    have hRowNe2 : ∀ g, blockOf P2 = some g → g ≠ w.heap.size + 1 := fun g e => by have := (hC5.from_ g e).1; omega
    simp only [List.setIfInBounds_toArray, List.set_cons_zero, List.set_cons_succ] at hbk
    clear z0 z1 z2 z3 z4 z5 zf hk4 hkr4 hfar hbw hX4 hE4 hC5 hX2 hE2 hx0a hx0 hkd hkrd c4 c5 HC HPs hA
    generalize (W4.setCell _ _).setCell _ _ = W5 at *
    rw [HTk.out] at hps5
    obtain ⟨y0, y1, y2, y3, y4, y5⟩ := cells6 hbk
    have KR := Lib.hid (setRow_heap W5 (w.heap.size + 1) _ #[.int .i16 x0, .int .i16 x1, .int .i16 x2, .int .i16 x3, .slice E2 m c2, .slice P2 n2 d2] 34 (0, 0) hbkr)
    have HBl := Lib.hid (below_rowO (B := w.heap.size) (by omega : w.heap.size ≤ w.heap.size + 1) #[.int .i16 x0, .int .i16 x1, .int .i16 x2, .int .i16 x3, .slice E2 m c2, .slice P2 n2 d2] hbw2)
    have HRows : Hid (CgV.rows (W5.setRow (w.heap.size + 1) #[.int .i16 x0, .int .i16 x1, .int .i16 x2, .int .i16 x3, .slice E2 m c2, .slice P2 n2 d2]) ⟨⟨x0, x1, x2, x3, ps.take 210, pr.take 30⟩, E2, m, c2, P2, n2, d2⟩) := by
      exact ⟨hps5.keep (by simp) (fun g e _ => setRow_other _ _ _ _ (hRowNe g e)), hpr5.keep (by simp) (fun g e _ => setRow_other _ _ _ _ (hRowNe2 g e))⟩
    go_wp2_with (with_reducible refine wpList_store_row rfl 34 (.tmp 2) (.tmp 17) rfl (w.heap.size + 1) #[.int .i16 x0, .int .i16 x1, .int .i16 x2, .int .i16 x3, .slice E2 m c2, .slice P2 n2 d2] rfl rfl 34 #[.int .i16 0, .int .i16 0, .int .i16 0, .int .i16 0, .slice none 0 0, .slice none 0 0] hbkr (cg6 _ _ _ _ _ _ _ _ _ _).1 (cg6 _ _ _ _ _ _ _ _ _ _).2.1 (cg6 _ _ _ _ _ _ _ _ _ _).2.2 ?_)
    exact bodyPost_ret (v := CgV.val ⟨⟨x0, x1, x2, x3, ps.take 210, pr.take 30⟩, E2, m, c2, P2, n2, d2⟩) (results_cell_row Try.results20 _ _ (w.heap.size + 1) 34 _ (0, 0) _ rfl KR.out Try.underlying34 rfl (cg6 _ _ _ _ _ _ _ _ _ _).1) rfl (HRet.out _ _ HRows.out rfl hm1 hn2 HBl.out hFr1 hFr2)
  · skip
    intro K hK
    go_simp
    refine hK.out _ _ (fun h => absurd h (by decide)) ?_
    clear hK K
    refine regT_one 11 _ (by kernel_rfl) rfl ?_
    intro K hK
    go_simp
    refine (HC.out _ hX2).mono ?_
    rintro e W4 ⟨P2, n2, d2, rfl, hC4, hb4⟩
    have hX4 := hX2.call hb4
    have hE4 := hE2.below hb4
    have hC5 := hC4.mono (B' := V.heap.size) (ext_szC (w1 := V) hX2)
    have hn2 : n2 ≤ 30 := by have h := hC4.len; rw [List.length_take] at h; omega
    refine hK.out _ _ (fun _ => hX4) ?_
    clear hK K hC4 hb4
    have hk4 := kept_block hkd hX4
    have hkr4 := kept_block hkrd hX4
    obtain ⟨z0, z1, z2, z3, z4, z5⟩ := cells6 hk4
    have zf := thawed hk4
    refine regT_one 13 _ (by kernel_rfl) rfl ?_
    intro K hK
    go_simp
    refine hK.out _ _ (fun h => absurd h (by decide)) ?_
    clear hK K
    refine regT_one 14 _ (by kernel_rfl) rfl ?_
    intro K hK
    go_simp
    refine hK.out _ _ (fun h => absurd h (by decide)) ?_
    clear hK K
    refine regT_one 15 _ (by kernel_rfl) rfl ?_
    intro K hK
    go_simp
    refine hK.out _ _ (fun h => absurd h (by decide)) ?_
    clear hK K
    refine regT_done (by kernel_rfl) ?_ _
    have hne : ∀ g, V.heap.size ≤ g → g ≠ w.heap.size := fun g h => by omega
    have hbk := set_block (set_block hk4 4 (.slice E2 m c2)) 5 (.slice P2 n2 d2)
    have hbkr : ((W4.setCell ⟨w.heap.size, 4, none⟩ (.slice E2 m c2)).setCell ⟨w.heap.size, 5, none⟩ (.slice P2 n2 d2)).heap[w.heap.size + 1]? = _ := (Below.heap_setCell _ _ _ _ (show w.heap.size + 1 ≠ w.heap.size by omega)).trans ((Below.heap_setCell _ _ _ _ (show w.heap.size + 1 ≠ w.heap.size by omega)).trans hkr4)
    have hfar : ∀ g, V.heap.size ≤ g → ((W4.setCell ⟨w.heap.size, 4, none⟩ (.slice E2 m c2)).setCell ⟨w.heap.size, 5, none⟩ (.slice P2 n2 d2)).heap[g]? = W4.heap[g]? := fun g hg => (Below.heap_setCell _ _ _ _ (hne g hg)).trans (Below.heap_setCell _ _ _ _ (hne g hg))
    have hbw : Below w.heap.size w W4 := (hA.drew).trans (Below.mono hX4 hA.size)
    have hbw2 := (hbw.setCell (p := ⟨w.heap.size, 4, none⟩) (Nat.le_refl _) (.slice E2 m c2)).setCell (p := ⟨w.heap.size, 5, none⟩) (Nat.le_refl _) (.slice P2 n2 d2)
    have hps5 := (hE4.row encPt_len).keep (w' := (W4.setCell ⟨w.heap.size, 4, none⟩ (.slice E2 m c2)).setCell ⟨w.heap.size, 5, none⟩ (.slice P2 n2 d2)) (by simp [World.setCell]) (fun g e _ => hfar g (hE4.from_ g e).1)
    have hpr5 := hC5.row.keep (w' := (W4.setCell ⟨w.heap.size, 4, none⟩ (.slice E2 m c2)).setCell ⟨w.heap.size, 5, none⟩ (.slice P2 n2 d2)) (by simp [World.setCell]) (fun g e _ => hfar g (hC5.from_ g e).1)
    have hFr1 : ∀ g, blockOf E2 = some g → w.heap.size < g := fun g e => by have := (hE4.from_ g e).1; omega
    have hFr2 : ∀ g, blockOf P2 = some g → w.heap.size < g := fun g e => by have := (hC5.from_ g e).1; omega
    have hRowNe : ∀ g, blockOf E2 = some g → g ≠ w.heap.size + 1 := fun g e => by have := (hE4.from_ g e).1; omega
    have hRowNe2 : ∀ g, blockOf P2 = some g → g ≠ w.heap.size + 1 := fun g e => by have := (hC5.from_ g e).1; omega
    simp only [List.setIfInBounds_toArray, List.set_cons_zero, List.set_cons_succ] at hbk
    clear z0 z1 z2 z3 z4 z5 zf hk4 hkr4 hfar hbw hX4 hE4 hC5 hX2 hE2 hx0a hx0 hkd hkrd c4 c5 HC HPs hA
    generalize (W4.setCell _ _).setCell _ _ = W5 at *
    rw [HTk.out] at hps5
    obtain ⟨y0, y1, y2, y3, y4, y5⟩ := cells6 hbk
    have KR := Lib.hid (setRow_heap W5 (w.heap.size + 1) _ #[.int .i16 x0, .int .i16 x1, .int .i16 x2, .int .i16 x3, .slice E2 m c2, .slice P2 n2 d2] 34 (0, 0) hbkr)
    have HBl := Lib.hid (below_rowO (B := w.heap.size) (by omega : w.heap.size ≤ w.heap.size + 1) #[.int .i16 x0, .int .i16 x1, .int .i16 x2, .int .i16 x3, .slice E2 m c2, .slice P2 n2 d2] hbw2)
    have HRows : Hid (CgV.rows (W5.setRow (w.heap.size + 1) #[.int .i16 x0, .int .i16 x1, .int .i16 x2, .int .i16 x3, .slice E2 m c2, .slice P2 n2 d2]) ⟨⟨x0, x1, x2, x3, ps.take 210, pr.take 30⟩, E2, m, c2, P2, n2, d2⟩) := by
      exact ⟨hps5.keep (by simp) (fun g e _ => setRow_other _ _ _ _ (hRowNe g e)), hpr5.keep (by simp) (fun g e _ => setRow_other _ _ _ _ (hRowNe2 g e))⟩
    go_wp2_with (with_reducible refine wpList_store_row rfl 34 (.tmp 2) (.tmp 17) rfl (w.heap.size + 1) #[.int .i16 x0, .int .i16 x1, .int .i16 x2, .int .i16 x3, .slice E2 m c2, .slice P2 n2 d2] rfl rfl 34 #[.int .i16 0, .int .i16 0, .int .i16 0, .int .i16 0, .slice none 0 0, .slice none 0 0] hbkr (cg6 _ _ _ _ _ _ _ _ _ _).1 (cg6 _ _ _ _ _ _ _ _ _ _).2.1 (cg6 _ _ _ _ _ _ _ _ _ _).2.2 ?_)
    exact bodyPost_ret (v := CgV.val ⟨⟨x0, x1, x2, x3, ps.take 210, pr.take 30⟩, E2, m, c2, P2, n2, d2⟩) (results_cell_row Try.results20 _ _ (w.heap.size + 1) 34 _ (0, 0) _ rfl KR.out Try.underlying34 rfl (cg6 _ _ _ _ _ _ _ _ _ _).1) rfl (HRet.out _ _ HRows.out rfl hm1 hn2 HBl.out hFr1 hFr2)

end Go.Proofs.Ytgafjieghckimaa

/- The document's glyphs of parts: Has, kind, fits, Right, as contracts over this seat's translation. -/
namespace Go.Proofs.Ytgafjieghckimaa
open Go.RowKit
set_option linter.unusedVariables false
set_option linter.unusedSimpArgs false

set_option maxRecDepth 100000 in
theorem rhas_any (f k : Int) (w : World) (f0 : 0 ≤ f) (f1 : f ≤ 1000000) (k0 : 0 < k) (k1 : k ≤ 100000) : Calls Try.prog 62 #[.int .i64 f, .int .i64 k] w fun e w' => e = .returned (.bool (fb f k)) ∧ w = w' := by
  have hk : ¬ k = 0 := by omega
  have hk' : ¬ k = -1 := by omega
  have hd : Int.tdiv f k = f / k := by rw [Int.tdiv_eq_ediv_of_nonneg f0]
  have hd0 : 0 ≤ f / k := Int.ediv_nonneg f0 (by omega)
  have hd1 : f / k ≤ 1000000 := Int.le_trans (Int.ediv_le_self k f0) f1
  have hm : Int.tmod (f / k) 2 = f / k % 2 := by rw [Int.tmod_eq_emod_of_nonneg hd0]
  unfold fb
  generalize f / k = d at *
  go_enter Try.func62, Try.ntmps62
  go_wp2
  go_ret
  exact ⟨by show Ending.returned (.bool (d % 2 == 1)) = _; congr 2, rfl⟩

/-- How many numbers a matrix has; below 0: it isn't told. -/
def rkd (f : Int) : Int := if twoK f then -1 else if fb f 8 then 1 else if fb f 64 then 2 else if fb f 128 then 4 else 0
theorem rkd_bd (f : Int) : -1 ≤ rkd f ∧ rkd f ≤ 4 := by unfold rkd; split; omega; split; omega; split; omega; split <;> omega

set_option maxRecDepth 100000 in
theorem rkind_any (f : Int) (w : World) (f0 : 0 ≤ f) (f1 : f ≤ 1000000) : Calls Try.prog 65 #[.int .i64 f] w fun e w' => e = .returned (.int .i64 (rkd f)) ∧ ∃ q, w' = w.drewN q := by
  have H1 := Lib.hid (fun W => rhas_any f 8 W f0 f1 (by omega) (by omega))
  have H2 := Lib.hid (fun W => rhas_any f 64 W f0 f1 (by omega) (by omega))
  have H3 := Lib.hid (fun W => rhas_any f 128 W f0 f1 (by omega) (by omega))
  unfold rkd twoK
  generalize fb f 8 = a at *
  generalize fb f 64 = b at *
  generalize fb f 128 = c at *
  clear f0 f1
  go_enter Try.func65, Try.ntmps65
  go_wp2_with fail
  with_reducible refine (H1.out _).mono ?_
  rintro e w1 ⟨rfl, rfl⟩
  go_wp2_with fail
  with_reducible refine (H2.out _).mono ?_
  rintro e w1 ⟨rfl, rfl⟩
  go_wp2_with fail
  with_reducible refine (H3.out _).mono ?_
  rintro e w1 ⟨rfl, rfl⟩
  cases a <;> cases b <;> cases c
  all_goals
    go_wp2
    go_ret
    exact ⟨rfl, by first | exact ⟨0, rfl⟩ | exact ⟨1, rfl⟩ | exact ⟨_, rfl⟩⟩

end Go.Proofs.Ytgafjieghckimaa

/- The document's glyphs of parts: fits, as a contract over this seat's translation. -/
namespace Go.Proofs.Ytgafjieghckimaa
open Go.RowKit
set_option linter.unusedVariables false
set_option linter.unusedSimpArgs false

theorem cells4R {w : World} {b : Nat} {t : TypeId} {x0 x1 x2 x3 : Value} (h : w.heap[b]? = some (.cells #[x0, x1, x2, x3] t (0, 0))) :
    w.cell? ⟨b, 0, none⟩ = some x0 ∧ w.cell? ⟨b, 1, none⟩ = some x1 ∧ w.cell? ⟨b, 2, none⟩ = some x2 ∧ w.cell? ⟨b, 3, none⟩ = some x3 :=
  ⟨cell_of_row _ _ 0 _ _ _ h, cell_of_row _ _ 1 _ _ _ h, cell_of_row _ _ 2 _ _ _ h, cell_of_row _ _ 3 _ _ _ h⟩
theorem heap_drewQ {w w1 : World} {q b : Nat} {o : Option Obj} (h : w1 = w.drewN q) (hk : w.heap[b]? = o) : w1.heap[b]? = o := by subst h; exact hk
def ptR (p : Pt) : Value := .agg #[.int .i64 p.f, .int .i64 p.i, .int .i64 p.x, .int .i64 p.y, .int .i64 p.xx, .int .i64 p.xy, .int .i64 p.yx, .int .i64 p.yy]
theorem matB_rkd (p : Pt) (h : twoK p.f = false) : matB (knd p.f) p = (decide (rkd p.f = 4) || (decide (p.xy = 0) && decide (p.yx = 0) && (decide (rkd p.f = 2) || (decide (p.xx = p.yy) && (decide (rkd p.f = 1) || decide (p.xx = 16384)))))) := by
  unfold rkd
  rw [h]
  unfold twoK at h
  unfold knd matB straight unitB
  revert h
  cases fb p.f 8 <;> cases fb p.f 64 <;> cases fb p.f 128 <;> simp
  by_cases h1 : p.xx = 16384
  · rw [h1]
    by_cases h2 : p.xy = 0 <;> by_cases h3 : p.yx = 0 <;> simp [h2, h3, eq_comm]
  · simp [h1]
theorem rkd_in (f : Int) (h : twoK f = false) : rkd f = 0 ∨ rkd f = 1 ∨ rkd f = 2 ∨ rkd f = 4 := by
  unfold rkd
  rw [h]
  cases fb f 8 <;> cases fb f 64 <;> cases fb f 128 <;> simp

set_option maxRecDepth 100000 in
set_option maxHeartbeats 4000000 in
theorem rfits_any (p : Pt) (hp : p.ok) (w : World) : Calls Try.prog 61 #[ptR p] w (Ret w (.bool (ptRight p))) := by
  have hA := (Below.refl w.heap.size w).alloc (Nat.le_refl _) (.cells #[.int .i64 p.f, .int .i64 p.i, .int .i64 p.x, .int .i64 p.y, .int .i64 p.xx, .int .i64 p.xy, .int .i64 p.yx, .int .i64 p.yy] 114)
  have hk := heap_alloc_new w (.cells #[.int .i64 p.f, .int .i64 p.i, .int .i64 p.x, .int .i64 p.y, .int .i64 p.xx, .int .i64 p.xy, .int .i64 p.yx, .int .i64 p.yy] 114)
  have g1 : p.f ≤ 1000000 := by have := hp.f.2; omega
  have HK := Lib.hid (fun W => rkind_any p.f W hp.f.1 g1)
  have H2 := Lib.hid (fun W => rhas_any p.f 2 W hp.f.1 g1 (by omega) (by omega))
  have H16 := Lib.hid (fun W => rhas_any p.f 16 W hp.f.1 g1 (by omega) (by omega))
  have H32 := Lib.hid (fun W => rhas_any p.f 32 W hp.f.1 g1 (by omega) (by omega))
  have H2048 := Lib.hid (fun W => rhas_any p.f 2048 W hp.f.1 g1 (by omega) (by omega))
  have H1 := Lib.hid (fun W => rhas_any p.f 1 W hp.f.1 g1 (by omega) (by omega))
  have HM := Lib.hid (matB_rkd p)
  have HI := Lib.hid (rkd_in p.f)
  have HT : Hid (twoK p.f = true → rkd p.f = -1) := fun h => by unfold rkd; rw [h]; rfl
  have HR : Hid (ptRight p = (!(fb p.f 16 || fb p.f 32 || fb p.f 2048 || decide (8192 ≤ p.f)) && fb p.f 2 && !twoK p.f && matB (knd p.f) p && (fb p.f 1 || (byteB p.x && byteB p.y)))) := rfl
  rw [HR.out]
  clear HR
  unfold byteB ptR
  generalize twoK p.f = tk at *
  generalize rkd p.f = k at *
  generalize matB (knd p.f) p = mb at *
  generalize fb p.f 2 = f2 at *
  generalize fb p.f 16 = f16 at *
  generalize fb p.f 32 = f32 at *
  generalize fb p.f 2048 = f2048 at *
  generalize fb p.f 1 = f1 at *
  have hf0 := hp.f.1
  have hf1 := hp.f.2
  clear hp g1
  obtain ⟨f, i, x, y, xx, xy, yx, yy⟩ := p
  simp only at *
  obtain ⟨c0, c1, c2, c3, c4, c5, c6, c7⟩ := cells8 hk
  go_enter Try.func61, Try.ntmps61
  go_wp2_with fail
  with_reducible refine (HK.out _).mono ?_
  rintro e w1 ⟨rfl, q, hw1⟩
  have hA1 := below_drewN hA q
  rw [← hw1] at hA1
  have hk1 := heap_drewQ hw1 hk
  clear c0 c1 c2 c3 c4 c5 c6 c7 hk
  obtain ⟨c0, c1, c2, c3, c4, c5, c6, c7⟩ := cells8 hk1
  clear hk1
  clear hA hw1 HK
  go_wp2_with fail
  with_reducible refine (H2.out _).mono ?_
  rintro e w2 ⟨rfl, rfl⟩
  cases f2 with
  | false =>
    go_wp2_with fail
    go_ret
    exact ⟨by first | (simp; done) | (simp; intros; omega), hA1⟩
  | true =>
    cases tk with
    | true =>
      obtain rfl := HT.out rfl
      go_wp2_with fail
      go_ret
      exact ⟨by first | (simp; done) | (simp; intros; omega), hA1⟩
    | false =>
      have HI2 := Lib.hid (HI.out rfl)
      have HM2 := Lib.hid (HM.out rfl)
      clear HI HM HT
      have hkge : ¬ k < 0 := by rcases HI2.out with h | h | h | h <;> omega
      go_wp2_with fail
      with_reducible refine (H16.out _).mono ?_
      rintro e w2 ⟨rfl, rfl⟩
      cases f16 with
      | true =>
        go_wp2_with fail
        go_ret
        exact ⟨by first | (simp; done) | (simp; intros; omega), hA1⟩
      | false =>
        go_wp2_with fail
        with_reducible refine (H32.out _).mono ?_
        rintro e w2 ⟨rfl, rfl⟩
        cases f32 with
        | true =>
          go_wp2_with fail
          go_ret
          exact ⟨by first | (simp; done) | (simp; intros; omega), hA1⟩
        | false =>
          go_wp2_with fail
          with_reducible refine (H2048.out _).mono ?_
          rintro e w2 ⟨rfl, rfl⟩
          cases f2048 with
          | true =>
            go_wp2_with fail
            go_ret
            exact ⟨by first | (simp; done) | (simp; intros; omega), hA1⟩
          | false =>
            by_cases hbig : 8192 ≤ f
            · skip
              go_wp2_with fail
              go_ret
              exact ⟨by first | (simp [hbig]; done) | (simp [hbig]; intros; omega), hA1⟩
            · rw [decide_eq_false hbig]
              go_wp2_with fail
              with_reducible refine (H1.out _).mono ?_
              rintro e w2 ⟨rfl, rfl⟩
              cases f1 with
              | true =>
                go_upto_region 7 with fail
                have hA2 := hA1.alloc hA1.size (.cells #[.int .i64 xx, .int .i64 xy, .int .i64 yx, .int .i64 yy] 46)
                have hk2 := heap_alloc_new w1 (.cells #[.int .i64 xx, .int .i64 xy, .int .i64 yx, .int .i64 yy] 46)
                obtain ⟨d0, d1, d2, d3⟩ := cells4R hk2
                clear hk2
                rcases HI2.out with rfl | rfl | rfl | rfl
                · skip
                  by_cases h1 : xy = 0
                  · subst h1
                    by_cases h2 : yx = 0
                    · subst h2
                      by_cases h3 : xx = yy
                      · subst h3
                        have e3 : (xx == xx) = true := by simp
                        by_cases h4 : xx = 16384
                        · subst h4
                          go_wp2
                          go_ret
                          exact ⟨by rw [HM2.out]; first | (simp; done) | (simp; omega), by first | exact hA2 | exact hA2.drew⟩
                        · have e4 : (xx == 16384) = false := by simp [h4]
                          go_wp2
                          go_ret
                          exact ⟨by rw [HM2.out]; first | (simp [h4]; done) | (simp [h4]; omega), by first | exact hA2 | exact hA2.drew⟩
                      · have e3 : (xx == yy) = false := by simp [h3]
                        go_wp2
                        go_ret
                        exact ⟨by rw [HM2.out]; first | (simp [h3]; done) | (simp [h3]; omega), by first | exact hA2 | exact hA2.drew⟩
                    · have e2 : (yx == 0) = false := by simp [h2]
                      go_wp2
                      go_ret
                      exact ⟨by rw [HM2.out]; first | (simp [h2]; done) | (simp [h2]; omega), by first | exact hA2 | exact hA2.drew⟩
                  · have e1 : (xy == 0) = false := by simp [h1]
                    go_wp2
                    go_ret
                    exact ⟨by rw [HM2.out]; first | (simp [h1]; done) | (simp [h1]; omega), by first | exact hA2 | exact hA2.drew⟩
                · skip
                  by_cases h1 : xy = 0
                  · subst h1
                    by_cases h2 : yx = 0
                    · subst h2
                      by_cases h3 : xx = yy
                      · subst h3
                        have e3 : (xx == xx) = true := by simp
                        go_wp2
                        go_ret
                        exact ⟨by rw [HM2.out]; first | (simp; done) | (simp; omega), by first | exact hA2 | exact hA2.drew⟩
                      · have e3 : (xx == yy) = false := by simp [h3]
                        go_wp2
                        go_ret
                        exact ⟨by rw [HM2.out]; first | (simp [h3]; done) | (simp [h3]; omega), by first | exact hA2 | exact hA2.drew⟩
                    · have e2 : (yx == 0) = false := by simp [h2]
                      go_wp2
                      go_ret
                      exact ⟨by rw [HM2.out]; first | (simp [h2]; done) | (simp [h2]; omega), by first | exact hA2 | exact hA2.drew⟩
                  · have e1 : (xy == 0) = false := by simp [h1]
                    go_wp2
                    go_ret
                    exact ⟨by rw [HM2.out]; first | (simp [h1]; done) | (simp [h1]; omega), by first | exact hA2 | exact hA2.drew⟩
                · skip
                  by_cases h1 : xy = 0
                  · subst h1
                    by_cases h2 : yx = 0
                    · subst h2
                      go_wp2
                      go_ret
                      exact ⟨by rw [HM2.out]; first | (simp; done) | (simp; omega), by first | exact hA2 | exact hA2.drew⟩
                    · have e2 : (yx == 0) = false := by simp [h2]
                      go_wp2
                      go_ret
                      exact ⟨by rw [HM2.out]; first | (simp [h2]; done) | (simp [h2]; omega), by first | exact hA2 | exact hA2.drew⟩
                  · have e1 : (xy == 0) = false := by simp [h1]
                    go_wp2
                    go_ret
                    exact ⟨by rw [HM2.out]; first | (simp [h1]; done) | (simp [h1]; omega), by first | exact hA2 | exact hA2.drew⟩
                · skip
                  go_wp2
                  go_ret
                  exact ⟨by rw [HM2.out]; first | (simp; done) | (simp; omega), by first | exact hA2 | exact hA2.drew⟩
              | false =>
                by_cases h_x1 : x < -128
                · rw [decide_eq_false (show ¬ -128 ≤ x by omega)]
                  go_wp2_with fail
                  go_ret
                  exact ⟨by first | (simp; done) | (simp; intros; omega), hA1⟩
                · rw [decide_eq_true (show -128 ≤ x by omega)]
                  by_cases h_x0 : 127 < x
                  · rw [decide_eq_false (show ¬ x ≤ 127 by omega)]
                    go_wp2_with fail
                    go_ret
                    exact ⟨by first | (simp; done) | (simp; intros; omega), hA1⟩
                  · rw [decide_eq_true (show x ≤ 127 by omega)]
                    by_cases h_y1 : y < -128
                    · rw [decide_eq_false (show ¬ -128 ≤ y by omega)]
                      go_wp2_with fail
                      go_ret
                      exact ⟨by first | (simp; done) | (simp; intros; omega), hA1⟩
                    · rw [decide_eq_true (show -128 ≤ y by omega)]
                      by_cases h_y0 : 127 < y
                      · rw [decide_eq_false (show ¬ y ≤ 127 by omega)]
                        go_wp2_with fail
                        go_ret
                        exact ⟨by first | (simp; done) | (simp; intros; omega), hA1⟩
                      · rw [decide_eq_true (show y ≤ 127 by omega)]
                        go_upto_region 7 with fail
                        have hA2 := hA1.alloc hA1.size (.cells #[.int .i64 xx, .int .i64 xy, .int .i64 yx, .int .i64 yy] 46)
                        have hk2 := heap_alloc_new w1 (.cells #[.int .i64 xx, .int .i64 xy, .int .i64 yx, .int .i64 yy] 46)
                        obtain ⟨d0, d1, d2, d3⟩ := cells4R hk2
                        clear hk2
                        rcases HI2.out with rfl | rfl | rfl | rfl
                        · skip
                          by_cases h1 : xy = 0
                          · subst h1
                            by_cases h2 : yx = 0
                            · subst h2
                              by_cases h3 : xx = yy
                              · subst h3
                                have e3 : (xx == xx) = true := by simp
                                by_cases h4 : xx = 16384
                                · subst h4
                                  go_wp2
                                  go_ret
                                  exact ⟨by rw [HM2.out]; first | (simp; done) | (simp; omega), by first | exact hA2 | exact hA2.drew⟩
                                · have e4 : (xx == 16384) = false := by simp [h4]
                                  go_wp2
                                  go_ret
                                  exact ⟨by rw [HM2.out]; first | (simp [h4]; done) | (simp [h4]; omega), by first | exact hA2 | exact hA2.drew⟩
                              · have e3 : (xx == yy) = false := by simp [h3]
                                go_wp2
                                go_ret
                                exact ⟨by rw [HM2.out]; first | (simp [h3]; done) | (simp [h3]; omega), by first | exact hA2 | exact hA2.drew⟩
                            · have e2 : (yx == 0) = false := by simp [h2]
                              go_wp2
                              go_ret
                              exact ⟨by rw [HM2.out]; first | (simp [h2]; done) | (simp [h2]; omega), by first | exact hA2 | exact hA2.drew⟩
                          · have e1 : (xy == 0) = false := by simp [h1]
                            go_wp2
                            go_ret
                            exact ⟨by rw [HM2.out]; first | (simp [h1]; done) | (simp [h1]; omega), by first | exact hA2 | exact hA2.drew⟩
                        · skip
                          by_cases h1 : xy = 0
                          · subst h1
                            by_cases h2 : yx = 0
                            · subst h2
                              by_cases h3 : xx = yy
                              · subst h3
                                have e3 : (xx == xx) = true := by simp
                                go_wp2
                                go_ret
                                exact ⟨by rw [HM2.out]; first | (simp; done) | (simp; omega), by first | exact hA2 | exact hA2.drew⟩
                              · have e3 : (xx == yy) = false := by simp [h3]
                                go_wp2
                                go_ret
                                exact ⟨by rw [HM2.out]; first | (simp [h3]; done) | (simp [h3]; omega), by first | exact hA2 | exact hA2.drew⟩
                            · have e2 : (yx == 0) = false := by simp [h2]
                              go_wp2
                              go_ret
                              exact ⟨by rw [HM2.out]; first | (simp [h2]; done) | (simp [h2]; omega), by first | exact hA2 | exact hA2.drew⟩
                          · have e1 : (xy == 0) = false := by simp [h1]
                            go_wp2
                            go_ret
                            exact ⟨by rw [HM2.out]; first | (simp [h1]; done) | (simp [h1]; omega), by first | exact hA2 | exact hA2.drew⟩
                        · skip
                          by_cases h1 : xy = 0
                          · subst h1
                            by_cases h2 : yx = 0
                            · subst h2
                              go_wp2
                              go_ret
                              exact ⟨by rw [HM2.out]; first | (simp; done) | (simp; omega), by first | exact hA2 | exact hA2.drew⟩
                            · have e2 : (yx == 0) = false := by simp [h2]
                              go_wp2
                              go_ret
                              exact ⟨by rw [HM2.out]; first | (simp [h2]; done) | (simp [h2]; omega), by first | exact hA2 | exact hA2.drew⟩
                          · have e1 : (xy == 0) = false := by simp [h1]
                            go_wp2
                            go_ret
                            exact ⟨by rw [HM2.out]; first | (simp [h1]; done) | (simp [h1]; omega), by first | exact hA2 | exact hA2.drew⟩
                        · skip
                          go_wp2
                          go_ret
                          exact ⟨by rw [HM2.out]; first | (simp; done) | (simp; omega), by first | exact hA2 | exact hA2.drew⟩

end Go.Proofs.Ytgafjieghckimaa

/- The document's glyphs of parts: Right and Same, as contracts over this seat's translation. -/
namespace Go.Proofs.Ytgafjieghckimaa
open Go.RowKit
set_option linter.unusedVariables false
set_option linter.unusedSimpArgs false

theorem codeB_get {ps : List Pt} {p : Pt} {n : Nat} (hn : ps.length = n) (h : ps[n - 1]? = some p) : codeB ps = fb p.f 256 := by subst hn; exact codeB_last h

set_option maxRecDepth 100000 in
set_option maxHeartbeats 4000000 in
theorem rright13_any (v : RcV) (w : World) (hr : v.rows w) (hq1 : v.q ≤ 1000000) (hp1 : v.pn ≤ 1000000) (ho : v.g.ok) : Calls Try.prog 22 #[v.val] w (Ret w (.bool (cRight v.g))) := by
  have hA := (Below.refl w.heap.size w).alloc (Nat.le_refl _) (.cells v.cells 49)
  have hk := heap_alloc_new w (.cells v.cells 49)
  have HQ : Hid (v.g.ps.length = v.q) := hr.ps.len
  have HPl : Hid (v.g.pr.length = v.pn) := hr.pr.len
  have Hrs := Lib.hid hr.ps
  have HPs := Lib.hid ho.ps
  have HRt : Hid (cRight v.g = (decide (1 ≤ v.q) && decide (v.q ≤ 200) && decide (v.pn ≤ 65535) && partsOk v.g.ps v.q && (codeB v.g.ps || decide (v.pn = 0)))) := by
    show _ = _
    unfold cRight
    rw [HQ.out, HPl.out]
  rw [HRt.out]
  clear HRt hr ho HPl
  unfold RcV.val at *
  unfold RcV.cells at *
  obtain ⟨⟨x0, x1, x2, x3, ps, pr⟩, QA, q, qc, PA, pn, pc⟩ := v
  simp only at *
  obtain ⟨c0, c1, c2, c3, c4, c5⟩ := cells6 hk
  by_cases h1 : 1 ≤ q
  case neg =>
    obtain rfl : q = 0 := by omega
    go_enter Try.func22, Try.ntmps22
    go_wp2
    go_ret
    exact ⟨by simp, hA⟩
  by_cases h2 : q ≤ 200
  case neg =>
    rw [decide_eq_false h2]
    have e1 : ¬ (q : Int) < 1 := by omega
    have e2 : (200 : Int) < (q : Int) := by omega
    go_enter Try.func22, Try.ntmps22
    go_wp2
    go_ret
    exact ⟨by simp, hA⟩
  by_cases h3 : pn ≤ 65535
  case neg =>
    rw [decide_eq_false h3]
    have e1 : ¬ (q : Int) < 1 := by omega
    have e2 : ¬ (200 : Int) < (q : Int) := by omega
    have e3 : (65535 : Int) < (pn : Int) := by omega
    go_enter Try.func22, Try.ntmps22
    go_wp2
    go_ret
    exact ⟨by simp, hA⟩
  rw [decide_eq_true h1, decide_eq_true h2, decide_eq_true h3]
  have e1 : ¬ (q : Int) < 1 := by omega
  have e2 : ¬ (200 : Int) < (q : Int) := by omega
  have e3 : ¬ (65535 : Int) < (pn : Int) := by omega
  go_enter Try.func22, Try.ntmps22
  go_wp2
  have hA0 := Lib.hid hA
  have hk0 := Lib.hid hk
  have hne : ∀ g, g < w.heap.size → g ≠ w.heap.size := fun g h => by omega
  generalize w.alloc _ = V at *
  clear c0 c1 c2 c3 c4 c5 hk hA e1 e2 e3
  go_loopw [24] (fun i' wr => ∃ k : Nat, k ≤ q ∧ i' = .int .i64 k ∧ Hid (partsOk ps k = true) ∧ Below V.heap.size V wr) (fun i' _ => q - (intOf i').toNat)
  case atStart => exact ⟨0, Nat.zero_le _, rfl, (rfl : _), Below.refl _ _⟩
  case round =>
    obtain ⟨k, hkq, rfl, HP, hb⟩ := hrel
    have hbw := hA0.out.trans (hb.mono hA0.out.size)
    have hkx := kept_block hk0.out hb
    obtain ⟨c0, c1, c2, c3, c4, c5⟩ := cells6 hkx
    by_cases hlt : k < q
    · obtain ⟨p, hp⟩ : ∃ p, ps[k]? = some p := ⟨ps[k]'(by have := HQ.out; omega), List.getElem?_eq_getElem (by have := HQ.out; omega)⟩
      have hpo := HPs.out p (List.mem_of_getElem? hp)
      obtain ⟨g, off, rfl, hg, d0, d1, d2, d3, d4, d5, d6, d7⟩ := atRt (Hrs.out.below hbw) hp
      have HF : Hid (∀ W, Calls Try.prog 61 #[ptR p] W (Ret W (.bool (ptRight p)))) := fun W => rfits_any p hpo W
      have HH : Hid (∀ W, Calls Try.prog 62 #[.int .i64 p.f, .int .i64 256] W fun e w' => e = .returned (.bool (fb p.f 256)) ∧ W = w') := fun W => rhas_any p.f 256 W hpo.f.1 (by have := hpo.f.2; omega) (by omega) (by omega)
      have HS : Hid (partsOk ps (k + 1) = (ptRight p && !(decide (k + 1 < q) && fb p.f 256))) := by
        show _ = _
        rw [partsOk_succ, HP.out, hp, HQ.out]
        simp
      have HNo : Hid ((ptRight p && !(decide (k + 1 < q) && fb p.f 256)) = false → partsOk ps q = false) := fun h => partsOk_not hp (by rw [HQ.out]; exact h) hlt
      have hA1 := (Below.refl wr.heap.size wr).alloc (Nat.le_refl _) (.cells #[.int .i64 p.f, .int .i64 p.i, .int .i64 p.x, .int .i64 p.y, .int .i64 p.xx, .int .i64 p.xy, .int .i64 p.yx, .int .i64 p.yy] 114)
      have hkp := heap_alloc_new wr (.cells #[.int .i64 p.f, .int .i64 p.i, .int .i64 p.x, .int .i64 p.y, .int .i64 p.xx, .int .i64 p.xy, .int .i64 p.yx, .int .i64 p.yy] 114)
      have hb1 := hb.trans (hA1.mono hb.size)
      clear hp hpo HP
      unfold ptR at HF
      obtain ⟨pf, pi, px, py, pxx, pxy, pyx, pyy⟩ := p
      simp only at *
      generalize ptRight ⟨pf, pi, px, py, pxx, pxy, pyx, pyy⟩ = pr1 at *
      generalize fb pf 256 = b256 at *
      have u0 : (0 : Int) ≤ (k : Int) := by omega
      have u1 : (k : Int) < (q : Int) := by omega
      obtain ⟨f0, f1, f2, f3, f4, f5, f6, f7⟩ := cells8 hkp
      go_upto_region 7 with fail
      generalize wr.alloc _ = V1 at *
      clear d0 d1 d2 d3 d4 d5 d6 d7 c0 c1 c2 c3 c4 c5 hA1
      go_wp2_with fail
      with_reducible refine (HF.out _).mono ?_
      rintro e w2 ⟨rfl, hb2⟩
      have hb12 := hb1.trans (hb2.mono hb1.size)
      have hkp2 := kept_block hkp hb2
      clear f0 f1 f2 f3 f4 f5 f6 f7 hkp hb2 HF
      obtain ⟨f0, f1, f2, f3, f4, f5, f6, f7⟩ := cells8 hkp2
      have hbw2 := hA0.out.trans (hb12.mono hA0.out.size)
      cases pr1 with
      | false =>
        have hno := HNo.out rfl
        go_wp2
        go_ret
        exact ⟨by rw [hno]; simp, hbw2⟩
      | true =>
        by_cases hl : k + 1 < q
        · have u2 : (k : Int) < (q : Int) - 1 := by omega
          rw [decide_eq_true hl] at HS HNo
          go_wp2_with fail
          with_reducible refine (HH.out _).mono ?_
          rintro e w3 ⟨rfl, rfl⟩
          cases b256 with
          | true =>
            have hno := HNo.out rfl
            go_wp2
            go_ret
            exact ⟨by rw [hno]; simp, hbw2⟩
          | false =>
            go_wp2
            go_roundw
            case rel => exact ⟨k + 1, by omega, by go_num, (HS.out : _), hb12⟩
            case measure => simp [intOf]; omega
        · have u2 : ¬ (k : Int) < (q : Int) - 1 := by omega
          rw [decide_eq_false hl] at HS HNo
          go_wp2
          go_roundw
          case rel => exact ⟨k + 1, by omega, by go_num, (HS.out : _), hb12⟩
          case measure => simp [intOf]; omega
    · obtain rfl : k = q := by omega
      obtain ⟨p, hp⟩ : ∃ p, ps[k - 1]? = some p := ⟨ps[k - 1]'(by have := HQ.out; omega), List.getElem?_eq_getElem (by have := HQ.out; omega)⟩
      have hpo := HPs.out p (List.mem_of_getElem? hp)
      obtain ⟨g, off, rfl, hg, d0, d1, d2, d3, d4, d5, d6, d7⟩ := atRt (Hrs.out.below hbw) hp
      have HH : Hid (∀ W, Calls Try.prog 62 #[.int .i64 p.f, .int .i64 256] W fun e w' => e = .returned (.bool (fb p.f 256)) ∧ W = w') := fun W => rhas_any p.f 256 W hpo.f.1 (by have := hpo.f.2; omega) (by omega) (by omega)
      have HC : Hid (codeB ps = fb p.f 256) := codeB_get HQ.out hp
      have HPk : Hid (partsOk ps k = true) := HP.out
      clear hp hpo HP
      have u0 : (0 : Int) ≤ (k : Int) - 1 := by omega
      have u1 : (k : Int) - 1 < (k : Int) := by omega
      have u2 : ((k : Int) - 1).toNat = k - 1 := by omega
      generalize fb p.f 256 = b256 at *
      go_wp2_with fail
      with_reducible refine (HH.out _).mono ?_
      rintro e w3 ⟨rfl, rfl⟩
      cases b256 with
      | true =>
        go_wp2
        go_ret
        exact ⟨by rw [HPk.out, HC.out]; simp, hbw⟩
      | false =>
        by_cases hp0 : pn = 0
        · subst hp0
          go_wp2
          go_ret
          exact ⟨by rw [HPk.out, HC.out]; simp, hbw⟩
        · have e0 : ((pn : Int) == 0) = false := by simp; omega
          go_wp2
          go_ret
          exact ⟨by rw [HPk.out, HC.out]; simp [hp0], hbw⟩

end Go.Proofs.Ytgafjieghckimaa

/- The loops of a function's code, to be spoken of one by one. -/
namespace Go.Proofs.Ytgafjieghckimaa
open Go.RowKit

/-- The bodies of the loops of a piece of code, outer ones first. -/
def loopsOf : Code → List Code
  | .loop c => c :: loopsOf c
  | .seq a b => loopsOf a ++ loopsOf b
  | .block _ c => loopsOf c
  | .scope c => loopsOf c
  | .cond _ a b => loopsOf a ++ loopsOf b
  | _ => []

end Go.Proofs.Ytgafjieghckimaa

/- An append onto a fresh slice, and where the grown one lies. -/
namespace Go.Proofs.Ytgafjieghckimaa
open Go.RowKit
set_option linter.unusedVariables false

/-- The run of an append of a slice that is read ('append(out, xs...)') onto a fresh slice of numbers: it lies where it lay, or in a new block. -/
theorem run_append_at {P : Program} (w : World) (t : TypeId) (k : IntKind) (base T ty : Nat) (i : TypeInfo) (b : Nat) (ht : P.underlying T = some (.slice t)) (hi : P.info? t = some i) (hz : i.zero = some (.int k 0)) (hs : i.size = 1) (hby : i.bytes = b)
    (A : Option Addr) (n c : Nat) (zs : List Int) (hown : Own t k w base A n c zs) (A' : Option Addr) (n' c' : Nat) (ys : List Int) (hr : Row w A' n' (cellsOf k ys)) (hn' : 0 < n')
    (hb : (n + n') * b ≤ 140737488355328) (hm : n + n' ≤ 140737488355328) (hbase : base ≤ w.heap.size) :
    ∃ A2 c2 w', (Builtin.append_ #[T, T] ty #[.slice A n c, .slice A' n' c']).run P w = .ok (.slice A2 (n + n') c2) w' ∧ Own t k w' base A2 (n + n') c2 (zs ++ ys) ∧ w.grownBy w' (blockOf A) ∧ (blockOf A2 = blockOf A ∨ blockOf A2 = some w.heap.size) := by
  have hbo : (Value.slice A n c).ownBlock = blockOf A := by
    rcases hown.shape with ⟨rfl, _⟩ | ⟨g, cur, rfl, _⟩ <;> rfl
  have hyl := hr.len
  obtain ⟨g, off, rfl, hg, hc⟩ := hr.2 hn'
  obtain ⟨v', w', hrun, h2, h3, _, h5⟩ := run_append_own_at (P := P) (w := w) base T ty t i (.int k 0) 1 b ht hi hz hs hby rfl (by omega) (.slice A n c) n (cellsOf k zs) hown ⟨g, off, none⟩ n' c' (cellsOf k ys) (by rw [cellsOf_length]; omega)
    (fun j u hu => by rw [Addr.add_lit]; exact hc j u hu) (cellsOf_one _ _) (by simp only [maxLen]; omega) hb hbase
  rw [cellsOf_append] at h2
  obtain ⟨A2, c2, rfl, h2'⟩ := own_shape h2
  have hbo2 : (Value.slice A2 (n + n') c2).ownBlock = blockOf A2 := by
    rcases h2'.shape with ⟨rfl, _⟩ | ⟨g, cur, rfl, _⟩ <;> rfl
  exact ⟨A2, c2, w', hrun, h2', by rw [← hbo]; exact h3, by rw [← hbo, ← hbo2]; exact h5⟩

/-- The same at an operation of the walk. -/
theorem wpList_append_at {P : Program} {w : World} {ops : Array Oper} {rest : List Oper} {o : Oper} {a : Act} {Q : Exit → Act → World → Prop} (hgd : o.guard = none) (s x : Operand) (T : TypeId)
    (ho : o.op = .call { callee := .builtin .append, args := #[s, x], argTypes := #[T, T] }) (t : TypeId) (k : IntKind)
    (base : Nat) (i : TypeInfo) (b : Nat) (ht : P.underlying T = some (.slice t)) (hi : P.info? t = some i) (hz : i.zero = some (.int k 0)) (hs : i.size = 1) (hby : i.bytes = b)
    (A : Option Addr) (n c : Nat) (zs : List Int) (hes : a.eval s = .slice A n c) (hown : Own t k w base A n c zs) (A' : Option Addr) (n' c' : Nat) (ys : List Int) (hex : a.eval x = .slice A' n' c') (hr : Row w A' n' (cellsOf k ys)) (hn' : 0 < n')
    (hb : (n + n') * b ≤ 140737488355328) (hm : n + n' ≤ 140737488355328) (hbase : base ≤ w.heap.size)
    (h : ∀ A2 c2 w', Own t k w' base A2 (n + n') c2 (zs ++ ys) → w.grownBy w' (blockOf A) → (blockOf A2 = blockOf A ∨ blockOf A2 = some w.heap.size) → wpList P ops Q rest (a.put o.dst (.slice A2 (n + n') c2)) w') : wpList P ops Q (o :: rest) a w := by
  refine wpList_plain hgd fun _ hK => ?_
  obtain ⟨A2, c2, w', hrun, h2, h3, h4⟩ := run_append_at (P := P) w t k base T o.type i b ht hi hz hs hby A n c zs hown A' n' c' ys hr hn' hb hm hbase
  unfold Oper.wp execOp
  simp only [ho, resolve, invoke, builtin, Sem.run_bind, Sem.run_pure, Result.andThen_ok, List.map_toArray, List.map_cons, List.map_nil, hes, hex, hrun]
  exact hK _ _ (h A2 c2 w' h2 h3 h4)

end Go.Proofs.Ytgafjieghckimaa

/- The document's Bytes of glyphs made of parts: small laws, and the inner loops as laws of their own. -/
namespace Go.Proofs.Ytgafjieghckimaa
open Go.RowKit
set_option linter.unusedVariables false
set_option linter.unusedSimpArgs false

/-- Two slices of bytes written out, to be joined. -/
theorem joinTwoC_any (V : World) (b : Nat) (A A' : Option Addr) (n c n' c' : Nat) (xs ys : List Int) (hb : b = V.heap.size) (hx : Row V A n (cellsOf .u8 xs)) (hy : Row V A' n' (cellsOf .u8 ys)) (hl : xs.length + ys.length ≤ 140737488351232) :
    Calls Try.prog 24 #[.slice (some ⟨b, 0, none⟩) 2 2] (V.alloc (.cells #[.slice A n c, .slice A' n' c'] 32)) (RetB V (xs ++ ys)) := by
  have := joinN_any V b [⟨A, n, c, xs⟩, ⟨A', n', c', ys⟩] 2 #[.slice A n c, .slice A' n' c'] rfl hb rfl (fun p hp => by
    simp at hp
    rcases hp with rfl | rfl
    · exact hx
    · exact hy) (by omega) (by simpa [joined] using hl)
  simpa [joined] using this

/-- Three slices of bytes written out, to be joined. -/
theorem joinThreeC_any (V : World) (b : Nat) (A A' A2 : Option Addr) (n c n' c' n2 c2 : Nat) (xs ys zs : List Int) (hb : b = V.heap.size) (hx : Row V A n (cellsOf .u8 xs)) (hy : Row V A' n' (cellsOf .u8 ys)) (hz : Row V A2 n2 (cellsOf .u8 zs)) (hl : xs.length + ys.length + zs.length ≤ 140737488351232) :
    Calls Try.prog 24 #[.slice (some ⟨b, 0, none⟩) 3 3] (V.alloc (.cells #[.slice A n c, .slice A' n' c', .slice A2 n2 c2] 32)) (RetB V (xs ++ (ys ++ zs))) := by
  have := joinN_any V b [⟨A, n, c, xs⟩, ⟨A', n', c', ys⟩, ⟨A2, n2, c2, zs⟩] 3 #[.slice A n c, .slice A' n' c', .slice A2 n2 c2] rfl hb rfl (fun p hp => by
    simp at hp
    rcases hp with rfl | rfl | rfl
    · exact hx
    · exact hy
    · exact hz) (by omega) (by simp [joined]; omega)
  simpa [joined] using this

theorem s2_wideC (n : Int) (w : World) (h0 : -65536 ≤ n) (h1 : n ≤ 1000000) : Calls Try.prog 64 #[.int .i64 n] w (RetB w (b2 (n % 65536))) := by
  have hm : Int.tmod (n + 65536) 65536 = n % 65536 := by rw [Int.tmod_eq_emod_of_nonneg (by omega)]; omega
  have hm0 : 0 ≤ n % 65536 := by omega
  have hm1 : n % 65536 < 65536 := by omega
  have H := Lib.hid (fun W => b2_any (n % 65536) W hm0 (by omega))
  generalize n % 65536 = z at *
  go_enter Try.func64, Try.ntmps64
  go_wp2_with fail
  with_reducible refine (H.out _).mono ?_
  rintro e w1 ⟨A, m, c, rfl, hown, hb⟩
  go_wp2
  go_ret
  exact ⟨A, m, c, rfl, hown, hb⟩

noncomputable def cBoxBody : Code := (loopsOf (Try.f26.body.getD .skip))[0]?.getD .skip

noncomputable def cPtsBody : Code := (loopsOf (Try.f26.body.getD .skip))[1]?.getD .skip

noncomputable def cKndBody : Code := (loopsOf (Try.f26.body.getD .skip))[2]?.getD .skip

set_option maxRecDepth 1000000 in
set_option maxHeartbeats 4000000 in
theorem cbox_loop {cc0 cc1 cc2 cc4 cc5 cc6 cc7 cc8 cc9 cc10 cc11 cc12 cc15 cc16 cc17 cc18 cc19 cc20 cc21 cc22 cc23 cc24 cc25 cc26 cc27 cc28 cc29 cc30 cc31 cc32 cc33 cc34 cc35 cc36 cc37 cc38 cc39 cc40 cc41 cc42 cc43 cc44 cc45 cc46 cc47 cc48 cc49 cc50 cc51 cc52 cc53 cc54 cc55 cc56 cc57 cc58 cc59 cc60 cc61 cc62 cc63 cc64 cc65 cc66 cc67 cc68 cc69 cc70 cc71 cc72 cc73 cc74 cc75 cc76 cc77 cc78 cc79 cc80 cc81 cc82 cc83 cc84 cc85 cc86 cc87 cc88 cc89 cc90 cc91 cc92 cc93 cc94 cc95 cc96 cc97 cc98 cc99 cc100 cc101 cc102 cc103 cc104 cc105 cc106 cc107 cc108 cc109 cc110 cc111 cc112 cc113 cc114 cc115 cc116 cc117 : Value} {Q0 : Exit → Act → World → Prop} (O : Option Addr) (o c : Nat) (zs : List Int) (x0 x1 x2 x3 : Int) (V W : World)
    (hx : ∀ x ∈ [x0, x1, x2, x3], -32768 ≤ x ∧ x ≤ 32767) (hz : zs.length ≤ 1000000)
    (hown : OwnB W V.heap.size O o c zs) (hb : Below V.heap.size V W)
    (hexit : ∀ (u5 u15 u16 u17 u18 u19 u20 u21 u22 : Value) (O2 : Option Addr) (o2 c2 : Nat) (wr : World), OwnB wr V.heap.size O2 o2 c2 (zs ++ boxB [x0, x1, x2, x3]) → Below V.heap.size V wr → Q0 (.exit 0) ⟨List.toArray (cc0 :: cc1 :: cc2 :: (.slice O2 o2 c2) :: cc4 :: u5 :: cc6 :: cc7 :: cc8 :: cc9 :: cc10 :: cc11 :: cc12 :: (.agg #[.int .i64 x0, .int .i64 x1, .int .i64 x2, .int .i64 x3]) :: (.int .i64 4) :: u15 :: u16 :: u17 :: u18 :: u19 :: u20 :: u21 :: u22 :: cc23 :: cc24 :: cc25 :: cc26 :: cc27 :: cc28 :: cc29 :: cc30 :: cc31 :: cc32 :: cc33 :: cc34 :: cc35 :: cc36 :: cc37 :: cc38 :: cc39 :: cc40 :: cc41 :: cc42 :: cc43 :: cc44 :: cc45 :: cc46 :: cc47 :: cc48 :: cc49 :: cc50 :: cc51 :: cc52 :: cc53 :: cc54 :: cc55 :: cc56 :: cc57 :: cc58 :: cc59 :: cc60 :: cc61 :: cc62 :: cc63 :: cc64 :: cc65 :: cc66 :: cc67 :: cc68 :: cc69 :: cc70 :: cc71 :: cc72 :: cc73 :: cc74 :: cc75 :: cc76 :: cc77 :: cc78 :: cc79 :: cc80 :: cc81 :: cc82 :: cc83 :: cc84 :: cc85 :: cc86 :: cc87 :: cc88 :: cc89 :: cc90 :: cc91 :: cc92 :: cc93 :: cc94 :: cc95 :: cc96 :: cc97 :: cc98 :: cc99 :: cc100 :: cc101 :: cc102 :: cc103 :: cc104 :: cc105 :: cc106 :: cc107 :: cc108 :: cc109 :: cc110 :: cc111 :: cc112 :: cc113 :: cc114 :: cc115 :: cc116 :: cc117 :: List.nil), []⟩ wr) :
    Code.wp Try.prog (.loop cBoxBody) Q0 ⟨List.toArray (cc0 :: cc1 :: cc2 :: (.slice O o c) :: cc4 :: cc5 :: cc6 :: cc7 :: cc8 :: cc9 :: cc10 :: cc11 :: cc12 :: (.agg #[.int .i64 x0, .int .i64 x1, .int .i64 x2, .int .i64 x3]) :: (.int .i64 0) :: cc15 :: cc16 :: cc17 :: cc18 :: cc19 :: cc20 :: cc21 :: cc22 :: cc23 :: cc24 :: cc25 :: cc26 :: cc27 :: cc28 :: cc29 :: cc30 :: cc31 :: cc32 :: cc33 :: cc34 :: cc35 :: cc36 :: cc37 :: cc38 :: cc39 :: cc40 :: cc41 :: cc42 :: cc43 :: cc44 :: cc45 :: cc46 :: cc47 :: cc48 :: cc49 :: cc50 :: cc51 :: cc52 :: cc53 :: cc54 :: cc55 :: cc56 :: cc57 :: cc58 :: cc59 :: cc60 :: cc61 :: cc62 :: cc63 :: cc64 :: cc65 :: cc66 :: cc67 :: cc68 :: cc69 :: cc70 :: cc71 :: cc72 :: cc73 :: cc74 :: cc75 :: cc76 :: cc77 :: cc78 :: cc79 :: cc80 :: cc81 :: cc82 :: cc83 :: cc84 :: cc85 :: cc86 :: cc87 :: cc88 :: cc89 :: cc90 :: cc91 :: cc92 :: cc93 :: cc94 :: cc95 :: cc96 :: cc97 :: cc98 :: cc99 :: cc100 :: cc101 :: cc102 :: cc103 :: cc104 :: cc105 :: cc106 :: cc107 :: cc108 :: cc109 :: cc110 :: cc111 :: cc112 :: cc113 :: cc114 :: cc115 :: cc116 :: cc117 :: List.nil), []⟩ W := by
  have HX := Lib.hid hexit
  have Hx := Lib.hid hx
  clear hexit hx
  conv => arg 2; arg 1; whnf
  go_loopw [3, 14] (fun v i' wr => ∃ (k : Nat) (O2 : Option Addr) (o2 c2 : Nat), k ≤ 4 ∧ i' = .int .i64 k ∧ v = .slice O2 o2 c2 ∧ OwnB wr V.heap.size O2 o2 c2 (zs ++ boxB (([x0, x1, x2, x3] : List Int).take k)) ∧ Below V.heap.size V wr) (fun _ i' _ => 4 - (intOf i').toNat)
  case atStart => exact ⟨0, O, o, c, Nat.zero_le _, rfl, rfl, by simpa [boxB] using hown, hb⟩
  case round =>
    clear hown hb
    obtain ⟨k, O2, o2, c2, hk, rfl, rfl, hown, hb⟩ := hrel
    by_cases hlt : k < 4
    · obtain ⟨x, hx⟩ := get_some (zs := [x0, x1, x2, x3]) (k := k) hlt
      obtain ⟨u0, u1⟩ := Hx.out x (List.mem_of_getElem? hx)
      have HS := Lib.hid (boxB_snoc hx)
      have hix := run_index_arr (P := Try.prog) wr 46 3 4 #[.int .i64 x0, .int .i64 x1, .int .i64 x2, .int .i64 x3] k (.int .i64 x) Try.underlying46 (by simp [go_sem]) (by simp [go_sem]) hlt (by
        have h := cellsOf_get (k := .i64) hx
        simpa [cellsOf] using h)
      have H2 := Lib.hid (s2_wideC x wr (by omega) (by omega))
      have hlen : (boxB (([x0, x1, x2, x3] : List Int).take k)).length ≤ 8 := by rw [boxB_len, List.length_take]; simp; omega
      clear hx
      go_wp2_with fail
      with_reducible refine H2.out.mono ?_
      rintro e w2 ⟨A, n', c', rfl, ho2, hb2⟩
      have hB2 := hb.trans (hb2.mono hb.size)
      have HJ := Lib.hid (joinTwoC_any w2 w2.heap.size O2 A o2 c2 n' c' _ _ rfl (hown.row.below hb2) ho2.row (by rw [List.length_append]; simp [b2]; omega))
      clear hown ho2 hb hb2 H2 hix
      go_wp2_with fail
      with_reducible refine HJ.out.mono ?_
      rintro e w3 ⟨O3, o3, c3, rfl, ho3, hb3⟩
      have hB3 := hB2.trans (hb3.mono hB2.size)
      have ho4 := ho3.mono (B' := V.heap.size) hB2.size
      rw [List.append_assoc, ← HS.out] at ho4
      clear HJ ho3 hb3 hB2
      go_wp2
      go_roundw
      case rel => exact ⟨k + 1, O3, o3, c3, by omega, by go_num, rfl, ho4, hB3⟩
      case measure => simp [intOf]; omega
    · obtain rfl : k = 4 := by omega
      go_wp2
      exact HX.out _ _ _ _ _ _ _ _ _ O2 o2 c2 _ hown hb

/-- The numbers of the matrix that are written. -/
def kL (p : Pt) (ks : List Nat) : List Int := ks.map fun k => ([p.xx, p.xy, p.yx, p.yy] : List Int).getD k 0
set_option maxRecDepth 1000000 in
set_option maxHeartbeats 4000000 in
theorem cknd_loop {cc0 cc1 cc2 cc4 cc5 cc6 cc8 cc9 cc10 cc11 cc12 cc13 cc14 cc15 cc16 cc17 cc18 cc19 cc20 cc21 cc22 cc23 cc24 cc25 cc26 cc27 cc28 cc29 cc30 cc31 cc32 cc33 cc34 cc35 cc36 cc37 cc38 cc39 cc40 cc41 cc42 cc43 cc44 cc45 cc46 cc47 cc48 cc49 cc50 cc51 cc52 cc53 cc54 cc55 cc56 cc57 cc58 cc59 cc60 cc61 cc62 cc63 cc64 cc65 cc66 cc67 cc68 cc69 cc70 cc71 cc72 cc73 cc74 cc75 cc76 cc77 cc78 cc79 cc80 cc81 cc85 cc86 cc87 cc88 cc89 cc90 cc91 cc92 cc93 cc94 cc95 cc96 cc97 cc98 cc99 cc100 cc101 cc102 cc103 cc104 cc105 cc106 cc107 cc108 cc109 cc110 cc111 cc112 cc113 cc114 cc115 cc116 cc117 : Value} {Q0 : Exit → Act → World → Prop} (O : Option Addr) (o c : Nat) (zs : List Int) (p : Pt) (gp : Nat) (KA : Option Addr) (m kc : Nat) (ks : List Nat) (B : Nat) (W : World)
    (hp : p.ok) (hk : W.heap[gp]? = some (.cells #[.int .i64 p.f, .int .i64 p.i, .int .i64 p.x, .int .i64 p.y, .int .i64 p.xx, .int .i64 p.xy, .int .i64 p.yx, .int .i64 p.yy] 114 (0, 0)))
    (hr : Row W KA m (cellsOf .i64 (ks.map fun (k : Nat) => (k : Int)))) (hks : ∀ k ∈ ks, k < 4) (hm : m ≤ 4) (hz : zs.length ≤ 1000000)
    (hown : OwnB W B O o c zs) (hB : B ≤ W.heap.size)
    (hexit : ∀ (u10 u85 u86 u87 u88 u89 u90 u91 u92 u93 u94 u95 u96 : Value) (O2 : Option Addr) (o2 c2 : Nat) (wr : World), OwnB wr B O2 o2 c2 (zs ++ boxB (kL p ks)) → Below W.heap.size W wr → Q0 (.exit 4) ⟨List.toArray (cc0 :: cc1 :: cc2 :: (.slice O2 o2 c2) :: cc4 :: cc5 :: cc6 :: (.pointer (some ⟨gp, 0, none⟩)) :: cc8 :: cc9 :: u10 :: cc11 :: cc12 :: cc13 :: cc14 :: cc15 :: cc16 :: cc17 :: cc18 :: cc19 :: cc20 :: cc21 :: cc22 :: cc23 :: cc24 :: cc25 :: cc26 :: cc27 :: cc28 :: cc29 :: cc30 :: cc31 :: cc32 :: cc33 :: cc34 :: cc35 :: cc36 :: cc37 :: cc38 :: cc39 :: cc40 :: cc41 :: cc42 :: cc43 :: cc44 :: cc45 :: cc46 :: cc47 :: cc48 :: cc49 :: cc50 :: cc51 :: cc52 :: cc53 :: cc54 :: cc55 :: cc56 :: cc57 :: cc58 :: cc59 :: cc60 :: cc61 :: cc62 :: cc63 :: cc64 :: cc65 :: cc66 :: cc67 :: cc68 :: cc69 :: cc70 :: cc71 :: cc72 :: cc73 :: cc74 :: cc75 :: cc76 :: cc77 :: cc78 :: cc79 :: cc80 :: cc81 :: (.slice KA m kc) :: (.int .i64 (m : Int)) :: (.int .i64 (m : Int)) :: u85 :: u86 :: u87 :: u88 :: u89 :: u90 :: u91 :: u92 :: u93 :: u94 :: u95 :: u96 :: cc97 :: cc98 :: cc99 :: cc100 :: cc101 :: cc102 :: cc103 :: cc104 :: cc105 :: cc106 :: cc107 :: cc108 :: cc109 :: cc110 :: cc111 :: cc112 :: cc113 :: cc114 :: cc115 :: cc116 :: cc117 :: List.nil), []⟩ wr) :
    Code.wp Try.prog (.loop cKndBody) Q0 ⟨List.toArray (cc0 :: cc1 :: cc2 :: (.slice O o c) :: cc4 :: cc5 :: cc6 :: (.pointer (some ⟨gp, 0, none⟩)) :: cc8 :: cc9 :: cc10 :: cc11 :: cc12 :: cc13 :: cc14 :: cc15 :: cc16 :: cc17 :: cc18 :: cc19 :: cc20 :: cc21 :: cc22 :: cc23 :: cc24 :: cc25 :: cc26 :: cc27 :: cc28 :: cc29 :: cc30 :: cc31 :: cc32 :: cc33 :: cc34 :: cc35 :: cc36 :: cc37 :: cc38 :: cc39 :: cc40 :: cc41 :: cc42 :: cc43 :: cc44 :: cc45 :: cc46 :: cc47 :: cc48 :: cc49 :: cc50 :: cc51 :: cc52 :: cc53 :: cc54 :: cc55 :: cc56 :: cc57 :: cc58 :: cc59 :: cc60 :: cc61 :: cc62 :: cc63 :: cc64 :: cc65 :: cc66 :: cc67 :: cc68 :: cc69 :: cc70 :: cc71 :: cc72 :: cc73 :: cc74 :: cc75 :: cc76 :: cc77 :: cc78 :: cc79 :: cc80 :: cc81 :: (.slice KA m kc) :: (.int .i64 (m : Int)) :: (.int .i64 0) :: cc85 :: cc86 :: cc87 :: cc88 :: cc89 :: cc90 :: cc91 :: cc92 :: cc93 :: cc94 :: cc95 :: cc96 :: cc97 :: cc98 :: cc99 :: cc100 :: cc101 :: cc102 :: cc103 :: cc104 :: cc105 :: cc106 :: cc107 :: cc108 :: cc109 :: cc110 :: cc111 :: cc112 :: cc113 :: cc114 :: cc115 :: cc116 :: cc117 :: List.nil), []⟩ W := by
  have HX := Lib.hid hexit
  have HR := Lib.hid hr
  have HKs := Lib.hid hks
  have HE : Hid (ks.length = m) := by show _ = _; have := hr.len; simpa [cellsOf] using this
  have HKp := Lib.hid hk
  have h4 := hp.xx
  have h5 := hp.xy
  have h6 := hp.yx
  have h7 := hp.yy
  unfold kL at HX
  obtain ⟨pf, pi, px, py, pxx, pxy, pyx, pyy⟩ := p
  simp only at *
  clear hexit hr hks hk hp
  conv => arg 2; arg 1; whnf
  go_loopw [3, 84] (fun v i' wr => ∃ (k : Nat) (O2 : Option Addr) (o2 c2 : Nat), k ≤ m ∧ i' = .int .i64 k ∧ v = .slice O2 o2 c2 ∧ OwnB wr B O2 o2 c2 (zs ++ boxB ((ks.map fun k => ([pxx, pxy, pyx, pyy] : List Int).getD k 0).take k)) ∧ Below W.heap.size W wr) (fun _ i' _ => m - (intOf i').toNat)
  case atStart => exact ⟨0, O, o, c, Nat.zero_le _, rfl, rfl, by simpa [boxB] using hown, Below.refl _ _⟩
  case round =>
    clear hown
    obtain ⟨k, O2, o2, c2, hk, rfl, rfl, hown, hb⟩ := hrel
    have hsz := hb.size
    by_cases hlt : k < m
    · obtain ⟨j, hj⟩ : ∃ j, ks[k]? = some j := ⟨ks[k]'(by have := HE.out; omega), List.getElem?_eq_getElem (by have := HE.out; omega)⟩
      have hj4 := HKs.out j (List.mem_of_getElem? hj)
      obtain ⟨g, off, rfl, hg, hc⟩ := (HR.out.below hb).at (cellsOf_get (k := .i64) (zs := ks.map fun (k : Nat) => (k : Int)) (by rw [List.getElem?_map, hj]; rfl))
      obtain ⟨x, hx⟩ : ∃ x, x = ([pxx, pxy, pyx, pyy] : List Int).getD j 0 := ⟨_, rfl⟩
      have hS : (ks.map fun k => ([pxx, pxy, pyx, pyy] : List Int).getD k 0)[k]? = some x := by rw [List.getElem?_map, hj, hx]; rfl
      have HS := Lib.hid (boxB_snoc hS)
      obtain ⟨d0, d1, d2, d3, d4, d5, d6, d7⟩ := cells8 (kept_block HKp.out hb)
      have hd : wr.cell? ⟨gp, 4 + j, none⟩ = some (.int .i64 x) := by
        match j, hj4 with
        | 0, _ => rw [hx]; exact d4
        | 1, _ => rw [hx]; exact d5
        | 2, _ => rw [hx]; exact d6
        | 3, _ => rw [hx]; exact d7
      have hxb : -32768 ≤ x ∧ x ≤ 32767 := by
        match j, hj4 with
        | 0, _ => rw [hx]; exact h4
        | 1, _ => rw [hx]; exact h5
        | 2, _ => rw [hx]; exact h6
        | 3, _ => rw [hx]; exact h7
      obtain ⟨u0, u1⟩ := hxb
      have H2 := Lib.hid (s2_wideC x wr (by omega) (by omega))
      have hlen : (boxB ((ks.map fun k => ([pxx, pxy, pyx, pyy] : List Int).getD k 0).take k)).length ≤ 8 := by rw [boxB_len, List.length_take]; omega
      have hlen2 : (zs ++ boxB ((ks.map fun k => ([pxx, pxy, pyx, pyy] : List Int).getD k 0).take k)).length ≤ 1000008 := by rw [List.length_append]; omega
      have ik0 : (0 : Int) ≤ (k : Int) := by omega
      have ik1 : (k : Int) < (m : Int) := by omega
      have ij0 : (0 : Int) ≤ (j : Int) := by omega
      have ij1 : (j : Int) < 4 := by omega
      clear d0 d1 d2 d3 d4 d5 d6 d7 hS hx hj
      go_wp2_with fail
      with_reducible refine H2.out.mono ?_
      rintro e w2 ⟨A, n', c', rfl, ho2, hb2⟩
      have hB2 := hb.trans (hb2.mono hb.size)
      have HJ := Lib.hid (joinTwoC_any w2 w2.heap.size O2 A o2 c2 n' c' _ _ rfl (hown.row.below hb2) ho2.row (by have h2 : ∀ x, (b2 x).length = 2 := fun _ => rfl; rw [h2]; omega))
      clear hown ho2 hb hb2 H2 hd
      go_wp2_with fail
      with_reducible refine HJ.out.mono ?_
      rintro e w3 ⟨O3, o3, c3, rfl, ho3, hb3⟩
      have hB3 := hB2.trans (hb3.mono hB2.size)
      have ho4 := ho3.mono (B' := B) (by have := hB2.size; omega)
      rw [List.append_assoc, ← HS.out] at ho4
      clear HJ ho3 hb3 hB2
      go_wp2
      go_roundw
      case rel => exact ⟨k + 1, O3, o3, c3, by omega, by go_num, rfl, ho4, hB3⟩
      case measure => simp [intOf]; omega
    · obtain rfl : k = m := by omega
      rw [List.take_of_length_le (by rw [List.length_map]; have := HE.out; omega)] at hown
      go_wp2
      exact HX.out _ _ _ _ _ _ _ _ _ _ _ _ _ O2 o2 c2 _ hown hb


end Go.Proofs.Ytgafjieghckimaa
