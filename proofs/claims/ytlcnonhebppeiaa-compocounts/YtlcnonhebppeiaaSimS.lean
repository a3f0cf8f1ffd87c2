/- simple: read and Parse, as contracts over this seat's translation. -/
import Derived.Test.YtlcnonhebppeiaaSimR
import Derived.Test.YtlcnonhebppeiaaSimB
import Derived.Laws.Rows
import Derived.Laws.Tables
namespace Go.Proofs.Ytlcnonhebppeiaa
open Go.RowKit
set_option linter.unusedVariables false

def glZ : Array Value := #[.int .i16 0, .int .i16 0, .int .i16 0, .int .i16 0, .slice none 0 0, .slice none 0 0, .slice none 0 0]
theorem Try.glsize : (Try.prog.info? 29).map (·.size) = some 7 := by kernel_rfl
theorem glSize {cs : Array Value} (h : cs.size = 7) : (Try.prog.info? 29).map (·.size) = some cs.size := by rw [h]; exact Try.glsize
theorem Try.u16info : (Try.prog.info? 54).map (fun i => (i.zero, i.size, i.bytes)) = some (some (.int .u16 0), 1, 2) := by kernel_rfl

theorem gl7 (x0 x1 x2 x3 : Int) (EA PA SA : Option Addr) (en ec pn pc sn sc : Nat) : (Try.prog.info? 29).map (·.size) = some (#[Value.int .i16 x0, .int .i16 x1, .int .i16 x2, .int .i16 x3, .slice EA en ec, .slice PA pn pc, .slice SA sn sc]).size ∧ (#[Value.int .i16 0, .int .i16 0, .int .i16 0, .int .i16 0, .slice none 0 0, .slice none 0 0, .slice none 0 0]).size = (#[Value.int .i16 x0, .int .i16 x1, .int .i16 x2, .int .i16 x3, .slice EA en ec, .slice PA pn pc, .slice SA sn sc]).size ∧ (#[Value.int .i16 x0, .int .i16 x1, .int .i16 x2, .int .i16 x3, .slice EA en ec, .slice PA pn pc, .slice SA sn sc].all (·.oneCell')) = true :=
  ⟨Try.glsize, rfl, by rw [← Array.all_toList]; rfl⟩

/-- A Reader, the result's block, and a block of an outline under way. -/
structure RG (w wr : World) (B b : Nat) (zs : List Int) (i bx : Nat) (cs : Array Value) : Prop where
  rd : RdQ wr B b zs i
  gr : w.grownBy wr (some b)
  out : wr.heap[w.heap.size]? = some (.cells glZ 29 (0, 0))
  box : wr.heap[bx]? = some (.cells cs 29 (0, 0))
  lb : b < w.heap.size
  lx : w.heap.size < bx
section
variable {w wr w' : World} {B b : Nat} {zs : List Int} {i j bx : Nat} {cs : Array Value}
theorem RG.ask (h : RG w wr B b zs i bx cs) (hr : RdQ w' B b zs j) (hg : wr.grownBy w' (some b)) : RG w w' B b zs j bx cs := by
  have h1 := h.lb
  have h2 := h.lx
  exact ⟨hr, grown_trans h.gr hg, (hg.block _ (lt_of_block h.out) (by intro e; cases e; omega)).trans h.out, (hg.block _ (lt_of_block h.box) (by intro e; cases e; omega)).trans h.box, h1, h2⟩
theorem RG.set (h : RG w wr B b zs i bx cs) (q : Nat) (v : Value) : RG w (wr.setCell ⟨bx, q, none⟩ v) B b zs i bx (cs.setIfInBounds q v) := by
  have h1 := h.lb
  have h2 := h.lx
  exact ⟨rdq_other h.rd h.box (by decide) (by omega) q v, grown_new (by omega) q v h.gr, (Below.heap_setCell wr _ v _ (show w.heap.size ≠ bx by omega)).trans h.out, set_block h.box q v, h1, h2⟩
theorem RG.below (h : RG w wr B b zs i bx cs) (hb : Below wr.heap.size wr w') : RG w w' B b zs i bx cs :=
  ⟨h.rd.below hb, grown_trans h.gr (grown_of_below hb _), kept_block h.out hb, kept_block h.box hb, h.lb, h.lx⟩
theorem RG.drew (h : RG w wr B b zs i bx cs) : RG w wr.drew B b zs i bx cs := h.below (Below.refl _ _).drew
theorem RG.cell (h : RG w wr B b zs i bx cs) (q : Nat) (v : Value) (hq : cs[q]? = some v) : wr.cell? ⟨bx, q, none⟩ = some v := (cell_of_row wr _ q _ _ _ h.box).trans hq
theorem RG.thaw (h : RG w wr B b zs i bx cs) (o : Nat) : wr.frozen? ⟨bx, o, none⟩ = false := thawed h.box o
/-- A store into what lies behind, of another kind. -/
theorem RG.other (h : RG w wr B b zs i bx cs) {g t : Nat} {cur : Array Value} (hc : wr.heap[g]? = some (.cells cur t (0, 0))) (h8 : t ≠ 5) (hgl : t ≠ 29) (hw : w.heap.size ≤ g) (q : Nat) (v : Value) : RG w (wr.setCell ⟨g, q, none⟩ v) B b zs i bx cs := by
  have h1 := h.lb
  have e1 : w.heap.size ≠ g := by
    rintro rfl
    have := h.out
    rw [hc] at this
    simp at this
    exact hgl this.2
  have e2 : bx ≠ g := by
    rintro rfl
    have := h.box
    rw [hc] at this
    simp at this
    exact hgl this.2
  exact ⟨rdq_other h.rd hc h8 (by omega) q v, grown_new hw q v h.gr, (Below.heap_setCell wr _ v _ e1).trans h.out, (Below.heap_setCell wr _ v _ e2).trans h.box, h1, h.lx⟩
end

/-- The Box so far. -/
def bxAt (zs : List Int) (k j : Nat) : Int := if j < k then sgn (n2at zs (2 + 2 * j)) else 0
def bxC (zs : List Int) (k : Nat) : Array Value := #[.int .i16 (bxAt zs k 0), .int .i16 (bxAt zs k 1), .int .i16 (bxAt zs k 2), .int .i16 (bxAt zs k 3), .slice none 0 0, .slice none 0 0, .slice none 0 0]
theorem bxC_set (zs : List Int) {k : Nat} (h : k < 4) : (bxC zs k).setIfInBounds k (.int .i16 (sgn (n2at zs (2 + 2 * k)))) = bxC zs (k + 1) := by
  match k, h with
  | 0, _ => simp [bxC, bxAt]
  | 1, _ => simp [bxC, bxAt]
  | 2, _ => simp [bxC, bxAt]
  | 3, _ => simp [bxC, bxAt]
theorem bxC_get (zs : List Int) {k : Nat} (h : k < 4) : (bxC zs k)[k]? = some (.int .i16 0) := by
  match k, h with
  | 0, _ => simp [bxC, bxAt]
  | 1, _ => simp [bxC, bxAt]
  | 2, _ => simp [bxC, bxAt]
  | 3, _ => simp [bxC, bxAt]
theorem bxC_0 (zs : List Int) : bxC zs 0 = glZ := by simp [bxC, bxAt, glZ]
theorem bxC_4 (zs : List Int) : bxC zs 4 = #[.int .i16 (sgn (n2at zs 2)), .int .i16 (sgn (n2at zs 4)), .int .i16 (sgn (n2at zs 6)), .int .i16 (sgn (n2at zs 8)), .slice none 0 0, .slice none 0 0, .slice none 0 0] := by simp [bxC, bxAt]

/-- 'make([]T, n)' for numbers, n of two bytes with a sign. -/
theorem wpList_make_ints16 {P : Program} {w : World} {ops : Array Oper} {rest : List Oper} {o : Oper} {a : Act} {Q : Exit → Act → World → Prop} (hg : o.guard = none) (l c : Operand) (T : TypeId) (hop : o.op = Op.makeSlice T l c)
    (t : TypeId) (k : IntKind) (B : Nat) (i : TypeInfo) (b : Nat) (h1 : P.underlying T = some (.slice t)) (h2 : P.info? t = some i) (h3 : i.zero = some (.int k 0)) (h4 : i.size = 1) (h5 : i.bytes = b)
    (L C : Int) (n m : Nat) (hl : a.eval l = .int .i16 L) (hc : a.eval c = .int .i16 C) (hL : L = (n : Int)) (hC : C = (m : Int)) (hnm : n ≤ m) (b2 : b * m ≤ 281474976710656) (b3 : m ≤ 9223372036854775807) (b4 : B ≤ w.heap.size)
    (hK : ∀ w', Own t k w' B (some ⟨w.heap.size, 0, none⟩) n m (List.replicate n 0) → w.grownBy w' none → wpList P ops Q rest (a.put o.dst (.slice (some ⟨w.heap.size, 0, none⟩) n m)) w') : wpList P ops Q (o :: rest) a w := by
  refine wpList_plain hg fun K hK' => ?_
  subst hL hC h5
  have hb' : (i.bytes : Int) * (m : Int) ≤ 281474976710656 := by
    have h : ((i.bytes * m : Nat) : Int) ≤ 281474976710656 := by omega
    rwa [Int.natCast_mul] at h
  have hr := run_make (P := P) w T t i (.int k 0) h1 h2 h3 .i16 .i16 n m (by omega) (by omega) hb' (by omega)
  simp only [Int.toNat_natCast, h4, Nat.mul_one] at hr
  unfold Oper.wp
  simp [execOp, hop, hl, hc, hr, Result.andThen]
  refine hK' _ _ (hK _ ?_ (World.grownBy_alloc w _ none))
  refine ⟨by rw [cellsOf_length, List.length_replicate]; omega, .inr ⟨w.heap.size, m, _, rfl, b4, heap_alloc_new w _, hnm, by simp only [maxLen]; omega, by rw [size_madeCells, Nat.mul_one], ?_⟩⟩
  rw [Nat.mul_one]
  apply List.ext_getElem?
  intro j
  by_cases hj : j < n
  · simp [madeCells, cellsOf, hj, Nat.mod_one, Value.cells, show j < m by omega]
  · simp [List.getElem?_take, hj, cellsOf]

/-- An outline is read. -/
def oGood (zs : List Int) (s : FS) : Prop := n2at zs 0 ≤ 32767 ∧ riseN (oEs zs (n2at zs 0).toNat) (n2at zs 0).toNat = true ∧ oFs zs (n2at zs 0).toNat = some s ∧ oPk zs s = true
def oTold (zs : List Int) (s : FS) : Gl := ⟨sgn (n2at zs 2), sgn (n2at zs 4), sgn (n2at zs 6), sgn (n2at zs 8), oEs zs (n2at zs 0).toNat, told (zs.drop (12 + 2 * (n2at zs 0).toNat)) (oSz zs (n2at zs 0).toNat), oPs zs s (cntE (oEs zs (n2at zs 0).toNat))⟩

def glV0 : GlV := ⟨⟨0, 0, 0, 0, [], [], []⟩, none, 0, 0, none, 0, 0, none, 0, 0⟩

/-- The lists of an outline lie in blocks of other kinds. -/
def GlV.apart (w : World) (v : GlV) : Prop := ∀ g, (blockOf v.EA = some g ∨ blockOf v.PA = some g ∨ blockOf v.SA = some g) → ∃ cur t, w.heap[g]? = some (.cells cur t (0, 0)) ∧ t ≠ 29
theorem GlV.apart.below {w w' : World} {v : GlV} (h : v.apart w) (hb : Below w.heap.size w w') : v.apart w' := fun g hg => by
  obtain ⟨cur, t, hc, ht⟩ := h g hg
  exact ⟨cur, t, kept_block hc hb, ht⟩
theorem GlV.apart.ne {w : World} {v : GlV} (h : v.apart w) {q : Nat} {cs : Array Value} (hq : w.heap[q]? = some (.cells cs 29 (0, 0))) {g : Nat} (hg : blockOf v.EA = some g ∨ blockOf v.PA = some g ∨ blockOf v.SA = some g) : g ≠ q := by
  rintro rfl
  obtain ⟨cur, t, hc, ht⟩ := h g hg
  rw [hq] at hc
  simp at hc
  exact ht hc.2.symm
theorem GlV.rows.row {w : World} {v : GlV} (h : v.rows w) (ha : v.apart w) {q : Nat} {cs : Array Value} (hq : w.heap[q]? = some (.cells cs 29 (0, 0))) (cs' : Array Value) : v.rows (w.setRow q cs') :=
  ⟨h.es.keep (by simp) (fun g e _ => setRow_other _ _ _ _ (ha.ne hq (.inl e))), h.pr.keep (by simp) (fun g e _ => setRow_other _ _ _ _ (ha.ne hq (.inr (.inl e)))), h.ps.keep (by simp) (fun g e _ => setRow_other _ _ _ _ (ha.ne hq (.inr (.inr e))))⟩

/-- What read leaves. -/
def RetRead (w : World) (B b : Nat) (zs : List Int) (e : Ending) (w' : World) : Prop :=
  w.grownBy w' (some b) ∧ (((∀ s, ¬ oGood zs s) ∧ ∃ (v : GlV) (j : Nat), e = .returned (.tuple #[v.val, .bool false]) ∧ RdQ w' B b zs j)
    ∨ (∃ s v, oGood zs s ∧ e = .returned (.tuple #[v.val, .bool true]) ∧ GlV.rows w' v ∧ GlV.apart w' v ∧ v.g = oTold zs s ∧ RdQ w' B b zs (oEnd zs s)))

/-- The same with the Ends' row. -/
structure RE (w wr : World) (B b : Nat) (zs : List Int) (i bx : Nat) (cs : Array Value) (gp n : Nat) (xs : List Int) : Prop where
  g : RG w wr B b zs i bx cs
  own : Own 54 .u16 wr w.heap.size (some ⟨gp, 0, none⟩) n n xs
section
variable {w wr w' : World} {B b : Nat} {zs : List Int} {i j bx gp n : Nat} {cs : Array Value} {xs : List Int}
theorem RE.ask (h : RE w wr B b zs i bx cs gp n xs) (hr : RdQ w' B b zs j) (hg : wr.grownBy w' (some b)) : RE w w' B b zs j bx cs gp n xs :=
  ⟨h.g.ask hr hg, h.own.grown hg (fun q e he => by have := (h.own.from_ q e).1; have := h.g.lb; cases he; omega)⟩
theorem RE.below (h : RE w wr B b zs i bx cs gp n xs) (hb : Below wr.heap.size wr w') : RE w w' B b zs i bx cs gp n xs := ⟨h.g.below hb, h.own.below hb⟩
theorem RE.drew (h : RE w wr B b zs i bx cs gp n xs) : RE w wr.drew B b zs i bx cs gp n xs := h.below (Below.refl _ _).drew
theorem RE.set (h : RE w wr B b zs i bx cs gp n xs) (q : Nat) (v : Value) : RE w (wr.setCell ⟨bx, q, none⟩ v) B b zs i bx (cs.setIfInBounds q v) gp n xs :=
  ⟨h.g.set q v, h.own.keep (fun g e => Below.heap_setCell wr _ v _ (own_neS h.own h.g.box (by decide) g e))⟩
theorem RE.setE (h : RE w wr B b zs i bx cs gp n xs) (q : Nat) (x : Int) : RE w (wr.setCell ⟨gp, q, none⟩ (.int .u16 x)) B b zs i bx cs gp n (xs.set q x) := by
  obtain ⟨cur, hc⟩ := h.own.block
  exact ⟨h.g.other hc (by decide) (by decide) (h.own.from_ gp rfl).1 q _, h.own.set q x⟩
theorem RE.cellE (h : RE w wr B b zs i bx cs gp n xs) {k : Nat} {z : Int} (hz : xs[k]? = some z) : wr.cell? ⟨gp, k, none⟩ = some (.int .u16 z) := by
  obtain ⟨gg, off, e', _, hc⟩ := h.own.row.at (cellsOf_get (k := .u16) hz)
  simp only [Option.some.injEq, Addr.mk.injEq, and_true] at e'
  obtain ⟨rfl, rfl⟩ := e'
  rwa [Nat.zero_add] at hc
end

/-- The result's block written whole. -/
theorem RG.row {w wr : World} {B b : Nat} {zs : List Int} {i bx : Nat} {cs : Array Value} (h : RG w wr B b zs i bx cs) (cs' : Array Value) :
    (wr.setRow w.heap.size cs').heap[w.heap.size]? = some (.cells cs' 29 (0, 0)) ∧ w.grownBy (wr.setRow w.heap.size cs') (some b) ∧ RdQ (wr.setRow w.heap.size cs') B b zs i := by
  have h1 := h.lb
  have h2 := h.out
  refine ⟨setRow_heap wr w.heap.size glZ cs' 29 (0, 0) h2, ⟨h.gr.os, h.gr.tape, h.gr.output, by simpa using h.gr.size, fun k hk hne => (setRow_other wr w.heap.size k cs' (by omega)).trans (h.gr.block k hk hne)⟩, h.rd.keep (by simp) (fun g hg _ ho => setRow_other wr w.heap.size g cs' (by
      rintro rfl
      rcases ho with e | ⟨cur, hc⟩
      · omega
      · rw [h2] at hc
        simp at hc))⟩

/-- The same with the Program's row. -/
structure RP (w wr : World) (B b : Nat) (zs : List Int) (i bx : Nat) (cs : Array Value) (gp n : Nat) (xs : List Int) (PA : Option Addr) (pn : Nat) (pr : List Int) : Prop where
  e : RE w wr B b zs i bx cs gp n xs
  pr : Row wr PA pn (cellsOf .u8 pr)
  blk : ∀ g, blockOf PA = some g → ∃ cur, wr.heap[g]? = some (.cells cur 5 (0, 0))
section
variable {w wr w' : World} {B b : Nat} {zs : List Int} {i j bx gp n pn : Nat} {cs : Array Value} {xs pr : List Int} {PA : Option Addr}
theorem RP.ask (h : RP w wr B b zs i bx cs gp n xs PA pn pr) (hr : RdQ w' B b zs j) (hg : wr.grownBy w' (some b)) : RP w w' B b zs j bx cs gp n xs PA pn pr := by
  have hne : ∀ g, blockOf PA = some g → some g ≠ some b := fun g e he => by
    cases he
    obtain ⟨cur, hc⟩ := h.blk b e
    obtain ⟨cs, h2⟩ := h.e.g.rd.block
    exact u8_ne_rd hc h2 rfl
  exact ⟨h.e.ask hr hg, h.pr.grown hg hne, fun g e => by
    obtain ⟨cur, hc⟩ := h.blk g e
    exact ⟨cur, (hg.block g (lt_of_block hc) (hne g e)).trans hc⟩⟩
theorem RP.below (h : RP w wr B b zs i bx cs gp n xs PA pn pr) (hb : Below wr.heap.size wr w') : RP w w' B b zs i bx cs gp n xs PA pn pr :=
  ⟨h.e.below hb, h.pr.below hb, fun g e => by
    obtain ⟨cur, hc⟩ := h.blk g e
    exact ⟨cur, kept_block hc hb⟩⟩
theorem RP.set (h : RP w wr B b zs i bx cs gp n xs PA pn pr) (q : Nat) (v : Value) : RP w (wr.setCell ⟨bx, q, none⟩ v) B b zs i bx (cs.setIfInBounds q v) gp n xs PA pn pr := by
  have hne : ∀ g, blockOf PA = some g → g ≠ bx := fun g e he => by
    subst he
    obtain ⟨cur, hc⟩ := h.blk g e
    have := h.e.g.box
    rw [hc] at this
    simp at this
  exact ⟨h.e.set q v, h.pr.keep (by simp [World.setCell]) (fun g e _ => Below.heap_setCell wr _ v _ (hne g e)), fun g e => by
    obtain ⟨cur, hc⟩ := h.blk g e
    exact ⟨cur, (Below.heap_setCell wr _ v _ (hne g e)).trans hc⟩⟩
end
theorem cntE_le {l : List Int} (h : ∀ x ∈ l, 0 ≤ x ∧ x < 65536) : cntE l ≤ 65536 := by
  unfold cntE
  split
  · omega
  · rename_i hl
    have := h (l.getD (l.length - 1) 0) (by rw [List.getD_eq_getElem?_getD, List.getElem?_eq_getElem (by omega)]; exact List.getElem_mem _)
    omega
theorem oEs_bd {zs : List Int} (hB : Bytes zs) (n : Nat) : ∀ x ∈ oEs zs n, 0 ≤ x ∧ x < 65536 := by
  intro x hx
  simp only [oEs, List.mem_map] at hx
  obtain ⟨i, _, rfl⟩ := hx
  exact n2at_lt hB _

set_option maxRecDepth 100000 in
set_option maxHeartbeats 4000000 in
theorem oread_any {w : World} {B b : Nat} {zs : List Int} (h : RdQ w B b zs 0) (hB : Bytes zs) (hl : zs.length ≤ 1000000) :
    Calls Try.prog 62 #[.pointer (some ⟨b, 0, none⟩)] w (RetRead w B b zs) := by
  obtain ⟨i0, hi, hz0, hz1, hz2⟩ := info_parts Try.u16info
  have HB := Lib.hid hB
  have hlt0 := h.lt
  have hA := (Below.refl w.heap.size w).alloc (Nat.le_refl _) (.cells glZ 29)
  have hk := heap_alloc_new w (.cells glZ 29)
  have hrd := h.below hA
  have hg0 := grown_of_below hA (some b)
  have H0 := Lib.hid (rdq_i16 hrd hB (by omega))
  obtain ⟨n0, n1⟩ := n2at_lt hB 0
  obtain ⟨s0, s1⟩ := sgn_bd n0 n1
  have HNo : Hid (∀ (w' : World) (v : GlV) j, (∀ s, ¬ oGood zs s) → w.grownBy w' (some b) → RdQ w' B b zs j → RetRead w B b zs (.returned (.tuple #[v.val, .bool false])) w') := fun w' v j h1 h3 h4 => ⟨h3, .inl ⟨h1, v, j, rfl, h4⟩⟩
  clear h hB hrd
  unfold glZ at hA hk H0 hg0
  go_enter Try.func62, Try.ntmps62
  go_wp2_with fail
  with_reducible refine H0.out.mono ?_
  rintro e w1 ⟨rfl, h1, g1⟩
  have hk1 := (g1.block w.heap.size (by simp) (by intro e; cases e; omega)).trans hk
  have hg1 := grown_trans hg0 g1
  clear H0 hA hg0 g1 hk
  by_cases hneg : 32767 < n2at zs 0
  · have hsn : sgn (n2at zs 0) < 0 := by unfold sgn; rw [if_pos hneg]; omega
    have HX : Hid (∀ s, ¬ oGood zs s) := fun s hs => by have := hs.1; omega
    have KR := Lib.hid (setRow_heap w1 w.heap.size glZ glZ 29 (0, 0) hk1)
    have hs1 := hg1.size
    have HG : Hid (w.grownBy (w1.setRow w.heap.size glZ) (some b)) := ⟨hg1.os, hg1.tape, hg1.output, by simpa using hs1, fun k hk hne => (setRow_other w1 w.heap.size k glZ (by omega)).trans (hg1.block k hk hne)⟩
    have HR : Hid (RdQ (w1.setRow w.heap.size glZ) B b zs 2) := h1.keep (by simp) (fun g hg _ ho => setRow_other w1 w.heap.size g glZ (by
      rintro rfl
      rcases ho with e | ⟨cur, hc⟩
      · omega
      · rw [hk1] at hc
        simp at hc))
    unfold glZ at KR HG HR
    clear hneg
    go_wp2_with (with_reducible refine wpList_store_row rfl 29 (.tmp 2) (.tmp 13) rfl w.heap.size #[.int .i16 0, .int .i16 0, .int .i16 0, .int .i16 0, .slice none 0 0, .slice none 0 0, .slice none 0 0] rfl rfl 29 #[.int .i16 0, .int .i16 0, .int .i16 0, .int .i16 0, .slice none 0 0, .slice none 0 0, .slice none 0 0] hk1 (gl7 _ _ _ _ _ _ _ _ _ _ _ _ _).1 (gl7 _ _ _ _ _ _ _ _ _ _ _ _ _).2.1 (gl7 _ _ _ _ _ _ _ _ _ _ _ _ _).2.2 ?_)
    exact bodyPost_ret (v := .tuple #[.agg glZ, .bool false]) (results_two2 Try.results62 _ _ w.heap.size 29 _ (0, 0) _ rfl rfl KR.out Try.underlying29 rfl (glSize rfl)) rfl (HNo.out _ glV0 _ HX.out HG.out HR.out)
  · obtain ⟨n, hn⟩ : ∃ n : Nat, n2at zs 0 = (n : Int) := ⟨(n2at zs 0).toNat, by omega⟩
    have hn' : sgn (n2at zs 0) = (n : Int) := by unfold sgn; rw [if_neg hneg]; exact hn
    have hnt : (n2at zs 0).toNat = n := by omega
    have Hnt := Lib.hid hnt
    have Hle : Hid (n2at zs 0 ≤ 32767) := Int.not_lt.1 hneg
    have hn3 : n ≤ 32767 := by omega
    rw [hn']
    clear hneg hn hn' hnt n0 n1 s0 s1
    have hA2 := (Below.refl w1.heap.size w1).alloc (Nat.le_refl _) (.cells glZ 29)
    have hs1 := hg1.size
    have hs : RG w (w1.alloc (.cells glZ 29)) B b zs (2 + 2 * 0) w1.heap.size (bxC zs 0) := by
      rw [bxC_0]
      exact ⟨h1.below hA2, grown_trans hg1 (grown_of_below hA2 _), kept_block hk1 hA2, heap_alloc_new w1 _, hlt0, lt_of_block hk1⟩
    clear h1 hg1 hk1 hA2
    unfold glZ at hs
    go_wp2
    generalize w1.alloc _ = V1 at *
    generalize w1.heap.size = bx at *
    go_loopw [14] (fun i' wr => ∃ k : Nat, k ≤ 4 ∧ i' = .int .i64 k ∧ RG w wr B b zs (2 + 2 * k) bx (bxC zs k)) (fun i' _ => 4 - (intOf i').toNat)
    case atStart => exact ⟨0, Nat.zero_le _, rfl, hs⟩
    case round =>
      clear hs
      obtain ⟨k, hk, rfl, hs⟩ := hrel
      by_cases hlt : k < 4
      · have HI := Lib.hid (rdq_i16 hs.rd HB.out (by omega))
        have HC := Lib.hid (bxC_set zs hlt)
        have HCg := Lib.hid (bxC_get zs hlt)
        go_wp2_with fail
        with_reducible refine HI.out.mono ?_
        rintro e w2 ⟨rfl, h2, g2⟩
        have hs2 := hs.ask h2 g2
        have c0 := hs2.cell k _ HCg.out
        have f0 := hs2.thaw k
        have hs3 := hs2.set k (.int .i16 (sgn (n2at zs (2 + 2 * k))))
        rw [HC.out, show 2 + 2 * k + 2 = 2 + 2 * (k + 1) by omega] at hs3
        have H3 := Lib.hid hs3
        have ik0 : (0 : Int) ≤ (k : Int) := by omega
        have ik1 : (k : Int) < 4 := by omega
        clear hs h2 g2 hs2 hs3 HI HC HCg
        go_wp2
        go_roundw
        case rel => exact ⟨k + 1, by omega, by go_num, H3.out⟩
        case measure => simp [intOf]; omega
      · obtain rfl : k = 4 := by omega
        rw [bxC_4] at hs
        have HT : Hid (∀ s, oTold zs s = ⟨sgn (n2at zs 2), sgn (n2at zs 4), sgn (n2at zs 6), sgn (n2at zs 8), oEs zs n, told (zs.drop (12 + 2 * n)) (oSz zs n), oPs zs s (cntE (oEs zs n))⟩) := fun s => by unfold oTold; rw [Hnt.out]
        generalize sgn (n2at zs 2) = X0 at *
        generalize sgn (n2at zs 4) = X1 at *
        generalize sgn (n2at zs 6) = X2 at *
        generalize sgn (n2at zs 8) = X3 at *
        go_wp2_with (at_make; refine wpList_make_ints16 rfl (.tmp 23) (.tmp 23) _ rfl 54 .u16 w.heap.size i0 2 Try.underlying27 hi hz0 hz1 hz2 _ _ n n rfl rfl rfl rfl (by omega) (by omega) (by omega) hs.gr.size ?_; intro w2 hown2 hg2; have hb2 := below_of_grown hg2 (Nat.le_refl _) (fun k e => by cases e); have hs2 := hs.below hb2; have c4 := hs2.cell 4 _ rfl; have f4 := hs2.thaw 4)
        have hs3 : RE w (w2.setCell ⟨bx, 4, none⟩ (.slice (some ⟨wr.heap.size, 0, none⟩) n n)) B b zs (10 + 2 * 0) bx #[.int .i16 X0, .int .i16 X1, .int .i16 X2, .int .i16 X3, .slice (some ⟨wr.heap.size, 0, none⟩) n n, .slice none 0 0, .slice none 0 0] wr.heap.size n (oEs zs 0 ++ List.replicate (n - 0) 0) :=
          (RE.mk hs2 hown2 : RE w w2 B b zs 10 bx _ wr.heap.size n (List.replicate n 0)).set 4 _
        clear hs hs2 hown2 hg2 hb2 c4 f4 hi hz0 hz1 hz2 hlt hk
        generalize wr.heap.size = gp at *
        generalize w2.setCell ⟨bx, 4, none⟩ (.slice (some ⟨gp, 0, none⟩) n n) = V2 at *
        go_loopw [29] (fun i' wr => ∃ k : Nat, k ≤ n ∧ i' = .int .i64 k ∧ RE w wr B b zs (10 + 2 * k) bx #[.int .i16 X0, .int .i16 X1, .int .i16 X2, .int .i16 X3, .slice (some ⟨gp, 0, none⟩) n n, .slice none 0 0, .slice none 0 0] gp n (oEs zs k ++ List.replicate (n - k) 0)) (fun i' _ => n - (intOf i').toNat)
        case atStart => exact ⟨0, Nat.zero_le _, rfl, hs3⟩
        case round =>
          clear hs3
          obtain ⟨k, hk, rfl, hs⟩ := hrel
          by_cases hlt : k < n
          · obtain ⟨z, hz⟩ : ∃ z, (oEs zs k ++ List.replicate (n - k) 0)[k]? = some z := ⟨_, List.getElem?_eq_getElem (by simp [oEs_len]; omega)⟩
            have HZ := Lib.hid hz
            have HST := Lib.hid (oEs_set zs k n hlt)
            have HI : Hid (∀ W, RdQ W B b zs (10 + 2 * k) → Calls Try.prog 82 #[.pointer (some ⟨b, 0, none⟩)] W (RetQ W B b (.int .u16 (n2at zs (10 + 2 * k))) zs (10 + 2 * k + 2))) := fun W h => rdq_u16 h HB.out (by omega)
            have i0' : (0 : Int) ≤ (k : Int) := by omega
            have i1' : (k : Int) < (n : Int) := by omega
            clear hz
            replace hs := hs.drew
            go_upto_region 14 with fail
            go_region_held3 (fun w' => w'.cell? ⟨bx, 4, none⟩ = some (.slice (some ⟨gp, 0, none⟩) n n))
              (first | exact hs.g.cell 4 _ rfl | exact (hs.setE k (n2at zs (10 + 2 * k))).g.cell 4 _ rfl)
              (((go_at_call 82; (with_reducible refine (HI.out _ hs.g.rd).mono ?_); rintro e w3 ⟨rfl, h3, g3⟩; replace hs := hs.ask h3 g3; have q0 := hs.cellE HZ.out; have f0 := hs.own.thaw k; clear h3 g3)))
            have hs4 := hs.setE k (n2at zs (10 + 2 * k))
            rw [HST.out, show 10 + 2 * k + 2 = 10 + 2 * (k + 1) by omega] at hs4
            have H4 := Lib.hid hs4
            clear hs hs4 HI HST HZ
            go_wp2
            go_roundw
            case rel => exact ⟨k + 1, by omega, by go_num, H4.out⟩
            case measure => simp [intOf]; omega
          · obtain rfl : k = n := by omega
            rw [Nat.sub_self, List.replicate_zero, List.append_nil] at hs
            clear hs1 hlt0 hk
            have c4 := hs.g.cell 4 _ rfl
            have HRi := Lib.hid (orise_any (some ⟨gp, 0, none⟩) k k (oEs zs k) wr hs.own.row (by omega))
            go_wp2_with fail
            clear hlt
            with_reducible refine HRi.out.mono ?_
            rintro e w5 ⟨rfl, rfl⟩
            clear HRi c4
            cases hri : riseN (oEs zs k) k with
            | false =>
              have HX : Hid (∀ s, ¬ oGood zs s) := fun s h2 => by have := h2.2.1; rw [Hnt.out, hri] at this; cases this
              obtain ⟨KR, HG, HR⟩ := hs.g.row glZ
              have hout := hs.g.out
              have KR' := Lib.hid KR
              have HG' := Lib.hid HG
              have HR' := Lib.hid HR
              unfold glZ at KR' HG' HR' hout
              clear KR HG HR hs hri HT
              go_wp2_with (with_reducible refine wpList_store_row rfl 29 (.tmp 2) (.tmp 43) rfl w.heap.size #[.int .i16 0, .int .i16 0, .int .i16 0, .int .i16 0, .slice none 0 0, .slice none 0 0, .slice none 0 0] rfl rfl 29 #[.int .i16 0, .int .i16 0, .int .i16 0, .int .i16 0, .slice none 0 0, .slice none 0 0, .slice none 0 0] hout (gl7 _ _ _ _ _ _ _ _ _ _ _ _ _).1 (gl7 _ _ _ _ _ _ _ _ _ _ _ _ _).2.1 (gl7 _ _ _ _ _ _ _ _ _ _ _ _ _).2.2 ?_)
              exact bodyPost_ret (v := .tuple #[.agg glZ, .bool false]) (results_two2 Try.results62 _ _ w.heap.size 29 _ (0, 0) _ rfl rfl KR'.out Try.underlying29 rfl (glSize rfl)) rfl (HNo.out _ glV0 _ HX.out HG'.out HR'.out)
            | true =>
              have HGood : Hid (∀ s, oFs zs k = some s → oPk zs s = true → oGood zs s) := fun s h1 h2 => ⟨Hle.out, by rw [Hnt.out]; exact hri, by rw [Hnt.out]; exact h1, h2⟩
              have HBad : Hid (∀ s, oGood zs s → oFs zs k = some s ∧ oPk zs s = true) := fun s h => by have := h.2.2; rw [Hnt.out] at this; exact this
              have hsz : n2at zs (10 + 2 * k) = ((oSz zs k : Nat) : Int) := by unfold oSz; have := (n2at_lt HB.out (10 + 2 * k)).1; omega
              have HU := Lib.hid (rdq_u16 hs.g.rd HB.out (by omega))
              rw [hsz] at HU
              have hsl : oSz zs k < 65536 := by have := (n2at_lt HB.out (10 + 2 * k)).2; omega
              clear hsz hri
              go_wp2_with fail
              with_reducible refine HU.out.mono ?_
              rintro e w6 ⟨rfl, h6, g6⟩
              have hs6 := hs.ask h6 g6
              rw [show 10 + 2 * k + 2 = 12 + 2 * k by omega] at hs6
              have HTk := Lib.hid (rdq_takeAny hs6.g.rd (by omega) (oSz zs k))
              clear hs h6 g6 HU
              go_wp2_with fail
              with_reducible refine HTk.out.mono ?_
              rintro e w7 ⟨PA, pn, pc, rfl, hpr, hblk, h7, g7⟩
              have hs7 : RP w w7 B b zs (oA zs k) bx #[.int .i16 X0, .int .i16 X1, .int .i16 X2, .int .i16 X3, .slice (some ⟨gp, 0, none⟩) k k, .slice none 0 0, .slice none 0 0] gp k (oEs zs k) PA pn (told (zs.drop (12 + 2 * k)) (oSz zs k)) := ⟨hs6.ask h7 g7, hpr, fun g e => (hblk g e).2⟩
              obtain ⟨b0, b1, b2, b3, b4, b5, b6⟩ := cells7 hs7.e.g.box
              have f5 := hs7.e.g.thaw 5
              have hs8 := hs7.set 5 (.slice PA pn pc)
              clear hs6 hs7 hpr hblk h7 g7 HTk
              have hs9 : RP w (w7.setCell ⟨bx, 5, none⟩ (.slice PA pn pc)) B b zs (oA zs k) bx #[.int .i16 X0, .int .i16 X1, .int .i16 X2, .int .i16 X3, .slice (some ⟨gp, 0, none⟩) k k, .slice PA pn pc, .slice none 0 0] gp k (oEs zs k) PA pn (told (zs.drop (12 + 2 * k)) (oSz zs k)) := hs8
              clear hs8
              generalize told (zs.drop (12 + 2 * k)) (oSz zs k) = pr at *
              have hrs : GlV.rows (w7.setCell ⟨bx, 5, none⟩ (.slice PA pn pc)) ⟨⟨X0, X1, X2, X3, oEs zs k, pr, []⟩, some ⟨gp, 0, none⟩, k, k, PA, pn, pc, none, 0, 0⟩ := ⟨hs9.e.own.row, hs9.pr, RowS.empty _ _⟩
              have HCt : Hid (Calls Try.prog 56 #[.agg #[.int .i16 X0, .int .i16 X1, .int .i16 X2, .int .i16 X3, .slice (some ⟨gp, 0, none⟩) k k, .slice PA pn pc, .slice none 0 0]] (w7.setCell ⟨bx, 5, none⟩ (.slice PA pn pc)) (Ret (w7.setCell ⟨bx, 5, none⟩ (.slice PA pn pc)) (.int .i64 (cntE (oEs zs k) : Nat)))) := ocount_any _ _ hrs (by show k ≤ 1000000; omega) (oEs_bd HB.out k)
              have hcn := cntE_le (oEs_bd HB.out k)
              clear hrs
              go_wp2_with fail
              clear b0 b1 b2 b3 b4 b5 b6 f5
              generalize w7.setCell ⟨bx, 5, none⟩ (.slice PA pn pc) = V3 at *
              with_reducible refine HCt.out.mono ?_
              rintro e w8 ⟨rfl, hb8⟩
              have hs10 := hs9.below hb8
              have HPt := Lib.hid (opoints_any (cntE (oEs zs k)) hs10.e.g.rd HB.out hl (by omega))
              clear hs9 hb8 HCt
              go_wp2_with fail
              with_reducible refine HPt.out.mono ?_
              rintro e w9 ⟨hg9, ⟨hno, rfl, j, hrd⟩ | ⟨s, SA, sc, hyes, hpk, rfl, hps, hrd⟩⟩
              · have HX : Hid (∀ s, ¬ oGood zs s) := fun s h2 => by
                  have h3 := HBad.out s h2
                  rw [hno s h3.1] at h3
                  cases h3.2
                have hs11 := hs10.ask hrd hg9
                obtain ⟨b0, b1, b2, b3, b4, b5, b6⟩ := cells7 hs11.e.g.box
                have f6 := hs11.e.g.thaw 6
                have hs12 : RP w (w9.setCell ⟨bx, 6, none⟩ (.slice none 0 0)) B b zs j bx #[.int .i16 X0, .int .i16 X1, .int .i16 X2, .int .i16 X3, .slice (some ⟨gp, 0, none⟩) k k, .slice PA pn pc, .slice none 0 0] gp k (oEs zs k) PA pn pr := hs11.set 6 (.slice none 0 0)
                obtain ⟨KR, HG, HR⟩ := hs12.e.g.row #[.int .i16 X0, .int .i16 X1, .int .i16 X2, .int .i16 X3, .slice (some ⟨gp, 0, none⟩) k k, .slice PA pn pc, .slice none 0 0]
                have KR' := Lib.hid KR
                have HG' := Lib.hid HG
                have HR' := Lib.hid HR
                have hout := hs12.e.g.out
                unfold glZ at hout
                clear hno hrd hg9 hs10 hs11 hs12 KR HG HR HPt HGood HBad HT
                go_wp2_with (with_reducible refine wpList_store_row rfl 29 (.tmp 2) (.tmp 58) rfl w.heap.size #[.int .i16 X0, .int .i16 X1, .int .i16 X2, .int .i16 X3, .slice (some ⟨gp, 0, none⟩) k k, .slice PA pn pc, .slice none 0 0] rfl rfl 29 #[.int .i16 0, .int .i16 0, .int .i16 0, .int .i16 0, .slice none 0 0, .slice none 0 0, .slice none 0 0] hout (gl7 _ _ _ _ _ _ _ _ _ _ _ _ _).1 (gl7 _ _ _ _ _ _ _ _ _ _ _ _ _).2.1 (gl7 _ _ _ _ _ _ _ _ _ _ _ _ _).2.2 ?_)
                exact bodyPost_ret (v := .tuple #[.agg #[.int .i16 X0, .int .i16 X1, .int .i16 X2, .int .i16 X3, .slice (some ⟨gp, 0, none⟩) k k, .slice PA pn pc, .slice none 0 0], .bool false]) (results_two2 Try.results62 _ _ w.heap.size 29 _ (0, 0) _ rfl rfl KR'.out Try.underlying29 rfl (glSize rfl)) rfl (HNo.out _ ⟨⟨X0, X1, X2, X3, [], [], []⟩, some ⟨gp, 0, none⟩, k, k, PA, pn, pc, none, 0, 0⟩ _ HX.out HG'.out HR'.out)
              · have HGd := Lib.hid (HGood.out s hyes hpk)
                have hs11 := hs10.ask hrd hg9
                obtain ⟨b0, b1, b2, b3, b4, b5, b6⟩ := cells7 hs11.e.g.box
                have f6 := hs11.e.g.thaw 6
                have hs12 : RP w (w9.setCell ⟨bx, 6, none⟩ (.slice SA (cntE (oEs zs k)) sc)) B b zs (oEnd zs s) bx #[.int .i16 X0, .int .i16 X1, .int .i16 X2, .int .i16 X3, .slice (some ⟨gp, 0, none⟩) k k, .slice PA pn pc, .slice SA (cntE (oEs zs k)) sc] gp k (oEs zs k) PA pn pr := hs11.set 6 _
                have hbxs : w.heap.size ≤ w8.heap.size := hs10.e.g.gr.size
                have hps2 : OwnS 60 encSp 3 (w9.setCell ⟨bx, 6, none⟩ (.slice SA (cntE (oEs zs k)) sc)) w.heap.size SA (cntE (oEs zs k)) sc (oPs zs s (cntE (oEs zs k))) := (hps.mono hbxs).keep (fun q e => Below.heap_setCell w9 _ _ _ (by
                  rintro rfl
                  have h1 := (hps.from_ _ e).1
                  have h2 := lt_of_block hs10.e.g.box
                  omega))
                obtain ⟨KR, HG, HR⟩ := hs12.e.g.row #[.int .i16 X0, .int .i16 X1, .int .i16 X2, .int .i16 X3, .slice (some ⟨gp, 0, none⟩) k k, .slice PA pn pc, .slice SA (cntE (oEs zs k)) sc]
                have hout := hs12.e.g.out
                have hap : GlV.apart (w9.setCell ⟨bx, 6, none⟩ (.slice SA (cntE (oEs zs k)) sc)) ⟨⟨X0, X1, X2, X3, oEs zs k, pr, oPs zs s (cntE (oEs zs k))⟩, some ⟨gp, 0, none⟩, k, k, PA, pn, pc, SA, cntE (oEs zs k), sc⟩ := by
                  rintro g (e | e | e)
                  · simp [blockOf] at e
                    subst e
                    obtain ⟨cur, hc⟩ := hs12.e.own.block
                    exact ⟨cur, _, hc, by decide⟩
                  · obtain ⟨cur, hc⟩ := hs12.blk _ e
                    exact ⟨cur, _, hc, by decide⟩
                  · rcases hps2.shape with ⟨e2, _⟩ | ⟨g', cur, e2, _, _, hh, _⟩
                    · rw [e2] at e
                      simp [blockOf] at e
                    · rw [e2] at e
                      simp [blockOf] at e
                      subst e
                      exact ⟨cur, _, hh, by decide⟩
                have hrw : GlV.rows (w9.setCell ⟨bx, 6, none⟩ (.slice SA (cntE (oEs zs k)) sc)) ⟨⟨X0, X1, X2, X3, oEs zs k, pr, oPs zs s (cntE (oEs zs k))⟩, some ⟨gp, 0, none⟩, k, k, PA, pn, pc, SA, cntE (oEs zs k), sc⟩ := ⟨hs12.e.own.row, hs12.pr, hps2.row encSp_len⟩
                have HRows := Lib.hid (hrw.row hap hout #[.int .i16 X0, .int .i16 X1, .int .i16 X2, .int .i16 X3, .slice (some ⟨gp, 0, none⟩) k k, .slice PA pn pc, .slice SA (cntE (oEs zs k)) sc])
                have HAp : Hid (GlV.apart ((w9.setCell ⟨bx, 6, none⟩ (.slice SA (cntE (oEs zs k)) sc)).setRow w.heap.size #[.int .i16 X0, .int .i16 X1, .int .i16 X2, .int .i16 X3, .slice (some ⟨gp, 0, none⟩) k k, .slice PA pn pc, .slice SA (cntE (oEs zs k)) sc]) ⟨⟨X0, X1, X2, X3, oEs zs k, pr, oPs zs s (cntE (oEs zs k))⟩, some ⟨gp, 0, none⟩, k, k, PA, pn, pc, SA, cntE (oEs zs k), sc⟩) := fun g hg => by
                  obtain ⟨cur, t, hc, ht⟩ := hap g hg
                  exact ⟨cur, t, (setRow_other _ _ _ _ (hap.ne hout hg)).trans hc, ht⟩
                clear hap hrw
                have KR' := Lib.hid KR
                have HG' := Lib.hid HG
                have HR' := Lib.hid HR
                have HTs := Lib.hid (HT.out s)
                unfold glZ at hout
                clear hyes hpk hps hps2 hbxs hrd hg9 hs10 hs11 hs12 KR HG HR HPt HGood HBad HT
                generalize cntE (oEs zs k) = cn at *
                go_wp2_with (with_reducible refine wpList_store_row rfl 29 (.tmp 2) (.tmp 58) rfl w.heap.size #[.int .i16 X0, .int .i16 X1, .int .i16 X2, .int .i16 X3, .slice (some ⟨gp, 0, none⟩) k k, .slice PA pn pc, .slice SA cn sc] rfl rfl 29 #[.int .i16 0, .int .i16 0, .int .i16 0, .int .i16 0, .slice none 0 0, .slice none 0 0, .slice none 0 0] hout (gl7 _ _ _ _ _ _ _ _ _ _ _ _ _).1 (gl7 _ _ _ _ _ _ _ _ _ _ _ _ _).2.1 (gl7 _ _ _ _ _ _ _ _ _ _ _ _ _).2.2 ?_)
                exact bodyPost_ret (v := .tuple #[.agg #[.int .i16 X0, .int .i16 X1, .int .i16 X2, .int .i16 X3, .slice (some ⟨gp, 0, none⟩) k k, .slice PA pn pc, .slice SA cn sc], .bool true]) (results_two2 Try.results62 _ _ w.heap.size 29 _ (0, 0) _ rfl rfl KR'.out Try.underlying29 rfl (glSize rfl)) rfl ⟨HG'.out, .inr ⟨s, _, HGd.out, rfl, HRows.out, HAp.out, by rw [HTs.out], HR'.out⟩⟩

end Go.Proofs.Ytlcnonhebppeiaa
