/- What the laws of this seat lean on: WrBox SimW SimX RdQ Two SimP RdF. -/
import Derived.Deep.RegionHeld3
import Derived.Maps.AppendAt
import Derived.StillTailTactics
import Derived.Test.YtlcnonhebppeiaaBase1
import Derived.Test.YtlcnonhebppeiaaBase2

/- A Writer beside a struct in a block of its own: what a Writer's call leaves of both. -/
namespace Go.Proofs.Ytlcnonhebppeiaa
open Go.RowKit
set_option linter.unusedVariables false

/-- A block of another kind is no Writer's. -/
theorem Wr.apart {w : World} {B b k : Nat} {zs : List Int} {cs : Array Value} {t : TypeId} (h : Wr w B b zs) (hk : w.heap[k]? = some (.cells cs t (0, 0))) (h1 : t ≠ 5) (h2 : t ≠ 97) : ¬ WrS w b k := by
  rintro (rfl | ⟨A, n, c, hb, e⟩)
  · obtain ⟨A, n, c, hb, _⟩ := h
    rw [hk] at hb
    simp at hb
    exact h2 hb.2
  · obtain ⟨A', n', c', hb', _, hown⟩ := h
    rw [hb] at hb'
    simp at hb'
    obtain ⟨rfl, rfl, rfl⟩ := hb'
    rcases hown.shape with ⟨rfl, _⟩ | ⟨g, cur, rfl, _, _, hh, _⟩
    · simp [blockOf] at e
    · simp [blockOf] at e
      subst e
      rw [hk] at hh
      simp at hh
      exact h1 hh.2

/-- A Writer in block b that is younger than w, and a struct in block bt. -/
structure StB (w wr : World) (b : Nat) (zs : List Int) (bt : Nat) (cs : Array Value) (t : TypeId) : Prop where
  wr_ : Wr wr w.heap.size b zs
  bel : Below w.heap.size w wr
  box : wr.heap[bt]? = some (.cells cs t (0, 0))
  n8 : t ≠ 5
  nw : t ≠ 97

section
variable {w wr w' : World} {b : Nat} {zs ys : List Int} {bt : Nat} {cs : Array Value} {t : TypeId}
theorem StB.below (h : StB w wr b zs bt cs t) (hb : Below wr.heap.size wr w') : StB w w' b zs bt cs t :=
  ⟨h.wr_.below hb, h.bel.trans (hb.mono h.bel.size), (hb.block _ (lt_of_block h.box)).trans h.box, h.n8, h.nw⟩
theorem StB.turned (h : StB w wr b zs bt cs t) (h1 : Wr w' w.heap.size b ys) (ht : Turned wr w' (WrS wr b)) : StB w w' b ys bt cs t :=
  ⟨h1, h.wr_.older h.bel (Nat.le_refl _) ht, (ht.block _ (lt_of_block h.box) (h.wr_.apart h.box h.n8 h.nw)).trans h.box, h.n8, h.nw⟩
theorem StB.drew (h : StB w wr b zs bt cs t) : StB w wr.drew b zs bt cs t := ⟨h.wr_, h.bel.drew, h.box, h.n8, h.nw⟩
theorem StB.drewN (h : StB w wr b zs bt cs t) (q : Nat) : StB w (wr.drewN q) b zs bt cs t := ⟨h.wr_, below_drewN h.bel q, h.box, h.n8, h.nw⟩
theorem StB.cell (h : StB w wr b zs bt cs t) (i : Nat) (v : Value) (hi : cs[i]? = some v) : wr.cell? ⟨bt, i, none⟩ = some v := (cell_of_row wr _ i _ _ _ h.box).trans hi
theorem StB.size (h : StB w wr b zs bt cs t) : w.heap.size ≤ wr.heap.size := h.bel.size
end

/-- A struct that is boxed, and a new Writer behind it. -/
theorem stB_new (w : World) (cs : Array Value) (t : TypeId) (h8 : t ≠ 5) (hw : t ≠ 97) : StB w ((w.alloc (.cells cs t)).alloc (.cells #[.slice none 0 0] 97)) (w.heap.size + 1) [] w.heap.size cs t := by
  have hb1 : Below w.heap.size w (w.alloc (.cells cs t)) := (Below.refl _ _).alloc (Nat.le_refl _) _
  have hw' := wr_new (w.alloc (.cells cs t))
  have hs : (w.alloc (.cells cs t)).heap.size = w.heap.size + 1 := by simp
  rw [hs] at hw'
  refine ⟨hw'.mono (by omega), hb1.alloc (by rw [hs]; omega) _, ?_, h8, hw⟩
  rw [Below.heap_alloc _ _ _ (by rw [hs]; omega)]
  exact heap_alloc_new w _

/-- An element of an array that is a value. -/
theorem run_index_arr {P : Program} (w : World) (T e : TypeId) (len : Nat) (cs : Array Value) (k : Nat) (v : Value) (hT : P.underlying T = some (.array len e)) (ha : (isAgg e).run P w = .ok false w) (hs : (Go.sizeOf e).run P w = .ok 1 w) (hk : k < len) (hv : cs[k]? = some v) :
    (Instr.index T (.agg cs) (.int .i64 k)).run P w = .ok v w := by
  have hk' : (k : Int) < (len : Int) := by omega
  have hk0 : (0 : Int) ≤ (k : Int) := by omega
  simp only [Instr.index, asIntOf, Sem.run_bind, Sem.run_pure, Result.andThen_ok, run_underlying hT, hk', hk0, and_self, if_true, hs, Int.toNat_natCast, Nat.mul_one, Go.part, ha, Bool.false_eq_true, if_false, hv]

end Go.Proofs.Ytlcnonhebppeiaa

/- A Writer's bytes lie where they lay, or behind all that was there; simple's flags and changes, written. -/
namespace Go.Proofs.Ytlcnonhebppeiaa
open Go.RowKit
set_option linter.unusedVariables false

theorem getD_headD (l : List Int) : l.getD 0 0 = l.headD 0 := by cases l <;> rfl

/-- A slice's length. -/
def slLen : Value → Nat
  | .slice _ n _ => n
  | _ => 0

theorem run_append_row_at {P : Program} (w : World) (t : TypeId) (k : IntKind) (base T ty : Nat) (i : TypeInfo) (b : Nat) (ht : P.underlying T = some (.slice t)) (hi : P.info? t = some i) (hz : i.zero = some (.int k 0)) (hs : i.size = 1) (hby : i.bytes = b)
    (A : Option Addr) (n c : Nat) (zs : List Int) (hown : Own t k w base A n c zs) (A' : Option Addr) (n' c' : Nat) (ys : List Int) (hr : Row w A' n' (cellsOf k ys))
    (hb : (n + n') * b ≤ 140737488355328) (hm : n + n' ≤ 140737488355328) (hbase : base ≤ w.heap.size) :
    ∃ A2 c2 w', (Builtin.append_ #[T, T] ty #[.slice A n c, .slice A' n' c']).run P w = .ok (.slice A2 (n + n') c2) w' ∧ Own t k w' base A2 (n + n') c2 (zs ++ ys) ∧ w.grownBy w' (blockOf A) ∧ (blockOf A2 = blockOf A ∨ blockOf A2 = some w.heap.size) := by
  have hbo : (Value.slice A n c).ownBlock = blockOf A := by
    rcases hown.shape with ⟨rfl, _⟩ | ⟨g, cur, rfl, _⟩ <;> rfl
  have hyl := hr.len
  by_cases hy : n' = 0
  · obtain rfl : ys = [] := List.eq_nil_of_length_eq_zero (by omega)
    subst hy
    refine ⟨A, c, w, ?_, by simpa using hown, World.grownBy.refl w _, .inl rfl⟩
    rcases hown.shape with ⟨rfl, rfl, rfl, rfl⟩ | ⟨g, cur, rfl, _, _, _, hle, _⟩
    · cases A' <;> simp [Builtin.append_, run_underlying ht, sizeOf, typeInfo, hi, Builtin.lenOf, Builtin.firstCells, loadCells, loadCellsFrom]
    · cases A' <;> simp [Builtin.append_, run_underlying ht, sizeOf, typeInfo, hi, Builtin.lenOf, Builtin.firstCells, loadCells, loadCellsFrom, hle, storeCells]
  · obtain ⟨g, off, rfl, hg, hc⟩ := hr.2 (by omega)
    obtain ⟨v', w', hrun, h2, h3, _, h5⟩ := run_append_own_at (P := P) w base T ty t i (.int k 0) 1 b ht hi hz hs hby rfl (by omega) (.slice A n c) n (cellsOf k zs) hown ⟨g, off, none⟩ n' c' (cellsOf k ys) (by rw [cellsOf_length]; omega)
      (fun j u hu => by rw [Addr.add_lit]; exact hc j u hu) (cellsOf_one _ _) (by simp only [maxLen]; omega) hb hbase
    rw [cellsOf_append] at h2
    obtain ⟨A2, c2, rfl, h2'⟩ := own_shape h2
    refine ⟨A2, c2, w', hrun, h2', by rw [← hbo]; exact h3, ?_⟩
    rw [← hbo]
    have hb2 : (Value.slice A2 (n + n') c2).ownBlock = blockOf A2 := by
      rcases h2'.shape with ⟨rfl, _⟩ | ⟨g, cur, rfl, _⟩ <;> rfl
    rw [← hb2]
    exact h5

theorem wpList_append_row_at {P : Program} {w : World} {ops : Array Oper} {rest : List Oper} {o : Oper} {a : Act} {Q : Exit → Act → World → Prop} (hgd : o.guard = none) (s x : Operand) (T : TypeId)
    (ho : o.op = .call { callee := .builtin .append, args := #[s, x], argTypes := #[T, T] }) (t : TypeId) (k : IntKind)
    (base : Nat) (i : TypeInfo) (b : Nat) (ht : P.underlying T = some (.slice t)) (hi : P.info? t = some i) (hz : i.zero = some (.int k 0)) (hs : i.size = 1) (hby : i.bytes = b)
    (A : Option Addr) (n c : Nat) (zs : List Int) (hes : a.eval s = .slice A n c) (hown : Own t k w base A n c zs) (A' : Option Addr) (n' c' : Nat) (ys : List Int) (hex : a.eval x = .slice A' n' c') (hr : Row w A' n' (cellsOf k ys))
    (hb : (n + n') * b ≤ 140737488355328) (hm : n + n' ≤ 140737488355328) (hbase : base ≤ w.heap.size)
    (h : ∀ A2 c2 w', Own t k w' base A2 (n + n') c2 (zs ++ ys) → w.grownBy w' (blockOf A) → (blockOf A2 = blockOf A ∨ blockOf A2 = some w.heap.size) → wpList P ops Q rest (a.put o.dst (.slice A2 (n + n') c2)) w') : wpList P ops Q (o :: rest) a w := by
  refine wpList_plain hgd fun _ hK => ?_
  obtain ⟨A2, c2, w', hrun, h2, h3, h4⟩ := run_append_row_at (P := P) w t k base T o.type i b ht hi hz hs hby A n c zs hown A' n' c' ys hr hb hm hbase
  unfold Oper.wp execOp
  simp only [ho, resolve, invoke, builtin, Sem.run_bind, Sem.run_pure, Result.andThen_ok, List.map_toArray, List.map_cons, List.map_nil, hes, hex, hrun]
  exact hK _ _ (h A2 c2 w' h2 h3 h4)

/-- Of what was there only a Writer's blocks have turned, and it has no others but new ones. -/
structure TurnedN (w w' : World) (b : Nat) : Prop where
  t : Turned w w' (WrS w b)
  n : ∀ k, WrS w' b k → WrS w b k ∨ w.heap.size ≤ k
theorem TurnedN.trans {w w1 w2 : World} {b : Nat} (h : TurnedN w w1 b) (k : TurnedN w1 w2 b) : TurnedN w w2 b :=
  ⟨⟨k.t.os.trans h.t.os, k.t.tape.trans h.t.tape, k.t.output.trans h.t.output, Nat.le_trans h.t.size k.t.size, fun i hi hs => (k.t.block i (Nat.lt_of_lt_of_le hi h.t.size) (fun hh => by rcases h.n i hh with h1 | h1; exact hs h1; omega)).trans (h.t.block i hi hs)⟩,
    fun i hi => by
      rcases k.n i hi with h1 | h1
      · exact h.n i h1
      · exact .inr (Nat.le_trans h.t.size h1)⟩
theorem wrs_below {w w' : World} {b k : Nat} (hb : Below w.heap.size w w') (hlt : b < w.heap.size) (h : WrS w' b k) : WrS w b k := by
  rcases h with rfl | ⟨A, n, c, h, e⟩
  · exact .inl rfl
  · exact .inr ⟨A, n, c, by rw [← hb.block b hlt]; exact h, e⟩
theorem TurnedN.of_below {w w' : World} {b : Nat} (hb : Below w.heap.size w w') (hlt : b < w.heap.size) : TurnedN w w' b :=
  ⟨⟨hb.os, hb.tape, hb.output, hb.size, fun k hk _ => hb.block k hk⟩, fun k hk => .inl (wrs_below hb hlt hk)⟩
theorem TurnedN.row {w w' : World} {b : Nat} {A : Option Addr} {n : Nat} {xs : List Value} (h : TurnedN w w' b) (hr : Row w A n xs) (hA : ∀ g, blockOf A = some g → ¬ WrS w b g) : Row w' A n xs := hr.turned h.t hA
theorem TurnedN.far {w w' : World} {b g : Nat} (h : TurnedN w w' b) (hlt : g < w.heap.size) (hg : ¬ WrS w b g) : ¬ WrS w' b g := fun hh => by
  rcases h.n g hh with h1 | h1
  · exact hg h1
  · omega
theorem TurnedN.belowB {w0 w w' : World} {B b : Nat} {zs : List Int} (h : TurnedN w w' b) (hw : Wr w B b zs) (hb : Below B w0 w) : Below B w0 w' :=
  h.t.below hb (by have := hw.from_; omega) (fun k hs => (hw.owns k hs).1)

/-- What a Writer's call leaves. -/
def RetWN (w : World) (B b : Nat) (zs : List Int) (e : Ending) (w' : World) : Prop := e = .returned (.pointer (some ⟨b, 0, none⟩)) ∧ Wr w' B b zs ∧ TurnedN w w' b

set_option maxHeartbeats 400000 in
theorem addN_any (B b : Nat) (zs : List Int) (A' : Option Addr) (n' c' : Nat) (ys : List Int) (w : World) (h : Wr w B b zs) (hr : Row w A' n' (cellsOf .u8 ys)) (hl : zs.length + n' ≤ 140737488355328) :
    Calls Try.prog 91 #[.pointer (some ⟨b, 0, none⟩), .slice A' n' c'] w (RetWN w B b (zs ++ ys)) := by
  obtain ⟨i0, hi, hz0, hz1, hz2⟩ := info_parts Try.u8info
  obtain ⟨A, n, c, hb, h1, h2⟩ := h
  have hlt : b < w.heap.size := lt_of_block hb
  have hBw : B ≤ w.heap.size := by omega
  have hn : n + n' ≤ 140737488355328 := by have := h2.len; omega
  have hne : ∀ g, blockOf A = some g → some b ≠ blockOf A := fun g e => by
    rcases h2.shape with ⟨rfl, _⟩ | ⟨g', cur, rfl, _, _, hh, _⟩
    · simp [blockOf]
    · simp only [blockOf, Option.map_some]
      intro he
      cases he
      exact u8_ne_wr hh hb rfl
  have hne' : some b ≠ blockOf A := by
    cases hA : blockOf A with
    | none => simp
    | some g => rw [← hA]; exact hne g hA
  have c0 : w.cell? ⟨b, 0, none⟩ = some (.slice A n c) := cell_of_row w b 0 _ 97 (0, 0) hb
  have Hb := Lib.hid hb
  have Hne := Lib.hid hne'
  clear hb hne hne'
  go_enter Try.func91, Try.ntmps91
  go_wp2_with (at_builtin; refine wpList_append_row_at rfl (.tmp 11) (.tmp 12) _ rfl 5 .u8 B i0 1 Try.underlying25 hi hz0 hz1 hz2 A n c zs rfl h2 A' n' c' ys rfl hr (by omega) (by omega) hBw ?_)
  intro A2 c2 w1 hown1 hg1 hA2
  have HA2 := Lib.hid hA2
  clear hA2
  have hb1 : w1.heap[b]? = some (.cells #[.slice A n c] 97 (0, 0)) := by rw [hg1.block b hlt Hne.out]; exact Hb.out
  have c1 : w1.cell? ⟨b, 0, none⟩ = some (.slice A n c) := cell_of_row w1 b 0 _ 97 (0, 0) hb1
  have f1 : w1.frozen? ⟨b, 0, none⟩ = false := by simp [World.frozen?, hb1]
  have hb2 := Lib.hid (set_block hb1 0 (.slice A2 (n + n') c2))
  have hown2 : Hid (OwnB (w1.setCell ⟨b, 0, none⟩ (.slice A2 (n + n') c2)) B A2 (n + n') c2 (zs ++ ys)) := hown1.keep fun g e => Below.heap_setCell _ _ _ _ (by
    rcases hown1.shape with ⟨rfl, _⟩ | ⟨g', cur, rfl, _, _, hh, _⟩
    · simp [blockOf] at e
    · simp [blockOf] at e
      subst e
      exact u8_ne_wr hh hb1)
  have ht : Hid (Turned w (w1.setCell ⟨b, 0, none⟩ (.slice A2 (n + n') c2)) (WrS w b)) := ⟨hg1.os, hg1.tape, hg1.output, by simpa [World.setCell] using hg1.size, fun k hk hs =>
    (Below.heap_setCell w1 _ _ k (fun e => hs (.inl e))).trans (hg1.block k hk (fun e => hs (.inr ⟨A, n, c, Hb.out, e.symm⟩)))⟩
  have hN : Hid (∀ k, WrS (w1.setCell ⟨b, 0, none⟩ (.slice A2 (n + n') c2)) b k → WrS w b k ∨ w.heap.size ≤ k) := by
    rintro k (rfl | ⟨A3, n3, c3, h3, e3⟩)
    · exact .inl (.inl rfl)
    · rw [hb2.out] at h3
      simp at h3
      obtain ⟨rfl, rfl, rfl⟩ := h3
      rcases HA2.out with h5 | h5
      · exact .inl (.inr ⟨A, n, c, Hb.out, by rw [← h5]; exact e3⟩)
      · rw [h5] at e3
        cases e3
        exact .inr (Nat.le_refl _)
  clear hb1 hown1 hg1 c0
  go_wp2
  go_ret
  exact ⟨rfl, ⟨A2, n + n', c2, hb2.out, h1, hown2.out⟩, ht.out, hN.out⟩

/-- A Writer's call behind a new block. -/
theorem RetWN.alloc {w w' : World} {B b : Nat} {zs : List Int} {o : Obj} {e : Ending} (h0 : Wr w B b zs) {ys : List Int} (h : RetWN (w.alloc o) B b ys e w') : RetWN w B b ys e w' := by
  obtain ⟨rfl, h1, h2⟩ := h
  exact ⟨rfl, h1, (TurnedN.of_below ((Below.refl _ _).alloc (Nat.le_refl _) o) h0.from_.2).trans h2⟩

theorem wu8N_any (B b : Nat) (zs : List Int) (x : Int) (w : World) (h : Wr w B b zs) (hl : zs.length ≤ 140737488351232) :
    Calls Try.prog 94 #[.pointer (some ⟨b, 0, none⟩), .int .u8 x] w (RetWN w B b (zs ++ [x])) := by
  have ha := h.below ((Below.refl w.heap.size w).alloc (Nat.le_refl _) (.cells #[.int .u8 x] 5))
  go_enter Try.func94, Try.ntmps94
  go_wp2_with fail
  refine (addN_any B b zs _ _ _ [x] _ ha (row_one _ _ _ _) (by omega)).mono ?_
  rintro e w1 hr
  obtain ⟨rfl, h1⟩ := RetWN.alloc h hr
  go_wp2
  go_ret
  exact ⟨rfl, h1⟩

theorem wu16N_any (B b : Nat) (zs : List Int) (x : Int) (w : World) (h : Wr w B b zs) (hl : zs.length ≤ 140737488351232) (x0 : 0 ≤ x) (x1 : x < 65536) :
    Calls Try.prog 45 #[.pointer (some ⟨b, 0, none⟩), .int .u16 x] w (RetWN w B b (zs ++ b2 x)) := by
  have ha := h.below ((Below.refl w.heap.size w).alloc (Nat.le_refl _) (.cells #[.int .u8 (x / 256), .int .u8 (x % 256)] 5))
  rw [b2_small x x0 x1]
  go_enter Try.func45, Try.ntmps45
  go_wp2_with fail
  refine (addN_any B b zs _ _ _ [x / 256, x % 256] _ ha (row_lit w .u8 5 [x / 256, x % 256] 2 rfl) (by omega)).mono ?_
  rintro e w1 hr
  obtain ⟨rfl, h1⟩ := RetWN.alloc h hr
  go_wp2
  go_ret
  exact ⟨rfl, h1⟩

theorem wi16N_any (B b : Nat) (zs : List Int) (x : Int) (w : World) (h : Wr w B b zs) (hl : zs.length ≤ 140737488351232) :
    Calls Try.prog 44 #[.pointer (some ⟨b, 0, none⟩), .int .i16 x] w (RetWN w B b (zs ++ b2 (x % 65536))) := by
  go_enter Try.func44, Try.ntmps44
  go_wp2_with fail
  refine (wu16N_any B b zs (x % 65536) _ h hl (by omega) (by omega)).mono ?_
  rintro e w1 ⟨rfl, h1⟩
  go_wp2
  go_ret
  exact ⟨rfl, h1⟩

set_option maxHeartbeats 1000000 in
theorem orow_any (A : Option Addr) (n c : Nat) (l : List Int) (w : World) (hr : Row w A n (cellsOf .u8 l)) (h1 : 1 ≤ n) (hn : n ≤ 1000000) :
    Calls Try.prog 93 #[.slice A n c] w (Quiet w (.int .i64 (rowOf l : Nat))) := by
  have Hl := Lib.hid hr.len
  obtain ⟨h, hh⟩ := get_some (zs := l) (k := 0) (by have := Hl.out; omega)
  obtain ⟨g, off, rfl, hg, hc0⟩ := hr.at (cellsOf_get (k := .u8) hh)
  rw [Nat.add_zero] at hc0
  have Hh : Hid (l.headD 0 = h) := by show _ = _; cases l with
    | nil => simp at hh
    | cons x r => simpa using hh
  clear hh
  go_enter Try.func93, Try.ntmps93
  go_wp2
  go_loopw [3] (fun i wr => ∃ k q : Nat, 1 ≤ k ∧ k ≤ n ∧ k ≤ 256 ∧ i = .int .i64 k ∧ Hid (∀ j, j < k → l.getD j 0 = l.headD 0) ∧ wr = w.drewN q) (fun i _ => n - (intOf i).toNat)
  case atStart => exact ⟨1, 0, Nat.le_refl _, h1, by omega, rfl, Lib.hid (fun j hj => (show j = 0 by omega) ▸ getD_headD l), rfl⟩
  case round =>
    obtain ⟨k, q, hk1, hk, hk2, rfl, HR, rfl⟩ := hrel
    by_cases hlt : k < n
    · have D1 : decide ((k : Int) < (n : Int)) = true := decide_eq_true (by omega)
      by_cases h256 : k < 256
      · have D2 : decide ((k : Int) < 256) = true := decide_eq_true (by omega)
        obtain ⟨x, hx⟩ := get_some (zs := l) (k := k) (by have := Hl.out; omega)
        obtain ⟨g', off', e', _, hc⟩ := hr.at (cellsOf_get (k := .u8) hx)
        simp only [Option.some.injEq, Addr.mk.injEq, and_true] at e'
        obtain ⟨rfl, rfl⟩ := e'
        have hxg : l.getD k 0 = x := by simp [hx]
        have i0 : (0 : Int) ≤ (k : Int) := by omega
        have i1 : (k : Int) < (n : Int) := by omega
        have i2 : (0 : Int) < (n : Int) := by omega
        by_cases he : x = h
        · have hb : (x == h) = true := by simp [he]
          have HT : Hid (∀ j, j < k + 1 → l.getD j 0 = l.headD 0) := fun j hj => by
            rcases Nat.lt_or_ge j k with h3 | h3
            · exact HR.out j h3
            · obtain rfl : j = k := by omega
              rw [hxg, Hh.out, he]
          clear hx hxg HR he
          go_wp2
          go_quiet (fail)
          go_wp2
          go_roundw
          case rel => exact ⟨k + 1, _, by omega, by omega, by omega, by go_num, HT, by first | rfl | (rw [World.drewN_drewN])⟩
          case measure => simp [intOf]; omega
        · have hb : (x == h) = false := by simp [he]
          have HE : Hid (rowOf l = k) := rowOf_of hk2 (by have := Hl.out; omega) HR.out (.inr (.inr (by rw [hxg, Hh.out]; exact he)))
          clear hx hxg HR he
          go_wp2
          go_quiet (fail)
          go_wp2
          go_ret
          exact ⟨by rw [HE.out]; rfl, _, by first | rfl | (rw [World.drewN_drewN])⟩
      · have D2 : decide ((k : Int) < 256) = false := decide_eq_false (by omega)
        have HE : Hid (rowOf l = k) := rowOf_of hk2 (by have := Hl.out; omega) HR.out (.inl (by omega))
        clear HR
        go_wp2
        go_quiet (fail)
        go_wp2
        go_ret
        exact ⟨by rw [HE.out]; rfl, _, by first | rfl | (rw [World.drewN_drewN])⟩
    · obtain rfl : k = n := by omega
      have D1 : decide ((k : Int) < (k : Int)) = false := decide_eq_false (by omega)
      have HE : Hid (rowOf l = k) := rowOf_of hk2 (by have := Hl.out; omega) HR.out (.inr (.inl Hl.out.symm))
      clear HR
      go_wp2
      go_quiet (fail)
      go_wp2
      go_ret
      exact ⟨by rw [HE.out]; rfl, _, by first | rfl | (rw [World.drewN_drewN])⟩

/-- What a call leaves that writes, and answers nothing. -/
def RetW0 (w : World) (B b : Nat) (zs : List Int) (e : Ending) (w' : World) : Prop := e = .returned (.tuple #[]) ∧ Wr w' B b zs ∧ TurnedN w w' b

theorem wr_drewN {w : World} {b : Nat} (hlt : b < w.heap.size) (q : Nat) : TurnedN w (w.drewN q) b := .of_below (below_drewN (Below.refl _ _) q) hlt

set_option maxRecDepth 100000 in
set_option maxHeartbeats 2000000 in
theorem owflags_any (B b : Nat) (zs : List Int) (A : Option Addr) (n c : Nat) (l : List Int) (w : World) (h : Wr w B b zs) (hr : Row w A n (cellsOf .u8 l)) (hfar : ∀ g, blockOf A = some g → ¬ WrS w b g) (hc : n ≤ c) (hn : n ≤ 1000000) (hz : zs.length ≤ 1000000) (hin : ∀ f ∈ l, f ∈ flagsAll) :
    Calls Try.prog 51 #[.pointer (some ⟨b, 0, none⟩), .slice A n c] w (RetW0 w B b (zs ++ rle l)) := by
  have Hl := Lib.hid hr.len
  have Hin := Lib.hid hin
  have hrl := rle_len l
  have hzl : (zs ++ rle l).length ≤ 3000000 := by rw [List.length_append, Hl.out] at *; omega
  have Hzl := Lib.hid hzl
  have hN := TurnedN.of_below (Below.refl w.heap.size w) h.from_.2
  clear hin hrl hzl
  go_enter Try.func51, Try.ntmps51
  go_wp2
  go_loopw [1] (fun s wr => ∃ (A1 : Option Addr) (n1 c1 : Nat) (r X : List Int), s = .slice A1 n1 c1 ∧ n1 ≤ n ∧ n1 ≤ c1 ∧ Hid (X ++ rle r = rle l) ∧ Hid (∀ f ∈ r, f ∈ flagsAll) ∧ Wr wr B b (zs ++ X) ∧ TurnedN w wr b ∧ Row wr A1 n1 (cellsOf .u8 r) ∧ Hid (∀ g, blockOf A1 = some g → ¬ WrS wr b g)) (fun s _ => slLen s)
  case atStart => exact ⟨A, n, c, l, [], rfl, Nat.le_refl _, hc, Lib.hid rfl, Hin, by simpa using h, hN, hr, Lib.hid hfar⟩
  case round =>
    clear h hr hfar hN hc
    obtain ⟨A1, n1, c1, r, X, rfl, hn1, hc1, HX, Hin1, hw, hN, hr, Hfar⟩ := hrel
    have Hr1 := Lib.hid hr.len
    rcases Nat.eq_zero_or_pos n1 with h0 | h0
    · subst h0
      obtain rfl : r = [] := List.eq_nil_of_length_eq_zero Hr1.out
      have HX2 : Hid (X = rle l) := by have := HX.out; rw [rle_nil, List.append_nil] at this; exact this
      rw [HX2.out] at hw
      go_wp2
      go_end0
      exact ⟨rfl, hw, hN⟩
    · obtain ⟨x, hx⟩ := get_some (zs := r) (k := 0) (by have := Hr1.out; omega)
      obtain ⟨g, off, rfl, hg, hc0⟩ := hr.at (cellsOf_get (k := .u8) hx)
      rw [Nat.add_zero] at hc0
      have hhd : r.headD 0 = x := by rw [← getD_headD]; simp [hx]
      have hrne : r ≠ [] := by rintro rfl; simp at hx
      have hfin := Hin1.out x (List.mem_of_getElem? hx)
      obtain ⟨x0, x1⟩ := flagsAll_lt hfin
      have Hor := Lib.hid (flagsAll_or8 hfin)
      have hst := rle_step hrne
      have hk1 := rowOf_pos hrne
      obtain ⟨hk2, hk3⟩ := rowOf_le r
      rw [Hr1.out] at hk3
      have HRow : Hid (∀ m, Calls Try.prog 93 #[.slice (some ⟨g, off, none⟩) n1 c1] (wr.drewN m) (Quiet (wr.drewN m) (.int .i64 (rowOf r : Nat)))) := fun m => orow_any _ _ _ r _ (hr.drewN m) h0 (by omega)
      unfold rleHead at hst
      rw [hhd] at hst
      have HIn2 : Hid (∀ f ∈ r.drop (rowOf r), f ∈ flagsAll) := fun f hf => Hin1.out f (List.mem_of_mem_drop hf)
      generalize hkk : rowOf r = k at *
      have HX2 : Hid ((X ++ if k = 1 then [x] else [x + 8, (k : Int) - 1]) ++ rle (r.drop k) = rle l) := by show _ = _; rw [List.append_assoc, ← hst]; exact HX.out
      have hzX : (zs ++ (X ++ if k = 1 then [x] else [x + 8, (k : Int) - 1])).length ≤ 3000000 := by
        have h1 := Hzl.out
        have h2 := congrArg List.length HX2.out
        rw [List.length_append] at h1 h2 ⊢
        omega
      have hz0 : (zs ++ X).length ≤ 3000000 := by
        rw [List.length_append, List.length_append] at *
        omega
      have hdr : Row wr (some ⟨g, off + k, none⟩) (n1 - k) (cellsOf .u8 (r.drop k)) := by have := hr.drop k; rw [cellsOf_drop] at this; simpa [Addr.add_lit] using this
      have hdz : n1 = k → r.drop k = [] := fun h => List.drop_of_length_le (by rw [Hr1.out]; omega)
      have Hdz := Lib.hid hdz
      have hgl : g < wr.heap.size := hg
      have hgf : ¬ WrS wr b g := Hfar.out g rfl
      have HN := Lib.hid hN
      clear hst hkk hhd hrne hfin hx HX hdz Hin1 hN
      go_wp2
      go_quiet ((go_at_call 93; with_reducible exact Calls.quiet_of (HRow.out _)))
      have hw' := hw.drewN nq
      have hN' : TurnedN w (wr.drewN nq) b := HN.out.trans (wr_drewN hw.from_.2 nq)
      have hdr' := hdr.drewN nq
      have hgf' : ¬ WrS (wr.drewN nq) b g := hgf
      have hgl' : g < (wr.drewN nq).heap.size := hgl
      clear hw HN hdr hgf hgl hc0 hr HRow hg
      generalize wr.drewN nq = V at *
      by_cases h1 : k = 1
      · subst h1
        rw [if_pos rfl] at HX2 hzX
        have HW := Lib.hid (wu8N_any B b (zs ++ X) x V hw' (by omega))
        go_wp2_with fail
        with_reducible refine HW.out.mono ?_
        rintro e w2 ⟨rfl, hw2, hN2⟩
        rw [List.append_assoc] at hw2
        have hdr2 := hN2.row hdr' (fun q e => by simp [blockOf] at e; subst e; exact hgf')
        have hN3 := hN'.trans hN2
        have hgf2 := hN2.far hgl' hgf'
        clear hN' hN2 hdr' hw' HW hgf'
        by_cases hcap : c1 = 1
        · subst hcap
          obtain rfl : n1 = 1 := by omega
          have hd0 := Hdz.out rfl
          rw [hd0] at HX2
          go_wp2
          go_roundw
          case rel => exact ⟨_, 0, 0, [], _, rfl, by omega, by omega, HX2, Lib.hid (fun f hf => by cases hf), hw2, hN3, Row.empty _ _, Lib.hid (fun q e => by simp [blockOf] at e; subst e; exact hgf2)⟩
          case measure => simp [slLen]
        · go_wp2
          go_roundw
          case rel => exact ⟨_, n1 - 1, c1 - 1, r.drop 1, _, rfl, by omega, by omega, HX2, HIn2, hw2, hN3, hdr2, Lib.hid (fun q e => by simp [blockOf] at e; subst e; exact hgf2)⟩
          case measure => simp [slLen]; omega
      · rw [if_neg h1] at HX2 hzX
        have hor := Hor.out
        have HW := Lib.hid (wu8N_any B b (zs ++ X) (x + 8) V hw' (by omega))
        have hd1 : ((k : Int) == 1) = false := by simp; omega
        go_wp2_with fail
        with_reducible refine HW.out.mono ?_
        rintro e w2 ⟨rfl, hw2, hN2⟩
        have hdr2 := hN2.row hdr' (fun q e => by simp [blockOf] at e; subst e; exact hgf')
        have hN3 := hN'.trans hN2
        have hgf2 := hN2.far hgl' hgf'
        have hgl2 : g < w2.heap.size := Nat.lt_of_lt_of_le hgl' hN2.t.size
        have HW2 := Lib.hid (wu8N_any B b ((zs ++ X) ++ [x + 8]) ((k : Int) - 1) w2 hw2 (by rw [List.length_append]; simp only [List.length_cons, List.length_nil]; omega))
        clear hN' hN2 hdr' hw' HW hgf' hor hw2
        go_wp2_with fail
        with_reducible refine HW2.out.mono ?_
        rintro e w3 ⟨rfl, hw3, hN4⟩
        rw [List.append_assoc, List.append_assoc, List.cons_append, List.nil_append] at hw3
        have hdr3 := hN4.row hdr2 (fun q e => by simp [blockOf] at e; subst e; exact hgf2)
        have hN5 := hN3.trans hN4
        have hgf3 := hN4.far hgl2 hgf2
        clear hN3 hN4 hdr2 HW2 hgf2
        by_cases hcap : c1 = k
        · subst hcap
          obtain rfl : n1 = c1 := by omega
          have hd0 := Hdz.out rfl
          rw [hd0] at HX2
          go_wp2
          go_roundw
          case rel => exact ⟨_, 0, 0, [], _, rfl, by omega, by omega, HX2, Lib.hid (fun f hf => by cases hf), hw3, hN5, Row.empty _ _, Lib.hid (fun q e => by simp [blockOf] at e; subst e; exact hgf3)⟩
          case measure => simp [slLen]; omega
        · go_wp2
          go_roundw
          case rel => exact ⟨_, n1 - k, c1 - k, r.drop k, _, rfl, by omega, by omega, HX2, HIn2, hw3, hN5, hdr3, Lib.hid (fun q e => by simp [blockOf] at e; subst e; exact hgf3)⟩
          case measure => simp [slLen]; omega

set_option maxRecDepth 100000 in
set_option maxHeartbeats 2000000 in
theorem owchanges_any (B b : Nat) (zs : List Int) (A : Option Addr) (n c : Nat) (l : List Int) (w : World) (h : Wr w B b zs) (hr : Row w A n (cellsOf .i64 l)) (hfar : ∀ g, blockOf A = some g → ¬ WrS w b g) (hn : n ≤ 1000000) (hz : zs.length ≤ 3000000) (hin : ∀ d ∈ l, -32768 ≤ d ∧ d ≤ 32767) :
    Calls Try.prog 52 #[.pointer (some ⟨b, 0, none⟩), .slice A n c] w (RetW0 w B b (zs ++ cbs l)) := by
  have Hl := Lib.hid hr.len
  have Hin := Lib.hid hin
  have Hr := Lib.hid hr
  have Hfar := Lib.hid hfar
  have hN := TurnedN.of_below (Below.refl w.heap.size w) h.from_.2
  clear hin hr hfar
  go_enter Try.func52, Try.ntmps52
  go_wp2
  go_loopw [8] (fun i wr => ∃ k : Nat, k ≤ n ∧ i = .int .i64 k ∧ Wr wr B b (zs ++ cbs (l.take k)) ∧ TurnedN w wr b) (fun i _ => n - (intOf i).toNat)
  case atStart => exact ⟨0, Nat.zero_le _, rfl, by simpa [cbs] using h, hN⟩
  case round =>
    clear h hN
    obtain ⟨k, hk, rfl, hw, hN⟩ := hrel
    have hzl : (zs ++ cbs (l.take k)).length ≤ 6000000 := by
      have := cbs_len (l.take k)
      rw [List.length_append]
      rw [List.length_take] at this
      omega
    by_cases hlt : k < n
    · obtain ⟨d, hd⟩ := get_some (zs := l) (k := k) (by have := Hl.out; omega)
      obtain ⟨g, off, rfl, hg, hc⟩ := (hN.row Hr.out Hfar.out).at (cellsOf_get (k := .i64) hd)
      obtain ⟨d0, d1⟩ := Hin.out d (List.mem_of_getElem? hd)
      have HS := Lib.hid (cbs_snoc hd)
      have HSh := Lib.hid (oshort_any d wr)
      have HN := Lib.hid hN
      clear hd hN
      by_cases h0 : d = 0
      · subst h0
        rw [show cb 0 = [] from rfl, List.append_nil] at HS
        rw [← HS.out] at hw
        go_wp2
        go_roundw
        case rel => exact ⟨k + 1, by omega, by go_num, hw, HN.out⟩
        case measure => simp [intOf]; omega
      · have e0 : (d == 0) = false := by simp [h0]
        go_wp2_with fail
        with_reducible refine HSh.out.mono ?_
        rintro e w2 ⟨rfl, rfl⟩
        by_cases hs : -255 ≤ d ∧ d ≤ 255
        · have HV : Hid (cb d = [max d (-d)]) := by show _ = _; unfold cb; rw [if_neg h0, if_pos hs]
          have HB : Hid (shortB d = true) := by show _ = _; rw [shortB_eq, decide_eq_true hs]
          rw [HB.out]
          rw [HV.out] at HS
          obtain ⟨s0, s1⟩ := hs
          have HW := Lib.hid (wu8N_any B b (zs ++ cbs (l.take k)) (max d (-d)) wr hw (by omega))
          clear hw HSh HB HV
          rcases Int.lt_or_le 0 d with hp | hp
          · have hm : max d (-d) = d := by omega
            rw [hm] at HW HS
            clear hm
            go_wp2_with fail
            with_reducible refine HW.out.mono ?_
            rintro e w3 ⟨rfl, hw3, hN3⟩
            rw [List.append_assoc, ← HS.out] at hw3
            have hN4 := HN.out.trans hN3
            clear hN3 HW
            go_wp2
            go_roundw
            case rel => exact ⟨k + 1, by omega, by go_num, hw3, hN4⟩
            case measure => simp [intOf]; omega
          · have hm : max d (-d) = -d := by omega
            rw [hm] at HW HS
            clear hm
            go_wp2_with fail
            with_reducible refine HW.out.mono ?_
            rintro e w3 ⟨rfl, hw3, hN3⟩
            rw [List.append_assoc, ← HS.out] at hw3
            have hN4 := HN.out.trans hN3
            clear hN3 HW
            go_wp2
            go_roundw
            case rel => exact ⟨k + 1, by omega, by go_num, hw3, hN4⟩
            case measure => simp [intOf]; omega
        · have HV : Hid (cb d = b2 (d % 65536)) := by show _ = _; unfold cb; rw [if_neg h0, if_neg hs]
          have HB : Hid (shortB d = false) := by show _ = _; rw [shortB_eq, decide_eq_false hs]
          rw [HB.out]
          rw [HV.out] at HS
          have HW := Lib.hid (wi16N_any B b (zs ++ cbs (l.take k)) d wr hw (by omega))
          clear hw HSh HB HV hs
          go_wp2_with fail
          with_reducible refine HW.out.mono ?_
          rintro e w3 ⟨rfl, hw3, hN3⟩
          rw [List.append_assoc, ← HS.out] at hw3
          have hN4 := HN.out.trans hN3
          clear hN3 HW
          go_wp2
          go_roundw
          case rel => exact ⟨k + 1, by omega, by go_num, hw3, hN4⟩
          case measure => simp [intOf]; omega
    · have HE : Hid (l.take k = l) := List.take_of_length_le (by have := Hl.out; omega)
      rw [HE.out] at hw
      go_wp2
      go_end0
      exact ⟨rfl, hw, hN⟩

end Go.Proofs.Ytlcnonhebppeiaa

/- simple: Bytes, as a contract over this seat's translation. -/
namespace Go.Proofs.Ytlcnonhebppeiaa
open Go.RowKit
set_option linter.unusedVariables false

/-- A new Writer behind a struct that was boxed first, calls between. -/
theorem stB_lateO {w W : World} {cs : Array Value} {t : TypeId} (h8 : t ≠ 5) (hw : t ≠ 97) (hk : W.heap[w.heap.size]? = some (.cells cs t (0, 0))) (hb : Below w.heap.size w W) : StB w (W.alloc (.cells #[.slice none 0 0] 97)) W.heap.size [] w.heap.size cs t :=
  ⟨(wr_new W).mono hb.size, hb.alloc hb.size _, (Below.heap_alloc _ _ _ (lt_of_block hk)).trans hk, h8, hw⟩
theorem StB.turnedN {w wr w' : World} {b bt : Nat} {zs ys : List Int} {cs : Array Value} {t : TypeId} (h : StB w wr b zs bt cs t) (h1 : Wr w' w.heap.size b ys) (ht : TurnedN wr w' b) : StB w w' b ys bt cs t := h.turned h1 ht.t
theorem StB.older {w wr : World} {b bt : Nat} {zs : List Int} {cs : Array Value} {t : TypeId} (h : StB w wr b zs bt cs t) {A : Option Addr} {n : Nat} {xs : List Value} (hr : Row w A n xs) : Row wr A n xs := hr.below h.bel

def oBytes (g : Gl) : List Int := if oRight g then oB g else []

/-- A Writer, an outline in a block of its own, its changes, and its flags. -/
structure OF (w wr : World) (bw : Nat) (zs : List Int) (cs : Array Value) (XA : Option Addr) (sn xc : Nat) (cx : List Int) (YA : Option Addr) (yc : Nat) (cy : List Int) (gp : Nat) (fl : List Int) : Prop where
  st : StB w wr bw zs w.heap.size cs 29
  rx : Own 3 .i64 wr w.heap.size XA sn xc cx
  ry : Own 3 .i64 wr w.heap.size YA sn yc cy
  fl : OwnB wr w.heap.size (some ⟨gp, 0, none⟩) sn sn fl
  far : ¬ WrS wr bw gp
theorem OF.below {w wr w' : World} {bw : Nat} {zs : List Int} {cs : Array Value} {XA : Option Addr} {sn xc : Nat} {cx : List Int} {YA : Option Addr} {yc : Nat} {cy : List Int} {gp : Nat} {fl : List Int} (h : OF w wr bw zs cs XA sn xc cx YA yc cy gp fl) (hb : Below wr.heap.size wr w') : OF w w' bw zs cs XA sn xc cx YA yc cy gp fl :=
  ⟨h.st.below hb, h.rx.below hb, h.ry.below hb, h.fl.below hb, fun hh => h.far (wrs_below hb h.st.wr_.from_.2 hh)⟩
theorem OF.drew {w wr : World} {bw : Nat} {zs : List Int} {cs : Array Value} {XA : Option Addr} {sn xc : Nat} {cx : List Int} {YA : Option Addr} {yc : Nat} {cy : List Int} {gp : Nat} {fl : List Int} (h : OF w wr bw zs cs XA sn xc cx YA yc cy gp fl) : OF w wr.drew bw zs cs XA sn xc cx YA yc cy gp fl :=
  h.below (Below.refl _ _).drew
theorem own_ne {t t' : TypeId} {k k' : IntKind} {w : World} {B B' g n c n' c' : Nat} {A : Option Addr} {zs ys : List Int} (h : Own t k w B A n c zs) (h' : Own t' k' w B' (some ⟨g, 0, none⟩) n' c' ys) (ht : t ≠ t') : ∀ q, blockOf A = some q → q ≠ g := by
  intro q hq
  rintro rfl
  rcases h.shape with ⟨rfl, _⟩ | ⟨g', cur, rfl, _, _, hh, _⟩
  · simp [blockOf] at hq
  · simp [blockOf] at hq
    subst hq
    obtain ⟨cur', hc'⟩ := h'.block
    rw [hh] at hc'
    simp at hc'
    exact ht hc'.2
theorem OF.set {w wr : World} {bw : Nat} {zs : List Int} {cs : Array Value} {XA : Option Addr} {sn xc : Nat} {cx : List Int} {YA : Option Addr} {yc : Nat} {cy : List Int} {gp : Nat} {fl : List Int} (h : OF w wr bw zs cs XA sn xc cx YA yc cy gp fl) (k : Nat) (x : Int) : OF w (wr.setCell ⟨gp, k, none⟩ (.int .u8 x)) bw zs cs XA sn xc cx YA yc cy gp (fl.set k x) := by
  have hfar := h.far
  obtain ⟨cur, hcur⟩ := h.fl.block
  have hbt : w.heap.size ≠ gp := by
    intro e
    have := h.st.box
    rw [e, hcur] at this
    simp at this
  have hbw : bw ≠ gp := fun e => hfar (.inl e.symm)
  refine ⟨⟨h.st.wr_.keep (fun k hk => Below.heap_setCell wr _ _ _ (by rintro rfl; exact hfar hk)), h.st.bel.setCell (p := ⟨gp, k, none⟩) (h.fl.from_ gp rfl).1 _, (Below.heap_setCell wr _ _ _ hbt).trans h.st.box, h.st.n8, h.st.nw⟩,
    h.rx.keep (fun q e => Below.heap_setCell wr _ _ _ (own_ne h.rx h.fl (by decide) q e)), h.ry.keep (fun q e => Below.heap_setCell wr _ _ _ (own_ne h.ry h.fl (by decide) q e)), h.fl.set k x, ?_⟩
  rintro (e | ⟨A, n, c, hb, e⟩)
  · exact hbw e.symm
  · rw [Below.heap_setCell wr _ _ _ hbw] at hb
    exact hfar (.inr ⟨A, n, c, hb, e⟩)

theorem oRight_parts {g : Gl} (h : oRight g = true) : (g.es.length ≤ 32767 ∧ g.pr.length ≤ 65535 ∧ riseN g.es g.es.length = true ∧ g.ps.length = cntE g.es) ∧ (∀ d ∈ chs (xsOf g.ps), -32768 ≤ d ∧ d ≤ 32767) ∧ (∀ d ∈ chs (ysOf g.ps), -32768 ≤ d ∧ d ≤ 32767) := by
  unfold oRight fitL at h
  simp at h
  obtain ⟨⟨⟨⟨⟨h1, h2⟩, h3⟩, h4⟩, h5⟩, h6⟩ := h
  exact ⟨⟨h1, h2, h3, h4⟩, fun d hd => fitsB_true (h5 d hd), fun d hd => fitsB_true (h6 d hd)⟩

theorem obytes_no (v : GlV) (w : World) (hr : v.rows w) (hf : v.few) (ho : v.g.ok) (hn : oRight v.g = false) : Calls Try.prog 18 #[v.val] w (RetB w []) := by
  have hA := (Below.refl w.heap.size w).alloc (Nat.le_refl _) (.cells v.cells 29)
  have HR := Lib.hid (oright_any v _ (hr.below hA) hf ho)
  rw [hn] at HR
  clear hr hf ho hn
  unfold GlV.val at *
  unfold GlV.cells at *
  obtain ⟨⟨x0, x1, x2, x3, es, pr, ps⟩, EA, en, ec, PA, pn, pc, SA, sn, sc⟩ := v
  simp only at *
  go_enter Try.func18, Try.ntmps18
  go_wp2_with fail
  with_reducible refine HR.out.mono ?_
  rintro e w1 ⟨rfl, hb1⟩
  go_wp2
  go_ret
  exact ⟨none, 0, 0, rfl, Own.nil _ _ _ _, hA.trans (hb1.mono hA.size)⟩

set_option maxRecDepth 100000 in
set_option maxHeartbeats 8000000 in
theorem obytes_yes (v : GlV) (w : World) (hr : v.rows w) (hf : v.few) (ho : v.g.ok) (hn : oRight v.g = true) : Calls Try.prog 18 #[v.val] w (RetB w (oB v.g)) := by
  obtain ⟨i0, hi, hz0, hz1, hz2⟩ := info_parts Try.u8info
  have hA := (Below.refl w.heap.size w).alloc (Nat.le_refl _) (.cells v.cells 29)
  have hk := heap_alloc_new w (.cells v.cells 29)
  have HR := Lib.hid (oright_any v _ (hr.below hA) hf ho)
  rw [hn] at HR
  obtain ⟨_, hcx, hcy⟩ := oRight_parts hn
  have HCx := Lib.hid hcx
  have HCy := Lib.hid hcy
  obtain ⟨f0, f1, f2⟩ := hf
  have HE : Hid (v.g.es.length = v.en) := hr.es.len
  have HP : Hid (v.g.pr.length = v.pn) := hr.pr.len
  have HS : Hid (v.g.ps.length = v.sn) := hr.ps.len
  have Hre := Lib.hid hr.es
  have Hrp := Lib.hid hr.pr
  have Hrs := Lib.hid hr.ps
  have HX : Hid (∀ W, Below w.heap.size w W → Calls Try.prog 47 #[v.val, .func (.func 48) #[] #[]] W (RetN 3 .i64 W (chs (xsOf v.g.ps)))) := fun W hW => ochX v W (hr.below hW) (by omega) ho
  have HY : Hid (∀ W, Below w.heap.size w W → Calls Try.prog 47 #[v.val, .func (.func 49) #[] #[]] W (RetN 3 .i64 W (chs (ysOf v.g.ps)))) := fun W hW => ochY v W (hr.below hW) (by omega) ho
  have HXl : Hid ((chs (xsOf v.g.ps)).length = v.sn) := by show _ = _; rw [chs_len, xsOf_len, HS.out]
  have HYl : Hid ((chs (ysOf v.g.ps)).length = v.sn) := by show _ = _; rw [chs_len, ysOf_len, HS.out]
  have HEs := Lib.hid ho.es
  have HOk := Lib.hid ho
  have HB : Hid (oB v.g = ((((((b2 v.g.es.length ++ boxB v.g.box) ++ endB v.g.es) ++ b2 v.g.pr.length) ++ v.g.pr) ++ rle (fls v.g.ps)) ++ cbs (chs (xsOf v.g.ps))) ++ cbs (chs (ysOf v.g.ps))) := rfl
  have Hbx : Hid (v.g.box = [v.g.x0, v.g.x1, v.g.x2, v.g.x3]) := rfl
  clear ho hr hcx hcy hn
  unfold GlV.val at *
  unfold GlV.cells at *
  obtain ⟨⟨x0, x1, x2, x3, es, pr, ps⟩, EA, en, ec, PA, pn, pc, SA, sn, sc⟩ := v
  simp only at *
  rw [HB.out, HE.out, HP.out]
  rw [show Gl.box ⟨x0, x1, x2, x3, es, pr, ps⟩ = [x0, x1, x2, x3] from rfl]
  clear HB Hbx
  go_enter Try.func18, Try.ntmps18
  go_wp2_with fail
  generalize w.alloc _ = V at *
  with_reducible refine HR.out.mono ?_
  rintro e w1 ⟨rfl, hb1⟩
  have hk1 := kept_block hk hb1
  have hB1 := hA.trans (hb1.mono hA.size)
  have hs := stB_lateO (by decide) (by decide) hk1 hB1
  clear hk hA hb1 hk1 hB1 HR
  have c4 := hs.cell 4 _ rfl
  have e4 : (en : Int) % 65536 = (en : Int) := by omega
  have HW := Lib.hid (wi16N_any _ _ [] (en : Int) _ hs.wr_ (by simp))
  rw [e4] at HW
  clear e4
  go_wp2_with fail
  generalize w1.heap.size = bw at *
  with_reducible refine HW.out.mono ?_
  rintro e w2 ⟨rfl, h2, t2⟩
  rw [List.nil_append] at h2
  replace hs := hs.turnedN h2 t2
  clear h2 t2 HW c4
  have c0 := hs.cell 0 _ rfl
  have c1 := hs.cell 1 _ rfl
  have c2 := hs.cell 2 _ rfl
  have c3 := hs.cell 3 _ rfl
  go_wp2
  clear c0 c1 c2 c3
  go_loopw [23] (fun i wr => ∃ k : Nat, k ≤ 4 ∧ i = .int .i64 k ∧ StB w wr bw (b2 en ++ boxB ([x0, x1, x2, x3].take k)) w.heap.size #[.int .i16 x0, .int .i16 x1, .int .i16 x2, .int .i16 x3, .slice EA en ec, .slice PA pn pc, .slice SA sn sc] 29) (fun i _ => 4 - (intOf i).toNat)
  case atStart => exact ⟨0, Nat.zero_le _, rfl, by simpa [boxB] using hs⟩
  case round =>
    clear hs
    obtain ⟨k, hk, rfl, hs⟩ := hrel
    by_cases hlt : k < 4
    · have hlen : (b2 en ++ boxB ([x0, x1, x2, x3].take k)).length ≤ 100 := by
        rw [List.length_append, boxB_len, List.length_take]
        simp [b2]
        omega
      obtain ⟨x, hx⟩ := get_some (zs := [x0, x1, x2, x3]) (k := k) hlt
      have HS2 := Lib.hid (boxB_snoc hx)
      have hix := run_index_arr (P := Try.prog) wr 23 22 4 #[.int .i16 x0, .int .i16 x1, .int .i16 x2, .int .i16 x3] k (.int .i16 x) Try.underlying23 (by simp [go_sem]) (by simp [go_sem]) hlt (by
        have h := cellsOf_get (k := .i16) hx
        simpa [cellsOf] using h)
      have HW := Lib.hid (wi16N_any _ bw _ x _ hs.wr_ (by omega))
      clear hx hlen
      go_wp2_with fail
      with_reducible refine HW.out.mono ?_
      rintro e w4 ⟨rfl, h4, t4⟩
      have hs4 := hs.turnedN h4 t4
      rw [List.append_assoc, ← HS2.out] at hs4
      clear t4 h4 hs hix HW
      go_wp2
      go_roundw
      case rel => exact ⟨k + 1, by omega, by go_num, hs4⟩
      case measure => simp [intOf]; omega
    · rw [show [x0, x1, x2, x3].take k = [x0, x1, x2, x3] from List.take_of_length_le (by simp; omega)] at hs
      have hlen : (b2 en ++ boxB [x0, x1, x2, x3]).length = 10 := by simp [b2, boxB]
      generalize b2 en ++ boxB [x0, x1, x2, x3] = Z1 at *
      have Hlen := Lib.hid hlen
      clear hlen
      have c4 := hs.cell 4 _ rfl
      go_wp2
      clear c4 hlt hk
      go_loopw [32] (fun i wr => ∃ k : Nat, k ≤ en ∧ i = .int .i64 k ∧ StB w wr bw (Z1 ++ endB (es.take k)) w.heap.size #[.int .i16 x0, .int .i16 x1, .int .i16 x2, .int .i16 x3, .slice EA en ec, .slice PA pn pc, .slice SA sn sc] 29) (fun i _ => en - (intOf i).toNat)
      case atStart => exact ⟨0, Nat.zero_le _, rfl, by simpa [endB] using hs⟩
      case round =>
        clear hs
        obtain ⟨k, hk, rfl, hs⟩ := hrel
        have hlen : (Z1 ++ endB (es.take k)).length ≤ 100000 := by
          rw [List.length_append, endB_len, List.length_take, Hlen.out]
          omega
        by_cases hlt : k < en
        · obtain ⟨x, hx⟩ := get_some (zs := es) (k := k) (by have := HE.out; omega)
          obtain ⟨g, off, rfl, hg, hc⟩ := (hs.older Hre.out).at (cellsOf_get (k := .u16) hx)
          have HS2 := Lib.hid (endB_snoc hx)
          obtain ⟨u0, u1⟩ := HEs.out x (List.mem_of_getElem? hx)
          have HW := Lib.hid (wu16N_any _ bw _ x _ hs.wr_ (by omega) u0 u1)
          clear hx hlen
          go_wp2_with fail
          with_reducible refine HW.out.mono ?_
          rintro e w4 ⟨rfl, h4, t4⟩
          have hs4 := hs.turnedN h4 t4
          rw [List.append_assoc, ← HS2.out] at hs4
          clear t4 h4 hs hc HW
          go_wp2
          go_roundw
          case rel => exact ⟨k + 1, by omega, by go_num, hs4⟩
          case measure => simp [intOf]; omega
        · rw [show es.take k = es from List.take_of_length_le (by have := HE.out; omega)] at hs hlen
          generalize Z1 ++ endB es = Z2 at *
          have Hlen2 := Lib.hid hlen
          clear hlen Hlen
          replace hs := hs.drew
          have hpv := hs.older Hrp.out
          have hpw : IntKind.u16.wrap (pn : Int) = (pn : Int) := by rw [IntKind.wrap_u16]; omega
          go_upto_region 15 with fail
          go_region_held3 (fun w' => w'.cell? ⟨w.heap.size, 5, none⟩ = some (.slice PA pn pc))
            (first | exact hs.cell 5 _ rfl)
            (first
              | (go_at_call 45; refine (wu16N_any _ bw _ (pn : Int) _ hs.wr_ (by have := Hlen2.out; omega) (by omega) (by omega)).mono ?_; rintro e w5 ⟨rfl, h5, t5⟩; replace hs := hs.turnedN h5 t5; clear h5 t5)
              | (go_at_call 46; refine (wput_any _ bw _ _ _ _ pr _ hs.wr_ (hs.older Hrp.out) (by have := Hlen2.out; rw [List.length_append]; simp [b2]; omega)).mono ?_; rintro e w5 ⟨rfl, h5, t5⟩; replace hs := hs.turned h5 t5; clear h5 t5))
          clear hpv hpw
          have hZ3 : (Z2 ++ b2 (pn : Int) ++ pr).length ≤ 200000 := by
            have := Hlen2.out
            rw [List.length_append, List.length_append, HP.out]
            simp [b2]
            omega
          generalize Z2 ++ b2 (pn : Int) ++ pr = Z3 at *
          have Hlen3 := Lib.hid hZ3
          clear hZ3 Hlen2
          replace hs := hs.drew
          go_upto_region 16 with fail
          go_region_held3 (fun w' => w'.cell? ⟨w.heap.size, 0, none⟩ = some (.int .i16 x0) ∧ w'.cell? ⟨w.heap.size, 1, none⟩ = some (.int .i16 x1) ∧ w'.cell? ⟨w.heap.size, 2, none⟩ = some (.int .i16 x2) ∧ w'.cell? ⟨w.heap.size, 3, none⟩ = some (.int .i16 x3) ∧ w'.cell? ⟨w.heap.size, 4, none⟩ = some (.slice EA en ec) ∧ w'.cell? ⟨w.heap.size, 5, none⟩ = some (.slice PA pn pc) ∧ w'.cell? ⟨w.heap.size, 6, none⟩ = some (.slice SA sn sc))
            (first | exact cells7 hs.box)
            (first
              | ((go_at_call 47; (with_reducible refine (HX.out _ hs.bel).mono ?_); rintro e w6 ⟨XA, xn, xc, rfl, hox, hb6⟩; replace hox := hox.mono hs.bel.size; replace hs := hs.below hb6; clear hb6))
              | ((go_at_call 47; (with_reducible refine (HY.out _ hs.bel).mono ?_); rintro e w7 ⟨YA, yn, yc, rfl, hoy, hb7⟩; replace hoy := hoy.mono hs.bel.size; replace hox := hox.below hb7; replace hs := hs.below hb7; clear hb7)))
          obtain rfl : sn = xn := by have := hox.len; rw [HXl.out] at this; exact this
          obtain rfl : sn = yn := by have := hoy.len; rw [HYl.out] at this; exact this
          have c6 := hs.cell 6 _ rfl
          go_wp2_with (at_make; refine wpList_make_ints rfl (.tmp 53) (.tmp 53) _ rfl 5 .u8 w.heap.size i0 1 Try.underlying25 hi hz0 hz1 hz2 _ _ sn sn rfl rfl (by omega) (by omega) (Nat.le_refl _) (by omega) (by omega) hs.bel.size ?_; intro w8 hown8 hg8; have hb8 := below_of_grown hg8 (Nat.le_refl _) (fun k e => by cases e); have c6' := (hs.below hb8).cell 6 _ rfl)
          have hof : OF w w8 bw Z3 #[.int .i16 x0, .int .i16 x1, .int .i16 x2, .int .i16 x3, .slice EA en ec, .slice PA pn pc, .slice SA sn sc] XA sn xc (chs (xsOf ps)) YA yc (chs (ysOf ps)) w7.heap.size (flK ps 0 ++ List.replicate (sn - 0) 0) :=
            ⟨hs.below hb8, hox.below hb8, hoy.below hb8, hown8, fun hh => by have := (hs.wr_.owns _ (wrs_below hb8 hs.wr_.from_.2 hh)).2; omega⟩
          clear hs hox hoy hown8 hg8 hb8 c6' c6 hi hz0 hz1 hz2 hlt hk
          generalize w7.heap.size = gp at *
          go_loopw [58] (fun i wr => ∃ k : Nat, k ≤ sn ∧ i = .int .i64 k ∧ OF w wr bw Z3 #[.int .i16 x0, .int .i16 x1, .int .i16 x2, .int .i16 x3, .slice EA en ec, .slice PA pn pc, .slice SA sn sc] XA sn xc (chs (xsOf ps)) YA yc (chs (ysOf ps)) gp (flK ps k ++ List.replicate (sn - k) 0)) (fun i _ => sn - (intOf i).toNat)
          case atStart => exact ⟨0, Nat.zero_le _, rfl, hof⟩
          case round =>
            clear hof
            obtain ⟨k, hk, rfl, hs⟩ := hrel
            by_cases hlt : k < sn
            · obtain ⟨p, hp⟩ : ∃ p, ps[k]? = some p := ⟨ps[k]'(by have := HS.out; omega), List.getElem?_eq_getElem (by have := HS.out; omega)⟩
              have hcx := chs_get (xsOf ps) (i := k) (by rw [xsOf_len, HS.out]; exact hlt)
              have hcy := chs_get (ysOf ps) (i := k) (by rw [ysOf_len, HS.out]; exact hlt)
              have hfa : flA ps k = bitsV (chA (xsOf ps) k) 2 16 + bitsV (chA (ysOf ps) k) 4 32 + (if p.2.2 then 1 else 0) := by
                unfold flA flagOf
                rw [List.getD_eq_getElem?_getD, hp]
                rfl
              have HST := Lib.hid (flK_set ps k sn hlt)
              have HFA := Lib.hid hfa
              obtain ⟨z, hz⟩ : ∃ z, (flK ps k ++ List.replicate (sn - k) 0)[k]? = some z := ⟨_, List.getElem?_eq_getElem (by simp [flK_len]; omega)⟩
              obtain ⟨g, off, rfl, hg, q0, q1, q2⟩ := atSp (Hrs.out.below hs.st.bel) hp
              obtain ⟨px, py, po⟩ := p
              simp only at q0 q1 q2 HFA
              have hA2 := (Below.refl wr.heap.size wr).alloc (Nat.le_refl _) (.cells #[.int .i16 px, .int .i16 py, .bool po] 60)
              have hs2 := (hs.below hA2).drew
              have hk2 : (wr.alloc (.cells #[.int .i16 px, .int .i16 py, .bool po] 60)).drew.heap[wr.heap.size]? = some (.cells #[.int .i16 px, .int .i16 py, .bool po] 60 (0, 0)) := heap_alloc_new wr _
              obtain ⟨gx, ox, eXA, _, hqx⟩ := hs2.rx.row.at (cellsOf_get (k := .i64) hcx)
              obtain ⟨gy, oy, eYA, _, hqy⟩ := hs2.ry.row.at (cellsOf_get (k := .i64) hcy)
              obtain ⟨gf, of, eFA, _, hqf⟩ := hs2.fl.row.at (cellsOf_get (k := .u8) hz)
              simp only [Option.some.injEq, Addr.mk.injEq, and_true] at eFA
              obtain ⟨rfl, rfl⟩ := eFA
              rw [Nat.zero_add] at hqf
              subst eXA eYA
              have f0 := hs2.fl.thaw k
              have hgn : g ≠ wr.heap.size := by omega
              have hgp1 : gp ≠ wr.heap.size := by have := (hs.fl.from_ gp rfl).2; omega
              have hgp2 : wr.heap.size ≠ gp := fun e => hgp1 e.symm
              have hbo := bits_or (chA (xsOf ps) k) (chA (ysOf ps) k)
              have hbo1 := bits_or1 (chA (xsOf ps) k) (chA (ysOf ps) k)
              obtain ⟨b0, b1, b2, b3, b4, b5⟩ := bitsV_lt (chA (xsOf ps) k) (chA (ysOf ps) k)
              have HBx : Hid (∀ W, Calls Try.prog 50 #[.int .i64 (chA (xsOf ps) k), .int .u8 2, .int .u8 16] W fun e w' => e = .returned (.int .u8 (bitsV (chA (xsOf ps) k) 2 16)) ∧ w' = W) := fun W => (obits_any _ _ _ W (by decide +kernel)).mono fun e w' ⟨h1, h2⟩ => ⟨h1, h2.symm⟩
              have HBy : Hid (∀ W, Calls Try.prog 50 #[.int .i64 (chA (ysOf ps) k), .int .u8 4, .int .u8 32] W fun e w' => e = .returned (.int .u8 (bitsV (chA (ysOf ps) k) 4 32)) ∧ w' = W) := fun W => (obits_any _ _ _ W (by decide +kernel)).mono fun e w' ⟨h1, h2⟩ => ⟨h1, h2.symm⟩
              clear hs hp hcx hcy hfa hz hA2
              generalize chA (xsOf ps) k = dx at *
              generalize chA (ysOf ps) k = dy at *
              generalize bitsV dx 2 16 = fx at *
              generalize bitsV dy 4 32 = fy at *
              go_upto_region 21 with fail
              generalize (wr.alloc (.cells #[.int .i16 px, .int .i16 py, .bool po] 60)) = U at *
              have x2 : U.cell? ⟨wr.heap.size, 2, none⟩ = some (.bool po) := cell_of_row _ _ 2 _ _ _ hk2
              have hqf' : U.cell? ⟨gp, k, none⟩ = some (.int .u8 z) := hqf
              have f0' : U.frozen? ⟨gp, k, none⟩ = false := f0
              have HS3 := Lib.hid (hs2.set k (fx + fy))
              clear hs2 hk2 q0 q1 q2
              refine wp_region_still_tail 14 (by kernel_rfl) (by kernel_rfl) ?_
              simp only [List.take_succ_cons, List.take_zero, List.drop_succ_cons, List.drop_zero]
              repeat still_step
              still_call (HBx.out _)
              repeat still_step
              still_call (HBy.out _)
              repeat still_step
              refine wpStill_nil ?_
              cases po
              · have hs4 := HS3.out
                have hst2 := HST.out
                rw [show flA ps k = fx + fy by rw [HFA.out]; simp] at hst2
                rw [hst2] at hs4
                have H4 := Lib.hid hs4
                clear hs4 HS3 hst2
                go_wp2
                go_roundw
                case rel => exact ⟨k + 1, by omega, by go_num, H4.out⟩
                case measure => simp [intOf]; omega
              · have hs4 := HS3.out.set k (fx + fy + 1)
                have hst2 := HST.out
                rw [show flA ps k = fx + fy + 1 by rw [HFA.out]; simp] at hst2
                rw [List.set_set, hst2] at hs4
                have H4 := Lib.hid hs4
                clear hs4 HS3 hst2
                go_wp2
                go_roundw
                case rel => exact ⟨k + 1, by omega, by go_num, H4.out⟩
                case measure => simp [intOf]; omega
            · have hE : flK ps k ++ List.replicate (sn - k) 0 = fls ps := by
                have := HS.out
                unfold fls
                rw [show k = ps.length by omega, show sn - ps.length = 0 by omega]
                simp
              rw [hE] at hs
              have hzl := Hlen3.out
              have hfl : (fls ps).length = sn := by unfold fls; rw [flK_len]; exact HS.out
              have hW := Lib.hid (owflags_any w.heap.size bw Z3 (some ⟨gp, 0, none⟩) sn sn (fls ps) wr hs.st.wr_ hs.fl.row (fun q e => by simp [blockOf] at e; subst e; exact hs.far) (Nat.le_refl _) (by omega) (by omega) (fls_in ps))
              have hrl := rle_len (fls ps)
              clear hE
              go_wp2_with fail
              with_reducible refine hW.out.mono ?_
              rintro e w10 ⟨rfl, h10, t10⟩
              have hs10 := hs.st.turnedN h10 t10
              have fx1 : ∀ q, blockOf XA = some q → ¬ WrS wr bw q := fun q e hh => by
                rcases hs.rx.shape with ⟨rfl, _⟩ | ⟨g', cur, rfl, _, _, hh', _⟩
                · simp [blockOf] at e
                · simp [blockOf] at e
                  subst e
                  exact hs.st.wr_.apart hh' (by decide) (by decide) hh
              have fy1 : ∀ q, blockOf YA = some q → ¬ WrS wr bw q := fun q e hh => by
                rcases hs.ry.shape with ⟨rfl, _⟩ | ⟨g', cur, rfl, _, _, hh', _⟩
                · simp [blockOf] at e
                · simp [blockOf] at e
                  subst e
                  exact hs.st.wr_.apart hh' (by decide) (by decide) hh
              have rx1 := t10.row hs.rx.row fx1
              have ry1 := t10.row hs.ry.row fy1
              have fx2 : ∀ q, blockOf XA = some q → ¬ WrS w10 bw q := fun q e => t10.far (hs.rx.from_ q e).2 (fx1 q e)
              have fy2 : ∀ q, blockOf YA = some q → q < w10.heap.size ∧ ¬ WrS w10 bw q := fun q e => ⟨Nat.lt_of_lt_of_le (hs.ry.from_ q e).2 t10.t.size, t10.far (hs.ry.from_ q e).2 (fy1 q e)⟩
              have hz10 : (Z3 ++ rle (fls ps)).length ≤ 300000 := by rw [List.length_append]; omega
              have hW2 := Lib.hid (owchanges_any w.heap.size bw _ XA sn xc (chs (xsOf ps)) w10 hs10.wr_ rx1 fx2 (by omega) (by omega) HCx.out)
              have Hry1 := Lib.hid ry1
              have Hfy2 := Lib.hid fy2
              clear hs h10 t10 fx1 fy1 rx1 fx2 ry1 fy2 hW
              go_wp2_with fail
              with_reducible refine hW2.out.mono ?_
              rintro e w11 ⟨rfl, h11, t11⟩
              have hs11 := hs10.turnedN h11 t11
              have ry2 := t11.row Hry1.out (fun q e => (Hfy2.out q e).2)
              have fy3 : ∀ q, blockOf YA = some q → ¬ WrS w11 bw q := fun q e => t11.far (Hfy2.out q e).1 (Hfy2.out q e).2
              have hxl := cbs_len (chs (xsOf ps))
              have hyl := cbs_len (chs (ysOf ps))
              rw [HXl.out] at hxl
              rw [HYl.out] at hyl
              have hz11 : (Z3 ++ rle (fls ps) ++ cbs (chs (xsOf ps))).length ≤ 400000 := by rw [List.length_append]; omega
              have hW3 := Lib.hid (owchanges_any w.heap.size bw _ YA sn yc (chs (ysOf ps)) w11 hs11.wr_ ry2 fy3 (by omega) (by omega) HCy.out)
              clear h11 t11 hs10 ry2 fy3 hW2 Hry1 Hfy2
              go_wp2_with fail
              with_reducible refine hW3.out.mono ?_
              rintro e w12 ⟨rfl, h12, t12⟩
              have hs12 := hs11.turnedN h12 t12
              have hW4 := Lib.hid (done_any w.heap.size bw _ w12 hs12.wr_ (by rw [List.length_append]; omega))
              clear h12 t12 hs11 hW3
              go_wp2_with fail
              with_reducible refine hW4.out.mono ?_
              rintro e w13 ⟨A13, n13, c13, rfl, ho13, hb13⟩
              have hbf := hs12.bel.trans (hb13.mono hs12.bel.size)
              have hof := ho13.mono hs12.bel.size
              clear hs12 ho13 hb13 hW4
              go_wp2
              go_ret
              exact ⟨A13, n13, c13, rfl, hof, hbf⟩

theorem obytes_any (v : GlV) (w : World) (hr : v.rows w) (hf : v.few) (ho : v.g.ok) : Calls Try.prog 18 #[v.val] w (RetB w (oBytes v.g)) := by
  unfold oBytes
  cases h : oRight v.g with
  | false => rw [if_neg (by decide)]; exact obytes_no v w hr hf ho h
  | true => rw [if_pos rfl]; exact obytes_yes v w hr hf ho h

end Go.Proofs.Ytlcnonhebppeiaa

/- A Reader that was asked for i bytes of zs altogether, whether they were there or not. -/
namespace Go.Proofs.Ytlcnonhebppeiaa
open Go.RowKit
set_option linter.unusedVariables false

def RdQ (w : World) (B b : Nat) (zs : List Int) (i : Nat) : Prop :=
  (i ≤ zs.length ∧ Rd w B b (zs.drop i) i false) ∨ (zs.length < i ∧ ∃ a : Int, 0 ≤ a ∧ a ≤ zs.length ∧ Rd w B b [] a true)

section
variable {w w' : World} {B b : Nat} {zs : List Int} {i : Nat}

theorem RdQ.new (h : Rd w B b zs 0 false) : RdQ w B b zs 0 := .inl ⟨Nat.zero_le _, h⟩
theorem RdQ.below (h : RdQ w B b zs i) (hb : Below w.heap.size w w') : RdQ w' B b zs i := by
  rcases h with ⟨hi, h⟩ | ⟨hi, a, a0, a1, h⟩
  · exact .inl ⟨hi, h.below hb⟩
  · exact .inr ⟨hi, a, a0, a1, h.below hb⟩
theorem RdQ.keep (h : RdQ w B b zs i) (hs : w.heap.size ≤ w'.heap.size) (hk : ∀ g, g < w.heap.size → B ≤ g → (g = b ∨ ∃ cur, w.heap[g]? = some (.cells cur 5 (0, 0))) → w'.heap[g]? = w.heap[g]?) : RdQ w' B b zs i := by
  rcases h with ⟨hi, h⟩ | ⟨hi, a, a0, a1, h⟩
  · exact .inl ⟨hi, h.keep hs hk⟩
  · exact .inr ⟨hi, a, a0, a1, h.keep hs hk⟩
theorem RdQ.drewN (h : RdQ w B b zs i) (q : Nat) : RdQ (w.drewN q) B b zs i := h
theorem RdQ.drew (h : RdQ w B b zs i) : RdQ w.drew B b zs i := h
theorem RdQ.lt (h : RdQ w B b zs i) : b < w.heap.size := by
  rcases h with ⟨_, h⟩ | ⟨_, a, _, _, h⟩ <;> exact h.lt
theorem RdQ.from_ (h : RdQ w B b zs i) : B ≤ b := by
  rcases h with ⟨_, h⟩ | ⟨_, a, _, _, h⟩ <;> exact h.from_
theorem RdQ.block (h : RdQ w B b zs i) : RdBlock w b := by
  rcases h with ⟨_, h⟩ | ⟨_, a, _, _, h⟩ <;> exact h.block

theorem rdq_good {m : Nat} (hi : i ≤ zs.length) (hr : Rd w' B b (rest (zs.drop i) m) (gone (zs.drop i) i m) (badn (zs.drop i) false m)) : RdQ w' B b zs (i + m) := by
  by_cases h : i + m ≤ zs.length
  · rw [rest_at zs i m h, gone_at zs i i m h, badn_at zs false i m h] at hr
    exact .inl ⟨h, by simpa using hr⟩
  · have hn : ¬ m ≤ (zs.drop i).length := by rw [List.length_drop]; omega
    unfold rest gone badn at hr
    rw [if_neg hn, if_neg hn, if_neg hn] at hr
    exact .inr ⟨by omega, i, by omega, by omega, hr⟩

theorem rdq_bad {m : Nat} {a : Int} (hm : 0 < m) (hi : zs.length < i) (a0 : 0 ≤ a) (a1 : a ≤ zs.length) (hr : Rd w' B b (rest [] m) (gone [] a m) (badn [] true m)) : RdQ w' B b zs (i + m) := by
  have hn : ¬ m ≤ ([] : List Int).length := by simp; omega
  unfold rest gone badn at hr
  rw [if_neg hn, if_neg hn, if_neg hn] at hr
  exact .inr ⟨by omega, a, a0, a1, hr⟩
theorem drop_past (h : zs.length < i) : zs.drop i = [] := List.drop_of_length_le (by omega)

/-- What asking leaves. -/
def RetQ (w : World) (B b : Nat) (v : Value) (zs : List Int) (i : Nat) (e : Ending) (w' : World) : Prop := e = .returned v ∧ RdQ w' B b zs i ∧ w.grownBy w' (some b)

theorem rdq_u16 (h : RdQ w B b zs i) (hB : Bytes zs) (hl : zs.length ≤ 140737488351232) : Calls Try.prog 82 #[.pointer (some ⟨b, 0, none⟩)] w (RetQ w B b (.int .u16 (n2at zs i)) zs (i + 2)) := by
  rcases h with ⟨hi, h⟩ | ⟨hi, a, a0, a1, h⟩
  · exact (u16_any B b _ _ _ w h (drop_bytes hB _) (by rw [List.length_drop]; omega) (by omega) (by omega)).mono fun e w' ⟨he, hr, hg⟩ => ⟨he, rdq_good hi hr, hg⟩
  · refine (u16_any B b _ _ _ w h (fun x hx => by cases hx) (by simp) a0 (by omega)).mono fun e w' ⟨he, hr, hg⟩ => ⟨?_, rdq_bad (by omega) hi a0 a1 hr, hg⟩
    unfold n2at
    rw [drop_past hi]
    exact he

theorem rdq_i16 (h : RdQ w B b zs i) (hB : Bytes zs) (hl : zs.length ≤ 140737488351232) : Calls Try.prog 90 #[.pointer (some ⟨b, 0, none⟩)] w (RetQ w B b (.int .i16 (sgn (n2at zs i))) zs (i + 2)) := by
  rcases h with ⟨hi, h⟩ | ⟨hi, a, a0, a1, h⟩
  · exact (i16_any B b _ _ _ w h (drop_bytes hB _) (by rw [List.length_drop]; omega) (by omega) (by omega)).mono fun e w' ⟨he, hr, hg⟩ => ⟨he, rdq_good hi hr, hg⟩
  · refine (i16_any B b _ _ _ w h (fun x hx => by cases hx) (by simp) a0 (by omega)).mono fun e w' ⟨he, hr, hg⟩ => ⟨?_, rdq_bad (by omega) hi a0 a1 hr, hg⟩
    unfold n2at
    rw [drop_past hi]
    exact he

/-- What taking bytes leaves: they lie in the Reader's own memory. -/
def RetQT (w : World) (B b : Nat) (ys zs : List Int) (i : Nat) (e : Ending) (w' : World) : Prop :=
  ∃ A m c, e = .returned (.slice A m c) ∧ Row w' A m (cellsOf .u8 ys) ∧ (∀ g, blockOf A = some g → B ≤ g ∧ ∃ cur, w'.heap[g]? = some (.cells cur 5 (0, 0))) ∧ RdQ w' B b zs i ∧ w.grownBy w' (some b)

theorem rdq_take (h : RdQ w B b zs i) (hl : zs.length ≤ 140737488351232) (m : Nat) (hm : 0 < m) : Calls Try.prog 96 #[.pointer (some ⟨b, 0, none⟩), .int .i64 m] w (RetQT w B b (told (zs.drop i) m) zs (i + m)) := by
  rcases h with ⟨hi, h⟩ | ⟨hi, a, a0, a1, h⟩
  · exact (take_any B b _ _ _ w h (by rw [List.length_drop]; omega) (by omega) (by omega) m).mono fun e w' ⟨A, n, c, he, h1, h2, hr, hg⟩ => ⟨A, n, c, he, h1, h2, rdq_good hi hr, hg⟩
  · refine (take_any B b _ _ _ w h (by simp) a0 (by omega) m).mono fun e w' ⟨A, n, c, he, h1, h2, hr, hg⟩ => ⟨A, n, c, he, ?_, h2, rdq_bad hm hi a0 a1 hr, hg⟩
    rw [drop_past hi]
    exact h1

theorem rdq_badB (h : RdQ w B b zs i) : Calls Try.prog 63 #[.pointer (some ⟨b, 0, none⟩)] w fun e w' => e = .returned (.bool (decide (zs.length < i))) ∧ w = w' := by
  rcases h with ⟨hi, h⟩ | ⟨hi, a, a0, a1, h⟩
  · rw [decide_eq_false (by omega)]
    exact bad_any B b _ _ _ w h
  · rw [decide_eq_true hi]
    exact bad_any B b _ _ _ w h

end

end Go.Proofs.Ytlcnonhebppeiaa

/- Two results, one of them a struct in memory; a Reader beside another block. -/
namespace Go.Proofs.Ytlcnonhebppeiaa
open Go.RowKit
set_option linter.unusedVariables false

/-- Two results: a struct in memory, and a plain value. -/
theorem results_two2 {P : Program} {fn : Func} {p q : Tmp} {ty : TypeId} (h : fn.results = #[.cell p ty, .tmp q]) (tmps : Array Value) (w : World) (g : Nat) (t : TypeId) (cs : Array Value) (fr : Nat × Nat) (d : TypeDesc) {v : Value}
    (hp : tmps.getD p undef = .pointer (some ⟨g, 0, none⟩)) (hq : tmps.getD q undef = v) (hg : w.heap[g]? = some (.cells cs t fr))
    (hu : P.underlying ty = some d) (hd : (match d with | .struct _ | .array _ _ => true | _ => false) = true) (hi : (P.info? ty).map (·.size) = some cs.size) :
    (results fn tmps).run P w = .ok (.tuple #[.agg cs, v]) w := by
  have hp' : tmps[p]?.getD undef = .pointer (some ⟨g, 0, none⟩) := by simpa using hp
  have hq' : tmps[q]?.getD undef = v := by simpa using hq
  simp [results, h, hp', hq', asAddr, run_loadVar_row w g t ty cs fr d hg hu hd hi]

theorem rdq_other {w : World} {B b i k t : Nat} {zs : List Int} {cs : Array Value} (h : RdQ w B b zs i) (hk : w.heap[k]? = some (.cells cs t (0, 0))) (h8 : t ≠ 5) (hb : k ≠ b) (j : Nat) (v : Value) : RdQ (w.setCell ⟨k, j, none⟩ v) B b zs i :=
  h.keep (by simp [World.setCell]) (fun g hg _ ho => Below.heap_setCell w _ v g (by
    intro e
    have e' : g = k := e
    subst e'
    rcases ho with e | ⟨cur, hc⟩
    · exact hb e
    · rw [hk] at hc
      simp at hc
      exact h8 hc.2))

end Go.Proofs.Ytlcnonhebppeiaa

/- simple: readChange, readPlaces, readFlags, as contracts over this seat's translation. -/
namespace Go.Proofs.Ytlcnonhebppeiaa
open Go.RowKit
set_option linter.unusedVariables false

section
variable {w w' : World} {B b : Nat} {zs : List Int} {i : Nat}
theorem rdq_u8 (h : RdQ w B b zs i) (hB : Bytes zs) (hl : zs.length ≤ 140737488351232) : Calls Try.prog 106 #[.pointer (some ⟨b, 0, none⟩)] w (RetQ w B b (.int .u8 (n1at zs i)) zs (i + 1)) := by
  rcases h with ⟨hi, h⟩ | ⟨hi, a, a0, a1, h⟩
  · exact (u8_any B b _ _ _ w h (drop_bytes hB _) (by rw [List.length_drop]; omega) (by omega) (by omega)).mono fun e w' ⟨he, hr, hg⟩ => ⟨he, rdq_good hi hr, hg⟩
  · refine (u8_any B b _ _ _ w h (fun x hx => by cases hx) (by simp) a0 (by omega)).mono fun e w' ⟨he, hr, hg⟩ => ⟨?_, rdq_bad (by omega) hi a0 a1 hr, hg⟩
    unfold n1at
    rw [drop_past hi]
    exact he
theorem rdq_takeAny (h : RdQ w B b zs i) (hl : zs.length ≤ 140737488351232) (m : Nat) : Calls Try.prog 96 #[.pointer (some ⟨b, 0, none⟩), .int .i64 m] w (RetQT w B b (told (zs.drop i) m) zs (i + m)) := by
  rcases Nat.eq_zero_or_pos m with h0 | h0
  · subst h0
    rcases h with ⟨hi, h⟩ | ⟨hi, a, a0, a1, h⟩
    · exact (take_any B b _ _ _ w h (by rw [List.length_drop]; omega) (by omega) (by omega) 0).mono fun e w' ⟨A, n, c, he, h1, h2, hr, hg⟩ => ⟨A, n, c, he, h1, h2, rdq_good hi hr, hg⟩
    · refine (take_any B b _ _ _ w h (by simp) a0 (by omega) 0).mono fun e w' ⟨A, n, c, he, h1, h2, hr, hg⟩ => ⟨A, n, c, he, ?_, h2, .inr ⟨by omega, a, a0, a1, ?_⟩, hg⟩
      · rw [drop_past hi]
        exact h1
      · have e1 : rest [] 0 = [] := rfl
        have e2 : gone [] a 0 = a := by simp [gone]
        have e3 : badn [] true 0 = true := rfl
        rw [e1, e2, e3] at hr
        exact hr
  · exact rdq_take h hl m h0
theorem rdq_at (h : RdQ w B b zs i) (hi : i ≤ zs.length) : Calls Try.prog 64 #[.pointer (some ⟨b, 0, none⟩)] w fun e w' => e = .returned (.int .i64 i) ∧ w = w' := by
  rcases h with ⟨_, h⟩ | ⟨h, _⟩
  · exact at_any B b _ _ _ w h
  · omega
end

def cwB (s p : Bool) : Nat := if s then 1 else if p then 0 else 2
def cvB (zs : List Int) (s p : Bool) (i : Nat) : Int := if s then (if p then n1at zs i else - n1at zs i) else if p then 0 else sgn (n2at zs i)
theorem cvB_eq (zs : List Int) (sh pl f : Int) (i : Nat) : cvB zs (fb f sh) (fb f pl) i = cv zs sh pl f i := rfl
theorem cwB_eq (sh pl f : Int) : cwB (fb f sh) (fb f pl) = cw sh pl f := rfl
theorem sgn_bd {n : Int} (h0 : 0 ≤ n) (h1 : n < 65536) : -32768 ≤ sgn n ∧ sgn n ≤ 32767 := by unfold sgn; split <;> omega
theorem cv_bd {zs : List Int} (hB : Bytes zs) (sh pl f : Int) (i : Nat) : -32768 ≤ cv zs sh pl f i ∧ cv zs sh pl f i ≤ 32767 := by
  have h1 := n1at_lt hB i
  have h2 := n2at_lt hB i
  have h3 := sgn_bd h2.1 h2.2
  unfold cv
  split
  · split <;> omega
  · split <;> omega

theorem orchange_any (s p : Bool) {w : World} {B b : Nat} {zs : List Int} {i : Nat} (h : RdQ w B b zs i) (hB : Bytes zs) (hl : zs.length ≤ 140737488351232) :
    Calls Try.prog 107 #[.pointer (some ⟨b, 0, none⟩), .bool s, .bool p] w (RetQ w B b (.int .i64 (cvB zs s p i)) zs (i + cwB s p)) := by
  have H1 := Lib.hid (rdq_u8 h hB hl)
  have H2 := Lib.hid (rdq_i16 h hB hl)
  have h1 := n1at_lt hB i
  have h2 := n2at_lt hB i
  have h3 := sgn_bd h2.1 h2.2
  have H0 : Hid (RetQ w B b (.int .i64 0) zs (i + 0) (.returned (.int .i64 0)) w) := ⟨rfl, h, World.grownBy.refl w _⟩
  obtain ⟨h10, h11⟩ := h1
  obtain ⟨h30, h31⟩ := h3
  clear h hB h2
  cases s <;> cases p
  · show Calls _ _ _ _ (RetQ w B b (.int .i64 (sgn (n2at zs i))) zs (i + 2))
    go_enter Try.func107, Try.ntmps107
    go_wp2_with fail
    refine H2.out.mono ?_
    rintro e w1 ⟨rfl, h5, h6⟩
    go_wp2
    go_ret
    exact ⟨rfl, h5, h6⟩
  · show Calls _ _ _ _ (RetQ w B b (.int .i64 0) zs (i + 0))
    go_enter Try.func107, Try.ntmps107
    go_wp2
    go_ret
    exact H0.out
  · show Calls _ _ _ _ (RetQ w B b (.int .i64 (- n1at zs i)) zs (i + 1))
    go_enter Try.func107, Try.ntmps107
    go_wp2_with fail
    refine H1.out.mono ?_
    rintro e w1 ⟨rfl, h5, h6⟩
    go_wp2
    go_ret
    exact ⟨rfl, h5, h6⟩
  · show Calls _ _ _ _ (RetQ w B b (.int .i64 (n1at zs i)) zs (i + 1))
    go_enter Try.func107, Try.ntmps107
    go_wp2_with fail
    refine H1.out.mono ?_
    rintro e w1 ⟨rfl, h5, h6⟩
    go_wp2
    go_ret
    exact ⟨rfl, h5, h6⟩

/-- A Reader, and a fresh row of numbers beside it. -/
structure LK (t : TypeId) (k : IntKind) (w wr : World) (B b : Nat) (zs : List Int) (i gp n : Nat) (xs : List Int) : Prop where
  rd : RdQ wr B b zs i
  own : Own t k wr w.heap.size (some ⟨gp, 0, none⟩) n n xs
  ne : gp ≠ b
  gr : w.grownBy wr (some b)
section
variable {t : TypeId} {k : IntKind} {w wr w' : World} {B b : Nat} {zs : List Int} {i j gp n : Nat} {xs : List Int}
theorem LK.ask (h : LK t k w wr B b zs i gp n xs) (hr : RdQ w' B b zs j) (hg : wr.grownBy w' (some b)) : LK t k w w' B b zs j gp n xs :=
  ⟨hr, h.own.grown hg (fun g e => by simp [blockOf] at e; subst e; intro e; cases e; exact h.ne rfl), h.ne, grown_trans h.gr hg⟩
theorem LK.set (h : LK t k w wr B b zs i gp n xs) (ht : t ≠ 5) (q : Nat) (x : Int) : LK t k w (wr.setCell ⟨gp, q, none⟩ (.int k x)) B b zs i gp n (xs.set q x) := by
  obtain ⟨cur, hc⟩ := h.own.block
  exact ⟨rdq_other h.rd hc ht h.ne q _, h.own.set q x, h.ne, grown_new (h.own.from_ gp rfl).1 q _ h.gr⟩
end

theorem Try.i16info : (Try.prog.info? 22).map (fun i => (i.zero, i.size, i.bytes)) = some (some (.int .i16 0), 1, 2) := by kernel_rfl

/-- What telling places leaves. -/
def RetPk (w : World) (B b : Nat) (zs : List Int) (sh pl : Int) (fl : List Int) (i n : Nat) (e : Ending) (w' : World) : Prop :=
  w.grownBy w' (some b) ∧ ((pkOk zs sh pl fl i n = false ∧ e = .returned (.tuple #[.slice none 0 0, .bool false]) ∧ ∃ j, RdQ w' B b zs j)
    ∨ (pkOk zs sh pl fl i n = true ∧ ∃ gp, e = .returned (.tuple #[.slice (some ⟨gp, 0, none⟩) n n, .bool true]) ∧ Own 22 .i16 w' w.heap.size (some ⟨gp, 0, none⟩) n n (pkVs zs sh pl fl i n) ∧ RdQ w' B b zs (pkAt zs sh pl fl i n).1))

set_option maxRecDepth 100000 in
set_option maxHeartbeats 2000000 in
theorem oplaces_any (sh pl : Int) (hsh : ∀ f, 0 ≤ f → f ≤ 255 → (bits .and .u8 f sh != 0) = fb f sh) (hpl : ∀ f, 0 ≤ f → f ≤ 255 → (bits .and .u8 f pl != 0) = fb f pl)
    (A : Option Addr) (n c : Nat) (fl : List Int) {w : World} {B b : Nat} {zs : List Int} {i : Nat} (h : RdQ w B b zs i) (hB : Bytes zs) (hl : zs.length ≤ 1000000) (hr : Row w A n (cellsOf .u8 fl)) (hfl : Bytes fl) (hn : n ≤ 1000000) (hA : 0 < n → blockOf A ≠ some b) :
    Calls Try.prog 105 #[.pointer (some ⟨b, 0, none⟩), .slice A n c, .int .u8 sh, .int .u8 pl] w (RetPk w B b zs sh pl fl i n) := by
  obtain ⟨i0, hi, hz0, hz1, hz2⟩ := info_parts Try.i16info
  have Hl := Lib.hid hr.len
  have HA := Lib.hid hA
  have Hr := Lib.hid hr
  have HB := Lib.hid hB
  have HFl := Lib.hid hfl
  have Hsh := Lib.hid hsh
  have Hpl := Lib.hid hpl
  have hlt0 := h.lt
  clear hA hr hB hfl hsh hpl
  go_enter Try.func105, Try.ntmps105
  go_wp2_with (at_make; refine wpList_make_ints rfl (.tmp 15) (.tmp 15) _ rfl 22 .i16 w.heap.size i0 2 Try.underlying161 hi hz0 hz1 hz2 _ _ n n rfl rfl (by omega) (by omega) (Nat.le_refl _) (by omega) (by omega) (Nat.le_refl _) ?_; intro w1 hown1 hg1)
  have hs : LK 22 .i16 w w1 B b zs (pkAt zs sh pl fl i 0).1 w.heap.size n (pkVs zs sh pl fl i 0 ++ List.replicate (n - 0) 0) :=
    ⟨h.keep hg1.size (fun q hq _ _ => hg1.block q hq (by simp)), hown1, by omega, grown_of_below (below_of_grown hg1 (Nat.le_refl _) (fun k e => by cases e)) _⟩
  clear hown1 hg1 h hi hz0 hz1 hz2
  generalize w.heap.size = gp at hs ⊢
  go_loopw [11, 19] (fun a i' wr => ∃ k : Nat, k ≤ n ∧ i' = .int .i64 k ∧ a = .int .i64 (pkAt zs sh pl fl i k).2 ∧ Hid (pkOk zs sh pl fl i k = true) ∧ LK 22 .i16 w wr B b zs (pkAt zs sh pl fl i k).1 gp n (pkVs zs sh pl fl i k ++ List.replicate (n - k) 0)) (fun _ i' _ => n - (intOf i').toNat)
  case atStart => exact ⟨0, Nat.zero_le _, rfl, rfl, Lib.hid rfl, hs⟩
  case round =>
    clear hs
    obtain ⟨k, hk, rfl, rfl, hok, hs⟩ := hrel
    obtain ⟨p0, p1⟩ := pkOk_at hok.out (Nat.le_refl _)
    by_cases hlt : k < n
    · obtain ⟨f, hf⟩ := get_some (zs := fl) (k := k) (by have := Hl.out; omega)
      obtain ⟨f0, f1⟩ := HFl.out f (List.mem_of_getElem? hf)
      have hfd : fl.getD k 0 = f := by simp [hf]
      have hrow : Row wr A n (cellsOf .u8 fl) := Hr.out.ask hs.gr HA.out
      obtain ⟨g, off, rfl, hg, hc⟩ := hrow.at (cellsOf_get (k := .u8) hf)
      have e1 := Hsh.out f f0 f1
      have e2 := Hpl.out f f0 f1
      have hS1 : (pkAt zs sh pl fl i (k + 1)).1 = (pkAt zs sh pl fl i k).1 + cwB (fb f sh) (fb f pl) := by show _ + cw sh pl (fl.getD k 0) = _; rw [hfd]; rfl
      have hS2 : (pkAt zs sh pl fl i (k + 1)).2 = (pkAt zs sh pl fl i k).2 + cvB zs (fb f sh) (fb f pl) (pkAt zs sh pl fl i k).1 := by show _ + cv zs sh pl (fl.getD k 0) _ = _; rw [hfd]; rfl
      obtain ⟨d0, d1⟩ := cv_bd HB.out sh pl f (pkAt zs sh pl fl i k).1
      rw [← cvB_eq] at d0 d1
      have HC := Lib.hid (orchange_any (fb f sh) (fb f pl) hs.rd HB.out (by omega))
      have HOs := Lib.hid (pkOk_succ zs sh pl fl i k)
      have HON : Hid (fitsB (pkAt zs sh pl fl i (k + 1)).2 = false → pkOk zs sh pl fl i n = false) := fun hh => pkOk_not hh hlt
      have HST := Lib.hid (pkVs_set zs sh pl fl i k n hlt)
      rw [← hS1] at HC
      rw [hS2] at HOs HON HST
      have HS2 := Lib.hid hS2
      clear hf hfd hrow hS1 hS2
      generalize fb f sh = s at *
      generalize fb f pl = p at *
      generalize (pkAt zs sh pl fl i k).2 = a at *
      generalize cvB zs s p (pkAt zs sh pl fl i k).1 = d at *
      go_wp2_with fail
      with_reducible refine HC.out.mono ?_
      rintro e w2 ⟨rfl, h2, g2⟩
      have hs2 := hs.ask h2 g2
      clear hs h2 g2 HC hc e1 e2
      have HF := Lib.hid (ofits_any (a + d) w2)
      go_wp2_with fail
      with_reducible refine HF.out.mono ?_
      rintro e w3 ⟨rfl, rfl⟩
      cases hfb : fitsB (a + d) with
      | false =>
        have HN := Lib.hid (HON.out hfb)
        clear HOs HON HST HF hfb
        go_wp2
        go_ret2
        exact ⟨hs2.gr, .inl ⟨HN.out, rfl, _, hs2.rd⟩⟩
      | true =>
        obtain ⟨q0, q1⟩ := fitsB_true hfb
        have HT : Hid (pkOk zs sh pl fl i (k + 1) = true) := by show _ = _; rw [HOs.out, hok.out, hfb]; rfl
        have hs4 := hs2.set (by decide) k (a + d)
        rw [HST.out] at hs4
        have H4 := Lib.hid hs4
        obtain ⟨z, hz⟩ : ∃ z, (pkVs zs sh pl fl i k ++ List.replicate (n - k) 0)[k]? = some z := ⟨_, List.getElem?_eq_getElem (by simp [pkVs_len]; omega)⟩
        obtain ⟨gg, off', e', _, hc⟩ := hs2.own.row.at (cellsOf_get (k := .i16) hz)
        simp only [Option.some.injEq, Addr.mk.injEq, and_true] at e'
        obtain ⟨rfl, rfl⟩ := e'
        have fz := hs2.own.thaw k
        rw [Nat.zero_add] at hc
        clear HOs HON HST HF hfb hs4 hs2 hz
        go_wp2
        go_roundw
        case rel => exact ⟨k + 1, by omega, by go_num, by rw [HS2.out], HT, H4.out⟩
        case measure => simp [intOf]; omega
    · obtain rfl : k = n := by omega
      have ho := hs.own
      rw [Nat.sub_self, List.replicate_zero, List.append_nil] at ho
      go_wp2
      go_ret2
      exact ⟨hs.gr, .inr ⟨hok.out, gp, rfl, ho, hs.rd⟩⟩

end Go.Proofs.Ytlcnonhebppeiaa

/- A Reader whose bytes lie ahead of a block: asking it for a byte keeps them there. -/
namespace Go.Proofs.Ytlcnonhebppeiaa
open Go.RowKit
set_option linter.unusedVariables false

/-- A Reader's bytes lie ahead of block U. -/
def Far (w : World) (b U : Nat) : Prop := ∀ A n c v1 v2, w.heap[b]? = some (.cells #[.slice A n c, v1, v2] 151 (0, 0)) → ∀ g, blockOf A = some g → g < U
def Fars (w w' : World) (b : Nat) : Prop := ∀ U, Far w b U → Far w' b U
theorem far_of {w w' : World} {b n c n' c' : Nat} {A A' : Option Addr} {v1 v2 v1' v2' : Value} (hb : w.heap[b]? = some (.cells #[.slice A n c, v1, v2] 151 (0, 0))) (hb' : w'.heap[b]? = some (.cells #[.slice A' n' c', v1', v2'] 151 (0, 0))) (hA : ∀ g, blockOf A' = some g → blockOf A = some g) : Fars w w' b := by
  intro U h A2 n2 c2 u1 u2 h2 g hg
  rw [hb'] at h2
  simp only [Option.some.injEq, Obj.cells.injEq, Array.mk.injEq, List.cons.injEq, Value.slice.injEq, and_true] at h2
  obtain ⟨⟨⟨rfl, _⟩, _⟩, _⟩ := h2
  exact h A n c v1 v2 hb g (hA g hg)
theorem Far.keep {w w' : World} {b U : Nat} (h : Far w b U) (hk : w'.heap[b]? = w.heap[b]?) : Far w' b U := fun A n c v1 v2 hh => h A n c v1 v2 (by rw [← hk]; exact hh)
theorem far_size {w : World} {B b : Nat} {zs : List Int} {a : Int} {bad : Bool} (h : Rd w B b zs a bad) : Far w b w.heap.size := by
  obtain ⟨A, n, c, hb, h1, h2, h3, h4⟩ := h
  intro A2 n2 c2 u1 u2 hh g hg
  rw [hb] at hh
  simp only [Option.some.injEq, Obj.cells.injEq, Array.mk.injEq, List.cons.injEq, Value.slice.injEq, and_true] at hh
  obtain ⟨⟨⟨rfl, _⟩, _⟩, _⟩ := hh
  obtain ⟨_, cur, hc⟩ := h4 g hg
  exact lt_of_block hc
theorem farQ_size {w : World} {B b i : Nat} {zs : List Int} (h : RdQ w B b zs i) : Far w b w.heap.size := by
  rcases h with ⟨_, h⟩ | ⟨_, a, _, _, h⟩ <;> exact far_size h
theorem Rd.keepF {w w' : World} {B b U : Nat} {zs : List Int} {a : Int} {bad : Bool} (h : Rd w B b zs a bad) (hf : Far w b U) (hs : w.heap.size ≤ w'.heap.size)
    (hk : ∀ g, g < w.heap.size → (g = b ∨ g < U) → w'.heap[g]? = w.heap[g]?) : Rd w' B b zs a bad := by
  obtain ⟨A, n, c, hb, h1, h2, h3, h4⟩ := h
  have hA := hf A n c _ _ hb
  refine ⟨A, n, c, by rw [hk b (lt_of_block hb) (.inl rfl)]; exact hb, h1, h2.keep hs (fun g e hg => hk g hg (.inr (hA g e))), h3, fun g e => ⟨(h4 g e).1, ?_⟩⟩
  obtain ⟨cur, hc⟩ := (h4 g e).2
  exact ⟨cur, by rw [hk g (lt_of_block hc) (.inr (hA g e))]; exact hc⟩
theorem RdQ.keepF {w w' : World} {B b U i : Nat} {zs : List Int} (h : RdQ w B b zs i) (hf : Far w b U) (hs : w.heap.size ≤ w'.heap.size)
    (hk : ∀ g, g < w.heap.size → (g = b ∨ g < U) → w'.heap[g]? = w.heap[g]?) : RdQ w' B b zs i := by
  rcases h with ⟨hi, h⟩ | ⟨hi, a, a0, a1, h⟩
  · exact .inl ⟨hi, h.keepF hf hs hk⟩
  · exact .inr ⟨hi, a, a0, a1, h.keepF hf hs hk⟩

set_option maxHeartbeats 400000 in
theorem nextF_ok (B b m : Nat) (zs : List Int) (a : Int) (bad : Bool) (w : World) (h : Rd w B b zs a bad) (hm : m ≤ zs.length) (hl : zs.length ≤ 140737488351232) (ha0 : 0 ≤ a) (ha1 : a ≤ 1000000000000000) :
    Calls Try.prog 103 #[.pointer (some ⟨b, 0, none⟩), .int .i64 m] w fun e w' => RetNext w B b (zs.take m) (zs.drop m) (a + m) bad e w' ∧ Fars w w' b := by
  obtain ⟨A, n, c, hb, h1, h2, h3, h4⟩ := h
  have Hn := Lib.hid h2.len
  have hmn : m ≤ n := by have := Hn.out; omega
  have hnl : n ≤ 140737488351232 := by have := Hn.out; omega
  have c0 : w.cell? ⟨b, 0, none⟩ = some (.slice A n c) := cell_of_row w b 0 _ 151 (0, 0) hb
  have c1 : w.cell? ⟨b, 1, none⟩ = some (.int .i64 a) := cell_of_row w b 1 _ 151 (0, 0) hb
  have f0 : ∀ o, w.frozen? ⟨b, o, none⟩ = false := fun o => by simp [World.frozen?, hb]
  have Hb := Lib.hid hb
  have H4 := Lib.hid h4
  clear hb hm hl h4
  go_enter Try.func103, Try.ntmps103
  go_wp2
  all_goals go_ret
  · have h : c = m := by assumption
    exact ⟨rd_next Hb.out h1 H4.out (grown_set (grown_set (World.grownBy.refl w _) _ _) _ _) (set_block (set_block Hb.out 0 _) 1 _) (fun g e => e) (by rw [← cellsOf_take]; exact h2.take hmn)
      (by rw [List.drop_of_length_le (by have := Hn.out; omega), show n - m = 0 by omega]; exact Row.empty _ _) (by omega), far_of Hb.out (set_block (set_block Hb.out 0 _) 1 _) (fun g e => e)⟩
  · exact ⟨rd_next Hb.out h1 H4.out (grown_set (grown_set (World.grownBy.refl w _) _ _) _ _) (set_block (set_block Hb.out 0 _) 1 _) (fun g e => by rw [← blockOf_add A m]; exact e) (by rw [← cellsOf_take]; exact h2.take hmn)
      (by rw [← cellsOf_drop]; exact h2.drop m) (by omega), far_of Hb.out (set_block (set_block Hb.out 0 _) 1 _) (fun g e => by rw [← blockOf_add A m]; exact e)⟩

set_option maxHeartbeats 400000 in
theorem nextF_bad (B b : Nat) (m : Int) (zs : List Int) (a : Int) (bad : Bool) (w : World) (h : Rd w B b zs a bad) (hm : m < 0 ∨ (zs.length : Int) < m) :
    Calls Try.prog 103 #[.pointer (some ⟨b, 0, none⟩), .int .i64 m] w fun e w' => RetNext w B b [] [] a true e w' ∧ Fars w w' b := by
  obtain ⟨A, n, c, hb, h1, h2, h3, h4⟩ := h
  have Hn := Lib.hid h2.len
  have c0 : w.cell? ⟨b, 0, none⟩ = some (.slice A n c) := cell_of_row w b 0 _ 151 (0, 0) hb
  have c1 : w.cell? ⟨b, 1, none⟩ = some (.int .i64 a) := cell_of_row w b 1 _ 151 (0, 0) hb
  have c2 : w.cell? ⟨b, 2, none⟩ = some (.bool bad) := cell_of_row w b 2 _ 151 (0, 0) hb
  have f0 : ∀ o, w.frozen? ⟨b, o, none⟩ = false := fun o => by simp [World.frozen?, hb]
  have hm' : m < 0 ∨ (n : Int) < m := by have := Hn.out; omega
  have Hb := Lib.hid hb
  clear hb hm h4
  have fin : RetNext w B b [] [] a true (.returned (.slice none 0 0)) ((w.setCell ⟨b, 0, none⟩ (.slice none 0 0)).setCell ⟨b, 2, none⟩ (.bool true)) ∧ Fars w ((w.setCell ⟨b, 0, none⟩ (.slice none 0 0)).setCell ⟨b, 2, none⟩ (.bool true)) b :=
    ⟨⟨none, 0, 0, rfl, Row.empty _ _, fun g e => by simp [blockOf] at e, ⟨none, 0, 0, set_block (set_block Hb.out 0 _) 2 _, h1, Row.empty _ _, Nat.le_refl _, fun g e => by simp [blockOf] at e⟩, grown_set (grown_set (World.grownBy.refl w _) _ _) _ _⟩,
      far_of Hb.out (set_block (set_block Hb.out 0 (.slice none 0 0)) 2 (.bool true)) (fun g e => by simp [blockOf] at e)⟩
  have Fin := Lib.hid fin
  clear fin
  by_cases h0 : m < 0
  · go_enter Try.func103, Try.ntmps103
    go_wp2
    go_ret
    exact Fin.out
  · have h5 : (n : Int) < m := by omega
    clear hm'
    go_enter Try.func103, Try.ntmps103
    go_wp2
    go_ret
    exact Fin.out

set_option maxHeartbeats 400000 in
theorem numberF_ok (B b m : Nat) (zs : List Int) (a : Int) (bad : Bool) (w : World) (h : Rd w B b zs a bad) (hB : Bytes zs) (hm : m ≤ zs.length) (hm4 : m ≤ 4) (hl : zs.length ≤ 140737488351232) (ha0 : 0 ≤ a) (ha1 : a ≤ 1000000000000000) :
    Calls Try.prog 101 #[.pointer (some ⟨b, 0, none⟩), .int .i64 m] w fun e w' => RetNum w B b (.int .u32 (be (zs.take m))) (zs.drop m) (a + m) bad e w' ∧ Fars w w' b := by
  go_enter Try.func101, Try.ntmps101
  go_wp2_with fail
  refine (nextF_ok B b m zs a bad w h hm hl ha0 ha1).mono ?_
  rintro e w1 ⟨⟨A, n, c, rfl, hrow, hblk, hrd, hg⟩, hfar⟩
  have Hfar := Lib.hid hfar
  have Hn : Hid (n = m) := by have := hrow.len; rw [List.length_take] at this; exact (by omega : n = m)
  have hn4 : n ≤ 4 := by have := Hn.out; omega
  have HB : Hid (Bytes (zs.take m)) := fun x hx => hB x (List.mem_of_mem_take hx)
  clear hm hl hB hblk h hfar
  generalize hys : zs.take m = ys at *
  have Hys := Lib.hid hys
  clear hys
  have Hlen := Lib.hid hrow.len
  go_wp2
  go_loop [5, 12] (fun v i => ∃ k : Nat, k ≤ n ∧ i = .int .i64 k ∧ v = .int .u32 (be (ys.take k))) (fun _ i => n - (intOf i).toNat)
  case atStart => exact ⟨0, Nat.zero_le _, rfl, rfl⟩
  case round =>
    obtain ⟨k, hk, rfl, rfl⟩ := hrel
    by_cases hlt : k < n
    · obtain ⟨x, ex⟩ := get_some (zs := ys) (k := k) (by have := Hlen.out; omega)
      obtain ⟨g, off, rfl, hg', hc⟩ := hrow.at (cellsOf_get (k := .u8) ex)
      have hx := HB.out x (List.mem_of_getElem? ex)
      obtain ⟨x0, x1⟩ := hx
      have HS : Hid (be (ys.take (k + 1)) = be (ys.take k) * 256 + x) := by rw [List.take_add_one, ex]; exact be_snoc _ _
      have hb := be_le (ys.take k) (fun y hy => HB.out y (List.mem_of_mem_take hy))
      have hv1 : be (ys.take k) < 16777216 := by
        refine Int.lt_of_lt_of_le hb.2 ?_
        have : (ys.take k).length ≤ 3 := by rw [List.length_take]; omega
        rcases h3 : (ys.take k).length with _ | _ | _ | _ | q <;> simp_all <;> omega
      have hv0 := hb.1
      clear ex hb
      have HO : Hid (bits .or .u32 (be (ys.take k) * 256) x = be (ys.take (k + 1))) := by rw [HS.out]; exact or_byte _ _ hv0 hv1 x0 x1
      go_wp2
      go_round
      case rel => exact ⟨k + 1, by omega, by go_num, by rw [HO.out]⟩
      case measure => simp [intOf]; omega
    · have HE : Hid (ys.take k = ys) := List.take_of_length_le (by have := Hlen.out; omega)
      go_wp2
      go_ret
      refine ⟨⟨?_, hrd, hg⟩, Hfar.out⟩
      rw [Hys.out, HE.out]
      rfl

set_option maxHeartbeats 400000 in
theorem numberF_bad (B b : Nat) (m : Int) (zs : List Int) (a : Int) (bad : Bool) (w : World) (h : Rd w B b zs a bad) (hm : m < 0 ∨ (zs.length : Int) < m) :
    Calls Try.prog 101 #[.pointer (some ⟨b, 0, none⟩), .int .i64 m] w fun e w' => RetNum w B b (.int .u32 0) [] a true e w' ∧ Fars w w' b := by
  go_enter Try.func101, Try.ntmps101
  go_wp2_with fail
  refine (nextF_bad B b m zs a bad w h hm).mono ?_
  rintro e w1 ⟨⟨A, n, c, rfl, hrow, hblk, hrd, hg⟩, hfar⟩
  have hn : n = 0 := hrow.1.symm
  subst hn
  have Hfar := Lib.hid hfar
  clear hblk h hrow hm hfar
  go_wp2
  refine wp_loop_rounds 1 ?_
  rw [rounds_succ]
  go_wp2
  go_ret
  exact ⟨⟨rfl, hrd, hg⟩, Hfar.out⟩

section
variable (B b : Nat) (zs : List Int) (a : Int) (bad : Bool) (w : World) (h : Rd w B b zs a bad) (hB : Bytes zs) (hl : zs.length ≤ 140737488351232) (ha0 : 0 ≤ a) (ha1 : a ≤ 1000000000000000)
include h hB hl ha0 ha1
theorem numberF_any (m : Nat) (hm4 : m ≤ 4) :
    Calls Try.prog 101 #[.pointer (some ⟨b, 0, none⟩), .int .i64 m] w fun e w' => RetNum w B b (.int .u32 (num zs m)) (rest zs m) (gone zs a m) (badn zs bad m) e w' ∧ Fars w w' b := by
  by_cases hm : m ≤ zs.length
  · have := numberF_ok B b m zs a bad w h hB hm hm4 hl ha0 ha1
    simpa only [num, told, rest, gone, badn, if_pos hm] using this
  · have := numberF_bad B b m zs a bad w h (.inr (by omega))
    simpa only [num, told, rest, gone, badn, if_neg hm, show be [] = 0 from rfl] using this
theorem u8F_any : Calls Try.prog 106 #[.pointer (some ⟨b, 0, none⟩)] w fun e w' => RetNum w B b (.int .u8 (num zs 1)) (rest zs 1) (gone zs a 1) (badn zs bad 1) e w' ∧ Fars w w' b := by
  have H := Lib.hid (numberF_any B b zs a bad w h hB hl ha0 ha1 1 (by omega))
  obtain ⟨n0, n1⟩ := num_lt hB 1 1 (by omega)
  clear h hB hl ha0 ha1
  simp only [Int.pow_succ, Int.pow_zero, Int.one_mul] at n1
  go_enter Try.func106, Try.ntmps106
  go_wp2_with fail
  refine H.out.mono ?_
  rintro e w1 ⟨⟨rfl, hr⟩, hf⟩
  go_wp2
  go_ret
  exact ⟨⟨rfl, hr⟩, hf⟩
end
theorem rdqF_u8 {w : World} {B b : Nat} {zs : List Int} {i : Nat} (h : RdQ w B b zs i) (hB : Bytes zs) (hl : zs.length ≤ 140737488351232) : Calls Try.prog 106 #[.pointer (some ⟨b, 0, none⟩)] w fun e w' => RetQ w B b (.int .u8 (n1at zs i)) zs (i + 1) e w' ∧ Fars w w' b := by
  rcases h with ⟨hi, h⟩ | ⟨hi, a, a0, a1, h⟩
  · exact (u8F_any B b _ _ _ w h (drop_bytes hB _) (by rw [List.length_drop]; omega) (by omega) (by omega)).mono fun e w' ⟨⟨he, hr, hg⟩, hf⟩ => ⟨⟨he, rdq_good hi hr, hg⟩, hf⟩
  · refine (u8F_any B b _ _ _ w h (fun x hx => by cases hx) (by simp) a0 (by omega)).mono fun e w' ⟨⟨he, hr, hg⟩, hf⟩ => ⟨⟨?_, rdq_bad (by omega) hi a0 a1 hr, hg⟩, hf⟩
    unfold n1at
    rw [drop_past hi]
    exact he

end Go.Proofs.Ytlcnonhebppeiaa
