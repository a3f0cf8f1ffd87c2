/- What the laws of this seat lean on: WrBox SimW. -/
import Derived.Deep.RegionHeld3
import Derived.Maps.AppendAt
import Derived.Test.YtdaeffnaoeblpaaBase2
import Derived.Test.YtdaeffnaoeblpaaBase3

/- A Writer beside a struct in a block of its own: what a Writer's call leaves of both. -/
namespace Go.Proofs.Ytdaeffnaoeblpaa
open Go.RowKit
set_option linter.unusedVariables false

/-- A block of another kind is no Writer's. -/
theorem Wr.apart {w : World} {B b k : Nat} {zs : List Int} {cs : Array Value} {t : TypeId} (h : Wr w B b zs) (hk : w.heap[k]? = some (.cells cs t (0, 0))) (h1 : t ≠ 5) (h2 : t ≠ 114) : ¬ WrS w b k := by
  rintro (rfl | ⟨A, n, c, hb, e⟩)
  · obtain ⟨A, n, c, hb, _⟩ := h
    rw [hk] at hb
    simp at hb
    exact h2 hb.2
  · obtain ⟨A', n', c', hb', _, hown⟩ := h
    rw [hb] at hb'
    simp at hb'
    obtain ⟨rfl, rfl, rfl⟩ := hb'
    rcases hown.shape with ⟨rfl, _⟩ | ⟨g, cur, rfl, _, _, hh, _⟩
    · simp [blockOf] at e
    · simp [blockOf] at e
      subst e
      rw [hk] at hh
      simp at hh
      exact h1 hh.2

/-- A Writer in block b that is younger than w, and a struct in block bt. -/
structure StB (w wr : World) (b : Nat) (zs : List Int) (bt : Nat) (cs : Array Value) (t : TypeId) : Prop where
  wr_ : Wr wr w.heap.size b zs
  bel : Below w.heap.size w wr
  box : wr.heap[bt]? = some (.cells cs t (0, 0))
  n8 : t ≠ 5
  nw : t ≠ 114

section
variable {w wr w' : World} {b : Nat} {zs ys : List Int} {bt : Nat} {cs : Array Value} {t : TypeId}
theorem StB.below (h : StB w wr b zs bt cs t) (hb : Below wr.heap.size wr w') : StB w w' b zs bt cs t :=
  ⟨h.wr_.below hb, h.bel.trans (hb.mono h.bel.size), (hb.block _ (lt_of_block h.box)).trans h.box, h.n8, h.nw⟩
theorem StB.turned (h : StB w wr b zs bt cs t) (h1 : Wr w' w.heap.size b ys) (ht : Turned wr w' (WrS wr b)) : StB w w' b ys bt cs t :=
  ⟨h1, h.wr_.older h.bel (Nat.le_refl _) ht, (ht.block _ (lt_of_block h.box) (h.wr_.apart h.box h.n8 h.nw)).trans h.box, h.n8, h.nw⟩
theorem StB.drew (h : StB w wr b zs bt cs t) : StB w wr.drew b zs bt cs t := ⟨h.wr_, h.bel.drew, h.box, h.n8, h.nw⟩
theorem StB.drewN (h : StB w wr b zs bt cs t) (q : Nat) : StB w (wr.drewN q) b zs bt cs t := ⟨h.wr_, below_drewN h.bel q, h.box, h.n8, h.nw⟩
theorem StB.cell (h : StB w wr b zs bt cs t) (i : Nat) (v : Value) (hi : cs[i]? = some v) : wr.cell? ⟨bt, i, none⟩ = some v := (cell_of_row wr _ i _ _ _ h.box).trans hi
theorem StB.size (h : StB w wr b zs bt cs t) : w.heap.size ≤ wr.heap.size := h.bel.size
end

/-- A struct that is boxed, and a new Writer behind it. -/
theorem stB_new (w : World) (cs : Array Value) (t : TypeId) (h8 : t ≠ 5) (hw : t ≠ 114) : StB w ((w.alloc (.cells cs t)).alloc (.cells #[.slice none 0 0] 114)) (w.heap.size + 1) [] w.heap.size cs t := by
  have hb1 : Below w.heap.size w (w.alloc (.cells cs t)) := (Below.refl _ _).alloc (Nat.le_refl _) _
  have hw' := wr_new (w.alloc (.cells cs t))
  have hs : (w.alloc (.cells cs t)).heap.size = w.heap.size + 1 := by simp
  rw [hs] at hw'
  refine ⟨hw'.mono (by omega), hb1.alloc (by rw [hs]; omega) _, ?_, h8, hw⟩
  rw [Below.heap_alloc _ _ _ (by rw [hs]; omega)]
  exact heap_alloc_new w _

/-- An element of an array that is a value. -/
theorem run_index_arr {P : Program} (w : World) (T e : TypeId) (len : Nat) (cs : Array Value) (k : Nat) (v : Value) (hT : P.underlying T = some (.array len e)) (ha : (isAgg e).run P w = .ok false w) (hs : (Go.sizeOf e).run P w = .ok 1 w) (hk : k < len) (hv : cs[k]? = some v) :
    (Instr.index T (.agg cs) (.int .i64 k)).run P w = .ok v w := by
  have hk' : (k : Int) < (len : Int) := by omega
  have hk0 : (0 : Int) ≤ (k : Int) := by omega
  simp only [Instr.index, asIntOf, Sem.run_bind, Sem.run_pure, Result.andThen_ok, run_underlying hT, hk', hk0, and_self, if_true, hs, Int.toNat_natCast, Nat.mul_one, Go.part, ha, Bool.false_eq_true, if_false, hv]

end Go.Proofs.Ytdaeffnaoeblpaa

/- A Writer's bytes lie where they lay, or behind all that was there; simple's flags and changes, written. -/
namespace Go.Proofs.Ytdaeffnaoeblpaa
open Go.RowKit
set_option linter.unusedVariables false

theorem getD_headD (l : List Int) : l.getD 0 0 = l.headD 0 := by cases l <;> rfl

/-- A slice's length. -/
def slLen : Value → Nat
  | .slice _ n _ => n
  | _ => 0

theorem run_append_row_at {P : Program} (w : World) (t : TypeId) (k : IntKind) (base T ty : Nat) (i : TypeInfo) (b : Nat) (ht : P.underlying T = some (.slice t)) (hi : P.info? t = some i) (hz : i.zero = some (.int k 0)) (hs : i.size = 1) (hby : i.bytes = b)
    (A : Option Addr) (n c : Nat) (zs : List Int) (hown : Own t k w base A n c zs) (A' : Option Addr) (n' c' : Nat) (ys : List Int) (hr : Row w A' n' (cellsOf k ys))
    (hb : (n + n') * b ≤ 140737488355328) (hm : n + n' ≤ 140737488355328) (hbase : base ≤ w.heap.size) :
    ∃ A2 c2 w', (Builtin.append_ #[T, T] ty #[.slice A n c, .slice A' n' c']).run P w = .ok (.slice A2 (n + n') c2) w' ∧ Own t k w' base A2 (n + n') c2 (zs ++ ys) ∧ w.grownBy w' (blockOf A) ∧ (blockOf A2 = blockOf A ∨ blockOf A2 = some w.heap.size) := by
  have hbo : (Value.slice A n c).ownBlock = blockOf A := by
    rcases hown.shape with ⟨rfl, _⟩ | ⟨g, cur, rfl, _⟩ <;> rfl
  have hyl := hr.len
  by_cases hy : n' = 0
  · obtain rfl : ys = [] := List.eq_nil_of_length_eq_zero (by omega)
    subst hy
    refine ⟨A, c, w, ?_, by simpa using hown, World.grownBy.refl w _, .inl rfl⟩
    rcases hown.shape with ⟨rfl, rfl, rfl, rfl⟩ | ⟨g, cur, rfl, _, _, _, hle, _⟩
    · cases A' <;> simp [Builtin.append_, run_underlying ht, sizeOf, typeInfo, hi, Builtin.lenOf, Builtin.firstCells, loadCells, loadCellsFrom]
    · cases A' <;> simp [Builtin.append_, run_underlying ht, sizeOf, typeInfo, hi, Builtin.lenOf, Builtin.firstCells, loadCells, loadCellsFrom, hle, storeCells]
  · obtain ⟨g, off, rfl, hg, hc⟩ := hr.2 (by omega)
    obtain ⟨v', w', hrun, h2, h3, _, h5⟩ := run_append_own_at (P := P) w base T ty t i (.int k 0) 1 b ht hi hz hs hby rfl (by omega) (.slice A n c) n (cellsOf k zs) hown ⟨g, off, none⟩ n' c' (cellsOf k ys) (by rw [cellsOf_length]; omega)
      (fun j u hu => by rw [Addr.add_lit]; exact hc j u hu) (cellsOf_one _ _) (by simp only [maxLen]; omega) hb hbase
    rw [cellsOf_append] at h2
    obtain ⟨A2, c2, rfl, h2'⟩ := own_shape h2
    refine ⟨A2, c2, w', hrun, h2', by rw [← hbo]; exact h3, ?_⟩
    rw [← hbo]
    have hb2 : (Value.slice A2 (n + n') c2).ownBlock = blockOf A2 := by
      rcases h2'.shape with ⟨rfl, _⟩ | ⟨g, cur, rfl, _⟩ <;> rfl
    rw [← hb2]
    exact h5

theorem wpList_append_row_at {P : Program} {w : World} {ops : Array Oper} {rest : List Oper} {o : Oper} {a : Act} {Q : Exit → Act → World → Prop} (hgd : o.guard = none) (s x : Operand) (T : TypeId)
    (ho : o.op = .call { callee := .builtin .append, args := #[s, x], argTypes := #[T, T] }) (t : TypeId) (k : IntKind)
    (base : Nat) (i : TypeInfo) (b : Nat) (ht : P.underlying T = some (.slice t)) (hi : P.info? t = some i) (hz : i.zero = some (.int k 0)) (hs : i.size = 1) (hby : i.bytes = b)
    (A : Option Addr) (n c : Nat) (zs : List Int) (hes : a.eval s = .slice A n c) (hown : Own t k w base A n c zs) (A' : Option Addr) (n' c' : Nat) (ys : List Int) (hex : a.eval x = .slice A' n' c') (hr : Row w A' n' (cellsOf k ys))
    (hb : (n + n') * b ≤ 140737488355328) (hm : n + n' ≤ 140737488355328) (hbase : base ≤ w.heap.size)
    (h : ∀ A2 c2 w', Own t k w' base A2 (n + n') c2 (zs ++ ys) → w.grownBy w' (blockOf A) → (blockOf A2 = blockOf A ∨ blockOf A2 = some w.heap.size) → wpList P ops Q rest (a.put o.dst (.slice A2 (n + n') c2)) w') : wpList P ops Q (o :: rest) a w := by
  refine wpList_plain hgd fun _ hK => ?_
  obtain ⟨A2, c2, w', hrun, h2, h3, h4⟩ := run_append_row_at (P := P) w t k base T o.type i b ht hi hz hs hby A n c zs hown A' n' c' ys hr hb hm hbase
  unfold Oper.wp execOp
  simp only [ho, resolve, invoke, builtin, Sem.run_bind, Sem.run_pure, Result.andThen_ok, List.map_toArray, List.map_cons, List.map_nil, hes, hex, hrun]
  exact hK _ _ (h A2 c2 w' h2 h3 h4)

/-- Of what was there only a Writer's blocks have turned, and it has no others but new ones. -/
structure TurnedN (w w' : World) (b : Nat) : Prop where
  t : Turned w w' (WrS w b)
  n : ∀ k, WrS w' b k → WrS w b k ∨ w.heap.size ≤ k
theorem TurnedN.trans {w w1 w2 : World} {b : Nat} (h : TurnedN w w1 b) (k : TurnedN w1 w2 b) : TurnedN w w2 b :=
  ⟨⟨k.t.os.trans h.t.os, k.t.tape.trans h.t.tape, k.t.output.trans h.t.output, Nat.le_trans h.t.size k.t.size, fun i hi hs => (k.t.block i (Nat.lt_of_lt_of_le hi h.t.size) (fun hh => by rcases h.n i hh with h1 | h1; exact hs h1; omega)).trans (h.t.block i hi hs)⟩,
    fun i hi => by
      rcases k.n i hi with h1 | h1
      · exact h.n i h1
      · exact .inr (Nat.le_trans h.t.size h1)⟩
theorem wrs_below {w w' : World} {b k : Nat} (hb : Below w.heap.size w w') (hlt : b < w.heap.size) (h : WrS w' b k) : WrS w b k := by
  rcases h with rfl | ⟨A, n, c, h, e⟩
  · exact .inl rfl
  · exact .inr ⟨A, n, c, by rw [← hb.block b hlt]; exact h, e⟩
theorem TurnedN.of_below {w w' : World} {b : Nat} (hb : Below w.heap.size w w') (hlt : b < w.heap.size) : TurnedN w w' b :=
  ⟨⟨hb.os, hb.tape, hb.output, hb.size, fun k hk _ => hb.block k hk⟩, fun k hk => .inl (wrs_below hb hlt hk)⟩
theorem TurnedN.row {w w' : World} {b : Nat} {A : Option Addr} {n : Nat} {xs : List Value} (h : TurnedN w w' b) (hr : Row w A n xs) (hA : ∀ g, blockOf A = some g → ¬ WrS w b g) : Row w' A n xs := hr.turned h.t hA
theorem TurnedN.far {w w' : World} {b g : Nat} (h : TurnedN w w' b) (hlt : g < w.heap.size) (hg : ¬ WrS w b g) : ¬ WrS w' b g := fun hh => by
  rcases h.n g hh with h1 | h1
  · exact hg h1
  · omega
theorem TurnedN.belowB {w0 w w' : World} {B b : Nat} {zs : List Int} (h : TurnedN w w' b) (hw : Wr w B b zs) (hb : Below B w0 w) : Below B w0 w' :=
  h.t.below hb (by have := hw.from_; omega) (fun k hs => (hw.owns k hs).1)

/-- What a Writer's call leaves. -/
def RetWN (w : World) (B b : Nat) (zs : List Int) (e : Ending) (w' : World) : Prop := e = .returned (.pointer (some ⟨b, 0, none⟩)) ∧ Wr w' B b zs ∧ TurnedN w w' b

set_option maxHeartbeats 400000 in
theorem addN_any (B b : Nat) (zs : List Int) (A' : Option Addr) (n' c' : Nat) (ys : List Int) (w : World) (h : Wr w B b zs) (hr : Row w A' n' (cellsOf .u8 ys)) (hl : zs.length + n' ≤ 140737488355328) :
    Calls Try.prog 113 #[.pointer (some ⟨b, 0, none⟩), .slice A' n' c'] w (RetWN w B b (zs ++ ys)) := by
  obtain ⟨i0, hi, hz0, hz1, hz2⟩ := info_parts Try.u8info
  obtain ⟨A, n, c, hb, h1, h2⟩ := h
  have hlt : b < w.heap.size := lt_of_block hb
  have hBw : B ≤ w.heap.size := by omega
  have hn : n + n' ≤ 140737488355328 := by have := h2.len; omega
  have hne : ∀ g, blockOf A = some g → some b ≠ blockOf A := fun g e => by
    rcases h2.shape with ⟨rfl, _⟩ | ⟨g', cur, rfl, _, _, hh, _⟩
    · simp [blockOf]
    · simp only [blockOf, Option.map_some]
      intro he
      cases he
      exact u8_ne_wr hh hb rfl
  have hne' : some b ≠ blockOf A := by
    cases hA : blockOf A with
    | none => simp
    | some g => rw [← hA]; exact hne g hA
  have c0 : w.cell? ⟨b, 0, none⟩ = some (.slice A n c) := cell_of_row w b 0 _ 114 (0, 0) hb
  have Hb := Lib.hid hb
  have Hne := Lib.hid hne'
  clear hb hne hne'
  go_enter Try.func113, Try.ntmps113
  go_wp2_with (at_builtin; refine wpList_append_row_at rfl (.tmp 11) (.tmp 12) _ rfl 5 .u8 B i0 1 Try.underlying42 hi hz0 hz1 hz2 A n c zs rfl h2 A' n' c' ys rfl hr (by omega) (by omega) hBw ?_)
  intro A2 c2 w1 hown1 hg1 hA2
  have HA2 := Lib.hid hA2
  clear hA2
  have hb1 : w1.heap[b]? = some (.cells #[.slice A n c] 114 (0, 0)) := by rw [hg1.block b hlt Hne.out]; exact Hb.out
  have c1 : w1.cell? ⟨b, 0, none⟩ = some (.slice A n c) := cell_of_row w1 b 0 _ 114 (0, 0) hb1
  have f1 : w1.frozen? ⟨b, 0, none⟩ = false := by simp [World.frozen?, hb1]
  have hb2 := Lib.hid (set_block hb1 0 (.slice A2 (n + n') c2))
  have hown2 : Hid (OwnB (w1.setCell ⟨b, 0, none⟩ (.slice A2 (n + n') c2)) B A2 (n + n') c2 (zs ++ ys)) := hown1.keep fun g e => Below.heap_setCell _ _ _ _ (by
    rcases hown1.shape with ⟨rfl, _⟩ | ⟨g', cur, rfl, _, _, hh, _⟩
    · simp [blockOf] at e
    · simp [blockOf] at e
      subst e
      exact u8_ne_wr hh hb1)
  have ht : Hid (Turned w (w1.setCell ⟨b, 0, none⟩ (.slice A2 (n + n') c2)) (WrS w b)) := ⟨hg1.os, hg1.tape, hg1.output, by simpa [World.setCell] using hg1.size, fun k hk hs =>
    (Below.heap_setCell w1 _ _ k (fun e => hs (.inl e))).trans (hg1.block k hk (fun e => hs (.inr ⟨A, n, c, Hb.out, e.symm⟩)))⟩
  have hN : Hid (∀ k, WrS (w1.setCell ⟨b, 0, none⟩ (.slice A2 (n + n') c2)) b k → WrS w b k ∨ w.heap.size ≤ k) := by
    rintro k (rfl | ⟨A3, n3, c3, h3, e3⟩)
    · exact .inl (.inl rfl)
    · rw [hb2.out] at h3
      simp at h3
      obtain ⟨rfl, rfl, rfl⟩ := h3
      rcases HA2.out with h5 | h5
      · exact .inl (.inr ⟨A, n, c, Hb.out, by rw [← h5]; exact e3⟩)
      · rw [h5] at e3
        cases e3
        exact .inr (Nat.le_refl _)
  clear hb1 hown1 hg1 c0
  go_wp2
  go_ret
  exact ⟨rfl, ⟨A2, n + n', c2, hb2.out, h1, hown2.out⟩, ht.out, hN.out⟩

/-- A Writer's call behind a new block. -/
theorem RetWN.alloc {w w' : World} {B b : Nat} {zs : List Int} {o : Obj} {e : Ending} (h0 : Wr w B b zs) {ys : List Int} (h : RetWN (w.alloc o) B b ys e w') : RetWN w B b ys e w' := by
  obtain ⟨rfl, h1, h2⟩ := h
  exact ⟨rfl, h1, (TurnedN.of_below ((Below.refl _ _).alloc (Nat.le_refl _) o) h0.from_.2).trans h2⟩

theorem wu8N_any (B b : Nat) (zs : List Int) (x : Int) (w : World) (h : Wr w B b zs) (hl : zs.length ≤ 140737488351232) :
    Calls Try.prog 114 #[.pointer (some ⟨b, 0, none⟩), .int .u8 x] w (RetWN w B b (zs ++ [x])) := by
  have ha := h.below ((Below.refl w.heap.size w).alloc (Nat.le_refl _) (.cells #[.int .u8 x] 5))
  go_enter Try.func114, Try.ntmps114
  go_wp2_with fail
  refine (addN_any B b zs _ _ _ [x] _ ha (row_one _ _ _ _) (by omega)).mono ?_
  rintro e w1 hr
  obtain ⟨rfl, h1⟩ := RetWN.alloc h hr
  go_wp2
  go_ret
  exact ⟨rfl, h1⟩

theorem wu16N_any (B b : Nat) (zs : List Int) (x : Int) (w : World) (h : Wr w B b zs) (hl : zs.length ≤ 140737488351232) (x0 : 0 ≤ x) (x1 : x < 65536) :
    Calls Try.prog 55 #[.pointer (some ⟨b, 0, none⟩), .int .u16 x] w (RetWN w B b (zs ++ b2 x)) := by
  have ha := h.below ((Below.refl w.heap.size w).alloc (Nat.le_refl _) (.cells #[.int .u8 (x / 256), .int .u8 (x % 256)] 5))
  rw [b2_small x x0 x1]
  go_enter Try.func55, Try.ntmps55
  go_wp2_with fail
  refine (addN_any B b zs _ _ _ [x / 256, x % 256] _ ha (row_lit w .u8 5 [x / 256, x % 256] 2 rfl) (by omega)).mono ?_
  rintro e w1 hr
  obtain ⟨rfl, h1⟩ := RetWN.alloc h hr
  go_wp2
  go_ret
  exact ⟨rfl, h1⟩

theorem wi16N_any (B b : Nat) (zs : List Int) (x : Int) (w : World) (h : Wr w B b zs) (hl : zs.length ≤ 140737488351232) :
    Calls Try.prog 56 #[.pointer (some ⟨b, 0, none⟩), .int .i16 x] w (RetWN w B b (zs ++ b2 (x % 65536))) := by
  go_enter Try.func56, Try.ntmps56
  go_wp2_with fail
  refine (wu16N_any B b zs (x % 65536) _ h hl (by omega) (by omega)).mono ?_
  rintro e w1 ⟨rfl, h1⟩
  go_wp2
  go_ret
  exact ⟨rfl, h1⟩

set_option maxHeartbeats 1000000 in
theorem orow_any (A : Option Addr) (n c : Nat) (l : List Int) (w : World) (hr : Row w A n (cellsOf .u8 l)) (h1 : 1 ≤ n) (hn : n ≤ 1000000) :
    Calls Try.prog 116 #[.slice A n c] w (Quiet w (.int .i64 (rowOf l : Nat))) := by
  have Hl := Lib.hid hr.len
  obtain ⟨h, hh⟩ := get_some (zs := l) (k := 0) (by have := Hl.out; omega)
  obtain ⟨g, off, rfl, hg, hc0⟩ := hr.at (cellsOf_get (k := .u8) hh)
  rw [Nat.add_zero] at hc0
  have Hh : Hid (l.headD 0 = h) := by show _ = _; cases l with
    | nil => simp at hh
    | cons x r => simpa using hh
  clear hh
  go_enter Try.func116, Try.ntmps116
  go_wp2
  go_loopw [3] (fun i wr => ∃ k q : Nat, 1 ≤ k ∧ k ≤ n ∧ k ≤ 256 ∧ i = .int .i64 k ∧ Hid (∀ j, j < k → l.getD j 0 = l.headD 0) ∧ wr = w.drewN q) (fun i _ => n - (intOf i).toNat)
  case atStart => exact ⟨1, 0, Nat.le_refl _, h1, by omega, rfl, Lib.hid (fun j hj => (show j = 0 by omega) ▸ getD_headD l), rfl⟩
  case round =>
    obtain ⟨k, q, hk1, hk, hk2, rfl, HR, rfl⟩ := hrel
    by_cases hlt : k < n
    · have D1 : decide ((k : Int) < (n : Int)) = true := decide_eq_true (by omega)
      by_cases h256 : k < 256
      · have D2 : decide ((k : Int) < 256) = true := decide_eq_true (by omega)
        obtain ⟨x, hx⟩ := get_some (zs := l) (k := k) (by have := Hl.out; omega)
        obtain ⟨g', off', e', _, hc⟩ := hr.at (cellsOf_get (k := .u8) hx)
        simp only [Option.some.injEq, Addr.mk.injEq, and_true] at e'
        obtain ⟨rfl, rfl⟩ := e'
        have hxg : l.getD k 0 = x := by simp [hx]
        have i0 : (0 : Int) ≤ (k : Int) := by omega
        have i1 : (k : Int) < (n : Int) := by omega
        have i2 : (0 : Int) < (n : Int) := by omega
        by_cases he : x = h
        · have hb : (x == h) = true := by simp [he]
          have HT : Hid (∀ j, j < k + 1 → l.getD j 0 = l.headD 0) := fun j hj => by
            rcases Nat.lt_or_ge j k with h3 | h3
            · exact HR.out j h3
            · obtain rfl : j = k := by omega
              rw [hxg, Hh.out, he]
          clear hx hxg HR he
          go_wp2
          go_quiet (fail)
          go_wp2
          go_roundw
          case rel => exact ⟨k + 1, _, by omega, by omega, by omega, by go_num, HT, by first | rfl | (rw [World.drewN_drewN])⟩
          case measure => simp [intOf]; omega
        · have hb : (x == h) = false := by simp [he]
          have HE : Hid (rowOf l = k) := rowOf_of hk2 (by have := Hl.out; omega) HR.out (.inr (.inr (by rw [hxg, Hh.out]; exact he)))
          clear hx hxg HR he
          go_wp2
          go_quiet (fail)
          go_wp2
          go_ret
          exact ⟨by rw [HE.out]; rfl, _, by first | rfl | (rw [World.drewN_drewN])⟩
      · have D2 : decide ((k : Int) < 256) = false := decide_eq_false (by omega)
        have HE : Hid (rowOf l = k) := rowOf_of hk2 (by have := Hl.out; omega) HR.out (.inl (by omega))
        clear HR
        go_wp2
        go_quiet (fail)
        go_wp2
        go_ret
        exact ⟨by rw [HE.out]; rfl, _, by first | rfl | (rw [World.drewN_drewN])⟩
    · obtain rfl : k = n := by omega
      have D1 : decide ((k : Int) < (k : Int)) = false := decide_eq_false (by omega)
      have HE : Hid (rowOf l = k) := rowOf_of hk2 (by have := Hl.out; omega) HR.out (.inr (.inl Hl.out.symm))
      clear HR
      go_wp2
      go_quiet (fail)
      go_wp2
      go_ret
      exact ⟨by rw [HE.out]; rfl, _, by first | rfl | (rw [World.drewN_drewN])⟩

/-- What a call leaves that writes, and answers nothing. -/
def RetW0 (w : World) (B b : Nat) (zs : List Int) (e : Ending) (w' : World) : Prop := e = .returned (.tuple #[]) ∧ Wr w' B b zs ∧ TurnedN w w' b

theorem wr_drewN {w : World} {b : Nat} (hlt : b < w.heap.size) (q : Nat) : TurnedN w (w.drewN q) b := .of_below (below_drewN (Below.refl _ _) q) hlt

set_option maxRecDepth 100000 in
set_option maxHeartbeats 2000000 in
theorem owflags_any (B b : Nat) (zs : List Int) (A : Option Addr) (n c : Nat) (l : List Int) (w : World) (h : Wr w B b zs) (hr : Row w A n (cellsOf .u8 l)) (hfar : ∀ g, blockOf A = some g → ¬ WrS w b g) (hc : n ≤ c) (hn : n ≤ 1000000) (hz : zs.length ≤ 1000000) (hin : ∀ f ∈ l, f ∈ flagsAll) :
    Calls Try.prog 62 #[.pointer (some ⟨b, 0, none⟩), .slice A n c] w (RetW0 w B b (zs ++ rle l)) := by
  have Hl := Lib.hid hr.len
  have Hin := Lib.hid hin
  have hrl := rle_len l
  have hzl : (zs ++ rle l).length ≤ 3000000 := by rw [List.length_append, Hl.out] at *; omega
  have Hzl := Lib.hid hzl
  have hN := TurnedN.of_below (Below.refl w.heap.size w) h.from_.2
  clear hin hrl hzl
  go_enter Try.func62, Try.ntmps62
  go_wp2
  go_loopw [1] (fun s wr => ∃ (A1 : Option Addr) (n1 c1 : Nat) (r X : List Int), s = .slice A1 n1 c1 ∧ n1 ≤ n ∧ n1 ≤ c1 ∧ Hid (X ++ rle r = rle l) ∧ Hid (∀ f ∈ r, f ∈ flagsAll) ∧ Wr wr B b (zs ++ X) ∧ TurnedN w wr b ∧ Row wr A1 n1 (cellsOf .u8 r) ∧ Hid (∀ g, blockOf A1 = some g → ¬ WrS wr b g)) (fun s _ => slLen s)
  case atStart => exact ⟨A, n, c, l, [], rfl, Nat.le_refl _, hc, Lib.hid rfl, Hin, by simpa using h, hN, hr, Lib.hid hfar⟩
  case round =>
    clear h hr hfar hN hc
    obtain ⟨A1, n1, c1, r, X, rfl, hn1, hc1, HX, Hin1, hw, hN, hr, Hfar⟩ := hrel
    have Hr1 := Lib.hid hr.len
    rcases Nat.eq_zero_or_pos n1 with h0 | h0
    · subst h0
      obtain rfl : r = [] := List.eq_nil_of_length_eq_zero Hr1.out
      have HX2 : Hid (X = rle l) := by have := HX.out; rw [rle_nil, List.append_nil] at this; exact this
      rw [HX2.out] at hw
      go_wp2
      go_end0
      exact ⟨rfl, hw, hN⟩
    · obtain ⟨x, hx⟩ := get_some (zs := r) (k := 0) (by have := Hr1.out; omega)
      obtain ⟨g, off, rfl, hg, hc0⟩ := hr.at (cellsOf_get (k := .u8) hx)
      rw [Nat.add_zero] at hc0
      have hhd : r.headD 0 = x := by rw [← getD_headD]; simp [hx]
      have hrne : r ≠ [] := by rintro rfl; simp at hx
      have hfin := Hin1.out x (List.mem_of_getElem? hx)
      obtain ⟨x0, x1⟩ := flagsAll_lt hfin
      have Hor := Lib.hid (flagsAll_or8 hfin)
      have hst := rle_step hrne
      have hk1 := rowOf_pos hrne
      obtain ⟨hk2, hk3⟩ := rowOf_le r
      rw [Hr1.out] at hk3
      have HRow : Hid (∀ m, Calls Try.prog 116 #[.slice (some ⟨g, off, none⟩) n1 c1] (wr.drewN m) (Quiet (wr.drewN m) (.int .i64 (rowOf r : Nat)))) := fun m => orow_any _ _ _ r _ (hr.drewN m) h0 (by omega)
      unfold rleHead at hst
      rw [hhd] at hst
      have HIn2 : Hid (∀ f ∈ r.drop (rowOf r), f ∈ flagsAll) := fun f hf => Hin1.out f (List.mem_of_mem_drop hf)
      generalize hkk : rowOf r = k at *
      have HX2 : Hid ((X ++ if k = 1 then [x] else [x + 8, (k : Int) - 1]) ++ rle (r.drop k) = rle l) := by show _ = _; rw [List.append_assoc, ← hst]; exact HX.out
      have hzX : (zs ++ (X ++ if k = 1 then [x] else [x + 8, (k : Int) - 1])).length ≤ 3000000 := by
        have h1 := Hzl.out
        have h2 := congrArg List.length HX2.out
        rw [List.length_append] at h1 h2 ⊢
        omega
      have hz0 : (zs ++ X).length ≤ 3000000 := by
        rw [List.length_append, List.length_append] at *
        omega
      have hdr : Row wr (some ⟨g, off + k, none⟩) (n1 - k) (cellsOf .u8 (r.drop k)) := by have := hr.drop k; rw [cellsOf_drop] at this; simpa [Addr.add_lit] using this
      have hdz : n1 = k → r.drop k = [] := fun h => List.drop_of_length_le (by rw [Hr1.out]; omega)
      have Hdz := Lib.hid hdz
      have hgl : g < wr.heap.size := hg
      have hgf : ¬ WrS wr b g := Hfar.out g rfl
      have HN := Lib.hid hN
      clear hst hkk hhd hrne hfin hx HX hdz Hin1 hN
      go_wp2
      go_quiet ((go_at_call 116; with_reducible exact Calls.quiet_of (HRow.out _)))
      have hw' := hw.drewN nq
      have hN' : TurnedN w (wr.drewN nq) b := HN.out.trans (wr_drewN hw.from_.2 nq)
      have hdr' := hdr.drewN nq
      have hgf' : ¬ WrS (wr.drewN nq) b g := hgf
      have hgl' : g < (wr.drewN nq).heap.size := hgl
      clear hw HN hdr hgf hgl hc0 hr HRow hg
      generalize wr.drewN nq = V at *
      by_cases h1 : k = 1
      · subst h1
        rw [if_pos rfl] at HX2 hzX
        have HW := Lib.hid (wu8N_any B b (zs ++ X) x V hw' (by omega))
        go_wp2_with fail
        with_reducible refine HW.out.mono ?_
        rintro e w2 ⟨rfl, hw2, hN2⟩
        rw [List.append_assoc] at hw2
        have hdr2 := hN2.row hdr' (fun q e => by simp [blockOf] at e; subst e; exact hgf')
        have hN3 := hN'.trans hN2
        have hgf2 := hN2.far hgl' hgf'
        clear hN' hN2 hdr' hw' HW hgf'
        by_cases hcap : c1 = 1
        · subst hcap
          obtain rfl : n1 = 1 := by omega
          have hd0 := Hdz.out rfl
          rw [hd0] at HX2
          go_wp2
          go_roundw
          case rel => exact ⟨_, 0, 0, [], _, rfl, by omega, by omega, HX2, Lib.hid (fun f hf => by cases hf), hw2, hN3, Row.empty _ _, Lib.hid (fun q e => by simp [blockOf] at e; subst e; exact hgf2)⟩
          case measure => simp [slLen]
        · go_wp2
          go_roundw
          case rel => exact ⟨_, n1 - 1, c1 - 1, r.drop 1, _, rfl, by omega, by omega, HX2, HIn2, hw2, hN3, hdr2, Lib.hid (fun q e => by simp [blockOf] at e; subst e; exact hgf2)⟩
          case measure => simp [slLen]; omega
      · rw [if_neg h1] at HX2 hzX
        have hor := Hor.out
        have HW := Lib.hid (wu8N_any B b (zs ++ X) (x + 8) V hw' (by omega))
        have hd1 : ((k : Int) == 1) = false := by simp; omega
        go_wp2_with fail
        with_reducible refine HW.out.mono ?_
        rintro e w2 ⟨rfl, hw2, hN2⟩
        have hdr2 := hN2.row hdr' (fun q e => by simp [blockOf] at e; subst e; exact hgf')
        have hN3 := hN'.trans hN2
        have hgf2 := hN2.far hgl' hgf'
        have hgl2 : g < w2.heap.size := Nat.lt_of_lt_of_le hgl' hN2.t.size
        have HW2 := Lib.hid (wu8N_any B b ((zs ++ X) ++ [x + 8]) ((k : Int) - 1) w2 hw2 (by rw [List.length_append]; simp only [List.length_cons, List.length_nil]; omega))
        clear hN' hN2 hdr' hw' HW hgf' hor hw2
        go_wp2_with fail
        with_reducible refine HW2.out.mono ?_
        rintro e w3 ⟨rfl, hw3, hN4⟩
        rw [List.append_assoc, List.append_assoc, List.cons_append, List.nil_append] at hw3
        have hdr3 := hN4.row hdr2 (fun q e => by simp [blockOf] at e; subst e; exact hgf2)
        have hN5 := hN3.trans hN4
        have hgf3 := hN4.far hgl2 hgf2
        clear hN3 hN4 hdr2 HW2 hgf2
        by_cases hcap : c1 = k
        · subst hcap
          obtain rfl : n1 = c1 := by omega
          have hd0 := Hdz.out rfl
          rw [hd0] at HX2
          go_wp2
          go_roundw
          case rel => exact ⟨_, 0, 0, [], _, rfl, by omega, by omega, HX2, Lib.hid (fun f hf => by cases hf), hw3, hN5, Row.empty _ _, Lib.hid (fun q e => by simp [blockOf] at e; subst e; exact hgf3)⟩
          case measure => simp [slLen]; omega
        · go_wp2
          go_roundw
          case rel => exact ⟨_, n1 - k, c1 - k, r.drop k, _, rfl, by omega, by omega, HX2, HIn2, hw3, hN5, hdr3, Lib.hid (fun q e => by simp [blockOf] at e; subst e; exact hgf3)⟩
          case measure => simp [slLen]; omega

set_option maxRecDepth 100000 in
set_option maxHeartbeats 2000000 in
theorem owchanges_any (B b : Nat) (zs : List Int) (A : Option Addr) (n c : Nat) (l : List Int) (w : World) (h : Wr w B b zs) (hr : Row w A n (cellsOf .i64 l)) (hfar : ∀ g, blockOf A = some g → ¬ WrS w b g) (hn : n ≤ 1000000) (hz : zs.length ≤ 3000000) (hin : ∀ d ∈ l, -32768 ≤ d ∧ d ≤ 32767) :
    Calls Try.prog 63 #[.pointer (some ⟨b, 0, none⟩), .slice A n c] w (RetW0 w B b (zs ++ cbs l)) := by
  have Hl := Lib.hid hr.len
  have Hin := Lib.hid hin
  have Hr := Lib.hid hr
  have Hfar := Lib.hid hfar
  have hN := TurnedN.of_below (Below.refl w.heap.size w) h.from_.2
  clear hin hr hfar
  go_enter Try.func63, Try.ntmps63
  go_wp2
  go_loopw [8] (fun i wr => ∃ k : Nat, k ≤ n ∧ i = .int .i64 k ∧ Wr wr B b (zs ++ cbs (l.take k)) ∧ TurnedN w wr b) (fun i _ => n - (intOf i).toNat)
  case atStart => exact ⟨0, Nat.zero_le _, rfl, by simpa [cbs] using h, hN⟩
  case round =>
    clear h hN
    obtain ⟨k, hk, rfl, hw, hN⟩ := hrel
    have hzl : (zs ++ cbs (l.take k)).length ≤ 6000000 := by
      have := cbs_len (l.take k)
      rw [List.length_append]
      rw [List.length_take] at this
      omega
    by_cases hlt : k < n
    · obtain ⟨d, hd⟩ := get_some (zs := l) (k := k) (by have := Hl.out; omega)
      obtain ⟨g, off, rfl, hg, hc⟩ := (hN.row Hr.out Hfar.out).at (cellsOf_get (k := .i64) hd)
      obtain ⟨d0, d1⟩ := Hin.out d (List.mem_of_getElem? hd)
      have HS := Lib.hid (cbs_snoc hd)
      have HSh := Lib.hid (oshort_any d wr)
      have HN := Lib.hid hN
      clear hd hN
      by_cases h0 : d = 0
      · subst h0
        rw [show cb 0 = [] from rfl, List.append_nil] at HS
        rw [← HS.out] at hw
        go_wp2
        go_roundw
        case rel => exact ⟨k + 1, by omega, by go_num, hw, HN.out⟩
        case measure => simp [intOf]; omega
      · have e0 : (d == 0) = false := by simp [h0]
        go_wp2_with fail
        with_reducible refine HSh.out.mono ?_
        rintro e w2 ⟨rfl, rfl⟩
        by_cases hs : -255 ≤ d ∧ d ≤ 255
        · have HV : Hid (cb d = [max d (-d)]) := by show _ = _; unfold cb; rw [if_neg h0, if_pos hs]
          have HB : Hid (shortB d = true) := by show _ = _; rw [shortB_eq, decide_eq_true hs]
          rw [HB.out]
          rw [HV.out] at HS
          obtain ⟨s0, s1⟩ := hs
          have HW := Lib.hid (wu8N_any B b (zs ++ cbs (l.take k)) (max d (-d)) wr hw (by omega))
          clear hw HSh HB HV
          rcases Int.lt_or_le 0 d with hp | hp
          · have hm : max d (-d) = d := by omega
            rw [hm] at HW HS
            clear hm
            go_wp2_with fail
            with_reducible refine HW.out.mono ?_
            rintro e w3 ⟨rfl, hw3, hN3⟩
            rw [List.append_assoc, ← HS.out] at hw3
            have hN4 := HN.out.trans hN3
            clear hN3 HW
            go_wp2
            go_roundw
            case rel => exact ⟨k + 1, by omega, by go_num, hw3, hN4⟩
            case measure => simp [intOf]; omega
          · have hm : max d (-d) = -d := by omega
            rw [hm] at HW HS
            clear hm
            go_wp2_with fail
            with_reducible refine HW.out.mono ?_
            rintro e w3 ⟨rfl, hw3, hN3⟩
            rw [List.append_assoc, ← HS.out] at hw3
            have hN4 := HN.out.trans hN3
            clear hN3 HW
            go_wp2
            go_roundw
            case rel => exact ⟨k + 1, by omega, by go_num, hw3, hN4⟩
            case measure => simp [intOf]; omega
        · have HV : Hid (cb d = b2 (d % 65536)) := by show _ = _; unfold cb; rw [if_neg h0, if_neg hs]
          have HB : Hid (shortB d = false) := by show _ = _; rw [shortB_eq, decide_eq_false hs]
          rw [HB.out]
          rw [HV.out] at HS
          have HW := Lib.hid (wi16N_any B b (zs ++ cbs (l.take k)) d wr hw (by omega))
          clear hw HSh HB HV hs
          go_wp2_with fail
          with_reducible refine HW.out.mono ?_
          rintro e w3 ⟨rfl, hw3, hN3⟩
          rw [List.append_assoc, ← HS.out] at hw3
          have hN4 := HN.out.trans hN3
          clear hN3 HW
          go_wp2
          go_roundw
          case rel => exact ⟨k + 1, by omega, by go_num, hw3, hN4⟩
          case measure => simp [intOf]; omega
    · have HE : Hid (l.take k = l) := List.take_of_length_le (by have := Hl.out; omega)
      rw [HE.out] at hw
      go_wp2
      go_end0
      exact ⟨rfl, hw, hN⟩

end Go.Proofs.Ytdaeffnaoeblpaa
