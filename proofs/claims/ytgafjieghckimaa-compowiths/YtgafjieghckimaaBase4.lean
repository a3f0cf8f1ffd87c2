/- What the laws of this seat lean on: ComE Ints SimA WrBox SimW. -/
import Derived.ProofKit
import Derived.ChangeSame
import Derived.OwnWalk
import Derived.Laws.MakeOwn
import Derived.Deep.RegionHeld3
import Derived.Deep.QuietTactic
import Derived.BigQuiet
import Derived.Deep.DeepCutAuto
import Derived.Maps.AppendAt
import Derived.Test.YtgafjieghckimaaBase1
import Derived.Test.YtgafjieghckimaaBase2
import Derived.Test.YtgafjieghckimaaBase3

/- compo.Same, as a contract over this seat's translation; parts and matrices held against one another. -/
namespace Go.Proofs.Ytgafjieghckimaa
open Go.RowKit
set_option linter.unusedVariables false

def mxL (a b c d : Int) : List Int := [a, b, c, d]
set_option maxRecDepth 100000 in
theorem eq_mxN (a b c d a' b' c' d' : Int) (w : World) : (Op.equalIn 9999 24 (.agg #[.int .i16 a, .int .i16 b, .int .i16 c, .int .i16 d]) (.agg #[.int .i16 a', .int .i16 b', .int .i16 c', .int .i16 d'])).run Try.prog w = .ok (decide ([a, b, c, d] = [a', b', c', d'])) w := by
  simp [go_sem]
  by_cases e0 : a = a'
  case neg => simp [e0]
  subst e0
  by_cases e1 : b = b'
  case neg => simp [e1]
  subst e1
  by_cases e2 : c = c'
  case neg => simp [e2]
  subst e2
  by_cases e3 : d = d'
  case neg => simp [e3]
  subst e3
  simp

set_option maxRecDepth 100000 in
theorem eq_mx (a b c d a' b' c' d' : Int) (w : World) : (Op.equalIn 10000 24 (.agg #[.int .i16 a, .int .i16 b, .int .i16 c, .int .i16 d]) (.agg #[.int .i16 a', .int .i16 b', .int .i16 c', .int .i16 d'])).run Try.prog w = .ok (decide ([a, b, c, d] = [a', b', c', d'])) w := by
  simp [go_sem]
  by_cases e0 : a = a'
  case neg => simp [e0]
  subst e0
  by_cases e1 : b = b'
  case neg => simp [e1]
  subst e1
  by_cases e2 : c = c'
  case neg => simp [e2]
  subst e2
  by_cases e3 : d = d'
  case neg => simp [e3]
  subst e3
  simp

instance : DecidableEq Pt := fun a b => decidable_of_iff ([a.f, a.i, a.x, a.y, a.xx, a.xy, a.yx, a.yy] = [b.f, b.i, b.x, b.y, b.xx, b.xy, b.yx, b.yy]) ⟨fun h => by
  obtain ⟨f, i, x, y, xx, xy, yx, yy⟩ := a
  obtain ⟨f', i', x', y', xx', xy', yx', yy'⟩ := b
  simpa using h, fun h => by rw [h]⟩

set_option maxRecDepth 100000 in
theorem eq_pt (p q : Pt) (w : World) : (Op.equalIn 10000 29 p.val q.val).run Try.prog w = .ok (decide (p = q)) w := by
  obtain ⟨f, i, x, y, xx, xy, yx, yy⟩ := p
  obtain ⟨f', i', x', y', xx', xy', yx', yy'⟩ := q
  simp [go_sem, Pt.val, Pt.cells]
  by_cases e0 : f = f'
  case neg => simp [e0]
  subst e0
  by_cases e1 : i = i'
  case neg => simp [e1]
  subst e1
  by_cases e2 : x = x'
  case neg => simp [e2]
  subst e2
  by_cases e3 : y = y'
  case neg => simp [e3]
  subst e3
  by_cases e4 : xx = xx'
  case neg => simp [e4]
  subst e4
  by_cases e5 : xy = xy'
  case neg => simp [e5]
  subst e5
  by_cases e6 : yx = yx'
  case neg => simp [e6]
  subst e6
  by_cases e7 : yy = yy'
  case neg => simp [e7]
  subst e7
  simp

/-- Are two lists of parts alike? -/
def samePts (a b : List Pt) : Bool := decide (a = b)

set_option maxRecDepth 100000 in
set_option maxHeartbeats 1000000 in
theorem equalPt_any (A B : Option Addr) (n c m d : Nat) (xs ys : List Pt) (w : World) (hx : RowS encPt 8 w A n xs) (hy : RowS encPt 8 w B m ys) (hl : n ≤ 1000000) (hl' : m ≤ 1000000) :
    Calls Try.prog 66 #[.slice A n c, .slice B m d] w (Quiet w (.bool (samePts xs ys))) := by
  have Hx := Lib.hid hx.len
  have Hy := Lib.hid hy.len
  by_cases hnm : n = m
  · subst hnm
    have hne : ((n : Int) != (n : Int)) = false := by simp
    go_enter Try.func66, Try.ntmps66
    go_wp2
    clear hne
    go_loopw [13] (fun i wr => ∃ k q : Nat, k ≤ n ∧ i = .int .i64 k ∧ xs.take k = ys.take k ∧ wr = w.drewN q) (fun i _ => n - (intOf i).toNat)
    case atStart => exact ⟨0, 0, Nat.zero_le _, rfl, by simp, rfl⟩
    case round =>
      obtain ⟨k, q, hk, rfl, hp, rfl⟩ := hrel
      have Hp := Lib.hid hp
      clear hp
      by_cases hlt : k < n
      · obtain ⟨x, ex⟩ : ∃ p, xs[k]? = some p := ⟨xs[k]'(by have := Hx.out; omega), List.getElem?_eq_getElem (by have := Hx.out; omega)⟩
        obtain ⟨y, ey⟩ : ∃ p, ys[k]? = some p := ⟨ys[k]'(by have := Hy.out; omega), List.getElem?_eq_getElem (by have := Hy.out; omega)⟩
        obtain ⟨g, off, rfl, hg, q0, q1, q2, q3, q4, q5, q6, q7⟩ := atPt hx ex
        obtain ⟨g', off', rfl, hg', r0, r1, r2, r3, r4, r5, r6, r7⟩ := atPt hy ey
        have Ex := Lib.hid ex
        have Ey := Lib.hid ey
        have i0 : (0 : Int) ≤ (k : Int) := by omega
        have i1 : (k : Int) < (n : Int) := by omega
        clear ex ey
        have heq := fun W => eq_pt x y W
        unfold Pt.val Pt.cells at heq
        by_cases he : x = y
        · rw [decide_eq_true he] at heq
          clear he
          obtain ⟨a0, a1, a2, a3, a4, a5, a6, a7⟩ := x
          obtain ⟨b0, b1, b2, b3, b4, b5, b6, b7⟩ := y
          have hxy : Hid ((⟨a0, a1, a2, a3, a4, a5, a6, a7⟩ : Pt) = ⟨b0, b1, b2, b3, b4, b5, b6, b7⟩) := by
            show _ = _
            have h2 := (eq_pt ⟨a0, a1, a2, a3, a4, a5, a6, a7⟩ ⟨b0, b1, b2, b3, b4, b5, b6, b7⟩ w).symm.trans (heq w)
            simpa using h2
          simp only at *
          go_wp2
          go_quiet (fail)
          go_wp2
          go_roundw
          case rel => exact ⟨k + 1, _, by omega, by go_num, by rw [List.take_add_one, List.take_add_one, Ex.out, Ey.out, Hp.out, hxy.out], by first | rfl | (rw [World.drewN_drewN])⟩
          case measure => simp [intOf]; omega
        · have hf : Hid (samePts xs ys = false) := by
            show _ = _
            unfold samePts
            rw [decide_eq_false_iff_not]
            rintro rfl
            have e1 := Ex.out
            rw [Ey.out] at e1
            exact he (Option.some.inj e1).symm
          rw [decide_eq_false he] at heq
          clear he
          obtain ⟨a0, a1, a2, a3, a4, a5, a6, a7⟩ := x
          obtain ⟨b0, b1, b2, b3, b4, b5, b6, b7⟩ := y
          simp only at *
          go_wp2
          go_quiet (fail)
          go_wp2
          go_ret
          exact ⟨by rw [hf.out]; rfl, _, by first | rfl | (rw [World.drewN_drewN])⟩
      · go_wp2
        go_ret
        refine ⟨?_, q, rfl⟩
        have hp := Hp.out
        rw [List.take_of_length_le (by have := Hx.out; omega), List.take_of_length_le (by have := Hy.out; omega)] at hp
        have hf : samePts xs ys = true := by unfold samePts; simp [hp]
        rw [hf]
        rfl
  · have hne : ((n : Int) != (m : Int)) = true := by simp; omega
    have hf : samePts xs ys = false := by
      unfold samePts
      rw [decide_eq_false_iff_not]
      rintro rfl
      have h1 := Hx.out
      have h2 := Hy.out
      omega
    go_enter Try.func66, Try.ntmps66
    go_wp2
    go_ret
    exact ⟨by rw [hf]; rfl, 0, rfl⟩

def sameCBox (a b : Cg) : Bool := decide ([a.x0, a.x1, a.x2, a.x3] = [b.x0, b.x1, b.x2, b.x3])
def cgSame (a b : Cg) : Bool := sameCBox a b && samePts a.ps b.ps && sameB a.pr b.pr
theorem cgSame_refl (g : Cg) : cgSame g g = true := by simp [cgSame, sameCBox, sameB, samePts]
theorem cgSame_eq {a b : Cg} (h : cgSame a b = true) : a = b := by
  obtain ⟨x0, x1, x2, x3, ps, pr⟩ := a
  obtain ⟨y0, y1, y2, y3, qs, qr⟩ := b
  simp [cgSame, sameCBox, sameB, samePts] at h
  simp [h]

set_option maxRecDepth 100000 in
theorem run_eq_cbox (x0 x1 x2 x3 y0 y1 y2 y3 : Int) (w : World) : (binOp .eql 31 (.agg #[.int .i16 x0, .int .i16 x1, .int .i16 x2, .int .i16 x3]) (.agg #[.int .i16 y0, .int .i16 y1, .int .i16 y2, .int .i16 y3])).run Try.prog w = .ok (.bool (decide ([x0, x1, x2, x3] = [y0, y1, y2, y3]))) w := by
  have h := run_equalIn_ints (P := Try.prog) w 9998 31 22 4 .i16 .i16 [x0, x1, x2, x3] [y0, y1, y2, y3] Try.underlying31 Try.underlying22 (by simp [go_sem]) (by simp [go_sem]) rfl rfl
  change (Op.equalIn 10000 31 (.agg #[.int .i16 x0, .int .i16 x1, .int .i16 x2, .int .i16 x3]) (.agg #[.int .i16 y0, .int .i16 y1, .int .i16 y2, .int .i16 y3])).run Try.prog w = _ at h
  rw [run_eql_struct, h]
  rfl

set_option maxRecDepth 100000 in
set_option maxHeartbeats 2000000 in
theorem csame_any (a b : CgV) (w : World) (ha : a.rows w) (hb : b.rows w) (a1 : a.q ≤ 1000000) (a2 : a.pn ≤ 1000000) (b1 : b.q ≤ 1000000) (b2 : b.pn ≤ 1000000) (ha3 : Bytes a.g.pr) (hb3 : Bytes b.g.pr) :
    Calls Try.prog 27 #[a.val, b.val] w (Ret w (.bool (cgSame a.g b.g))) := by
  have hA1 := (Below.refl w.heap.size w).alloc (Nat.le_refl _) (.cells a.cells 34)
  have hA := hA1.alloc (hA1.size) (.cells b.cells 34)
  have HE : Hid (∀ W, Below w.heap.size w W → Calls Try.prog 66 #[.slice a.QA a.q a.qc, .slice b.QA b.q b.qc] W (Quiet W (.bool (samePts a.g.ps b.g.ps)))) := fun W hW => equalPt_any _ _ _ _ _ _ _ _ W (ha.ps.below hW) (hb.ps.below hW) a1 b1
  have HP : Hid (∀ W, Below w.heap.size w W → Calls Try.prog 67 #[.slice a.PA a.pn a.pc, .slice b.PA b.pn b.pc] W (Quiet W (.bool (sameB a.g.pr b.g.pr)))) := fun W hW => (equal_any _ _ _ a.pc _ b.pc _ _ W (ha.pr.below hW) (hb.pr.below hW) ha3 hb3).mono fun e w' h => ⟨h.1, 0, h.2.symm⟩
  clear ha hb a1 a2 b1 b2 hA1 ha3 hb3
  unfold CgV.val cgSame sameCBox at *
  unfold CgV.cells at *
  obtain ⟨⟨x0, x1, x2, x3, ps, pr⟩, QA, q, qc, PA, pn, pc⟩ := a
  obtain ⟨⟨y0, y1, y2, y3, qs, qr⟩, TA, t, tc, RA, rn, rc⟩ := b
  simp only at *
  have eb := fun W => run_eq_cbox x0 x1 x2 x3 y0 y1 y2 y3 W
  cases hbx : decide ([x0, x1, x2, x3] = [y0, y1, y2, y3]) with
  | false =>
    rw [hbx] at eb
    clear hbx HE HP
    go_enter Try.func27, Try.ntmps27
    go_wp2
    go_ret
    exact ⟨rfl, hA⟩
  | true =>
    rw [hbx] at eb
    clear hbx
    go_enter Try.func27, Try.ntmps27
    go_wp2_with fail
    have H1 := Lib.hid (HE.out _ hA)
    clear HE
    with_reducible refine H1.out.mono ?_
    rintro e w1 ⟨rfl, q1, rfl⟩
    have hA2 := below_drewN hA q1
    clear H1 hA
    cases h1 : samePts ps qs with
    | false =>
      clear HP
      go_wp2
      go_ret
      exact ⟨by simp [h1], hA2⟩
    | true =>
      go_wp2_with fail
      have H2 := Lib.hid (HP.out _ hA2)
      clear HP
      with_reducible refine H2.out.mono ?_
      rintro e w1 ⟨rfl, q2, rfl⟩
      have hA3 := below_drewN hA2 q2
      rw [World.drewN_drewN] at hA3
      clear H2 hA2
      cases h2 : sameB pr qr
      all_goals
        go_wp2
        go_ret
        exact ⟨by simp [h1, h2], hA3⟩

end Go.Proofs.Ytgafjieghckimaa

/- Words for slices of numbers of any kind: what comes in, make, a store, slices.Equal of ints. -/
namespace Go.Proofs.Ytgafjieghckimaa
open Go.RowKit Go.ChangeShapes Go.WideShapes Go.ChangeAt
set_option linter.unusedVariables false

/-- All are numbers of the kind. -/
def Wf (k : IntKind) (zs : List Int) : Prop := ∀ x ∈ zs, (Lit.int k x).wf = true

set_option maxRecDepth 100000 in
theorem open_nums {T e : TypeId} {k : IntKind} (hT : Try.prog.underlying T = some (.slice e)) (he : Try.prog.underlying e = some (.int k)) (h1 : Try.prog.cellsOf e = 1) {H : Type} {enc : TypeId × Value → H} {W : World} {base : Nat} {v : Value} {d : DataW H} {p : List MemPlace} (hv : Value.okWide Try.prog W .any base T v) (h : DataW.Trod enc Try.prog W 0 (fun _ => true) true T v d p) :
    ∃ A n c zs, v = .slice A n c ∧ Row W A n (cellsOf k zs) ∧ Wf k zs ∧ n ≤ 9223372036854775807 ∧ n ≤ c := by
  obtain ⟨a, len, cap, rfl⟩ := okWide_slice hT hv
  obtain ⟨fuel, hf⟩ := h
  have key : ∃ zs, (a = none ∧ len = 0 ∧ cap = 0 ∧ zs = []) ∨ ∃ x, a = some x ∧ len ≤ cap ∧ cap ≤ maxLen ∧ zs.length = cap ∧ (∀ i, i < zs.length → W.cell? (x.add i) = some (.int k (zs.getD i 0))) ∧ ∀ n ∈ zs, (Lit.int k n).wf = true := by
    rcases open_ints hT he h1 hf with ⟨hcs, _⟩ | ⟨x, l, c, zs, hcs, _, hl, hm, hz, _, hcell, hwz⟩
    · simp [Value.cells] at hcs
      obtain ⟨rfl, rfl, rfl⟩ := hcs
      exact ⟨[], .inl ⟨rfl, rfl, rfl, rfl⟩⟩
    · simp [Value.cells] at hcs
      obtain ⟨rfl, rfl, rfl⟩ := hcs
      exact ⟨zs, .inr ⟨_, rfl, hl, hm, by simpa using hz, hcell, hwz⟩⟩
  obtain ⟨zs, w0⟩ := key
  refine ⟨a, len, cap, zs.take len, rfl, (row_of w0).1, (row_of w0).2.2, (row_of w0).2.1, ?_⟩
  rcases w0 with ⟨_, h1, h2, _⟩ | ⟨_, _, h, _⟩
  · omega
  · exact h

theorem cellsOf_set (k : IntKind) (zs : List Int) (j : Nat) (x : Int) : cellsOf k (zs.set j x) = (cellsOf k zs).set j (.int k x) := by simp [cellsOf, List.map_set]

section
variable {t : TypeId} {k : IntKind} {w : World} {B g n c : Nat} {zs : List Int}

theorem Own.thaw (h : Own t k w B (some ⟨g, 0, none⟩) n c zs) (o : Nat) : w.frozen? ⟨g, o, none⟩ = false := by
  rcases h.shape with ⟨e, _⟩ | ⟨g', cur, e, _, _, hh, _⟩
  · cases e
  · simp only [Option.some.injEq, Addr.mk.injEq, and_true] at e
    subst e
    simp [World.frozen?, hh]

theorem Own.block (h : Own t k w B (some ⟨g, 0, none⟩) n c zs) : ∃ cur, w.heap[g]? = some (.cells cur t (0, 0)) := by
  rcases h.shape with ⟨e, _⟩ | ⟨g', cur, e, _, _, hh, _⟩
  · cases e
  · simp only [Option.some.injEq, Addr.mk.injEq, and_true] at e
    subst e
    exact ⟨cur, hh⟩

/-- A store into a fresh row of numbers. -/
theorem Own.set (h : Own t k w B (some ⟨g, 0, none⟩) n c zs) (j : Nat) (x : Int) : Own t k (w.setCell ⟨g, j, none⟩ (.int k x)) B (some ⟨g, 0, none⟩) n c (zs.set j x) := by
  rcases h.shape with ⟨e, _⟩ | ⟨g', cur, e, hB, hg, hh, h1, h2, h3, h4⟩
  · cases e
  · simp only [Option.some.injEq, Addr.mk.injEq, and_true] at e
    subst e
    have hl := h.len
    refine ⟨by rw [cellsOf_length, List.length_set, hl]; omega, .inr ⟨g, c, cur.setIfInBounds j (.int k x), rfl, hB, ?_, h1, h2, by simpa using h3, ?_⟩⟩
    · simp [World.setCell, Array.getElem?_modify, hh]
    · rw [cellsOf_set, ← h4, Nat.mul_one]
      simp [List.take_set]
end

/-- 'make([]T, n, m)' for numbers. -/
theorem wpList_make_ints {P : Program} {w : World} {ops : Array Oper} {rest : List Oper} {o : Oper} {a : Act} {Q : Exit → Act → World → Prop} (hg : o.guard = none) (l c : Operand) (T : TypeId) (hop : o.op = Op.makeSlice T l c)
    (t : TypeId) (k : IntKind) (B : Nat) (i : TypeInfo) (b : Nat) (h1 : P.underlying T = some (.slice t)) (h2 : P.info? t = some i) (h3 : i.zero = some (.int k 0)) (h4 : i.size = 1) (h5 : i.bytes = b)
    (L C : Int) (n m : Nat) (hl : a.eval l = .int .i64 L) (hc : a.eval c = .int .i64 C) (hL : L = (n : Int)) (hC : C = (m : Int)) (hnm : n ≤ m) (b2 : b * m ≤ 281474976710656) (b3 : m ≤ 9223372036854775807) (b4 : B ≤ w.heap.size)
    (hK : ∀ w', Own t k w' B (some ⟨w.heap.size, 0, none⟩) n m (List.replicate n 0) → w.grownBy w' none → wpList P ops Q rest (a.put o.dst (.slice (some ⟨w.heap.size, 0, none⟩) n m)) w') : wpList P ops Q (o :: rest) a w := by
  refine wpList_plain hg fun K hK' => ?_
  subst hL hC h5
  have hb' : (i.bytes : Int) * (m : Int) ≤ 281474976710656 := by
    have h : ((i.bytes * m : Nat) : Int) ≤ 281474976710656 := by omega
    rwa [Int.natCast_mul] at h
  have hr := run_make (P := P) w T t i (.int k 0) h1 h2 h3 .i64 .i64 n m (by omega) (by omega) hb' (by omega)
  simp only [Int.toNat_natCast, h4, Nat.mul_one] at hr
  unfold Oper.wp
  simp [execOp, hop, hl, hc, hr, Result.andThen]
  refine hK' _ _ (hK _ ?_ (World.grownBy_alloc w _ none))
  refine ⟨by rw [cellsOf_length, List.length_replicate]; omega, .inr ⟨w.heap.size, m, _, rfl, b4, heap_alloc_new w _, hnm, by simp only [maxLen]; omega, by rw [size_madeCells, Nat.mul_one], ?_⟩⟩
  rw [Nat.mul_one]
  apply List.ext_getElem?
  intro j
  by_cases hj : j < n
  · simp [madeCells, cellsOf, hj, Nat.mod_one, Value.cells, show j < m by omega]
  · simp [List.getElem?_take, hj, cellsOf]

theorem Try.i64info : (Try.prog.info? 3).map (fun i => (i.zero, i.size, i.bytes)) = some (some (.int .i64 0), 1, 8) := by kernel_rfl

/-- What a call that tells fresh numbers, or that there are none, leaves. -/
def RetPl (w : World) (ok : Bool) (zs : List Int) (bad good : Value) (e : Ending) (w' : World) : Prop :=
  Below w.heap.size w w' ∧ ((ok = false ∧ e = .returned (.tuple #[.slice none 0 0, bad])) ∨ (ok = true ∧ ∃ A n c, e = .returned (.tuple #[.slice A n c, good]) ∧ Own 3 .i64 w' w.heap.size A n c zs))

end Go.Proofs.Ytgafjieghckimaa

/- simple: its small functions, changes and Right, as contracts over this seat's translation. -/
namespace Go.Proofs.Ytgafjieghckimaa
open Go.RowKit
set_option linter.unusedVariables false

def encSp (p : Sp) : List Value := [.int .i16 p.1, .int .i16 p.2.1, .bool p.2.2]
theorem encSp_len (p : Sp) : (encSp p).length = 3 := rfl
theorem encSp_one (p : Sp) : ∀ u ∈ encSp p, u.oneCell' = true := by intro u hu; simp [encSp] at hu; rcases hu with rfl | rfl | rfl <;> rfl
theorem Try.spinfo : (Try.prog.info? 83).map (fun i => (i.zero, i.size, i.bytes)) = some (some (.agg #[.int .i16 0, .int .i16 0, .bool false]), 3, 6) := by kernel_rfl

theorem atSp {w : World} {A : Option Addr} {n : Nat} {l : List Sp} {j : Nat} {x : Sp} (h : RowS encSp 3 w A n l) (hj : l[j]? = some x) :
    ∃ g off, A = some ⟨g, off, none⟩ ∧ g < w.heap.size ∧ w.cell? ⟨g, off + j * 3, none⟩ = some (.int .i16 x.1) ∧ w.cell? ⟨g, off + j * 3 + 1, none⟩ = some (.int .i16 x.2.1) ∧ w.cell? ⟨g, off + j * 3 + 2, none⟩ = some (.bool x.2.2) := by
  obtain ⟨g, off, e, hg, hc⟩ := h.at encSp_len (by omega) hj
  exact ⟨g, off, e, hg, hc 0 _ rfl, hc 1 _ rfl, hc 2 _ rfl⟩

/-- All numbers of an outline are of their kinds. -/
structure Gl.ok (g : Gl) : Prop where
  bx : ∀ x ∈ g.box, -32768 ≤ x ∧ x ≤ 32767
  es : ∀ x ∈ g.es, 0 ≤ x ∧ x < 65536
  pr : Bytes g.pr
  ps : ∀ p ∈ g.ps, (-32768 ≤ p.1 ∧ p.1 ≤ 32767) ∧ (-32768 ≤ p.2.1 ∧ p.2.1 ≤ 32767)

/-- An outline as a value, and where its lists lie. -/
structure GlV where
  g : Gl
  EA : Option Addr
  en : Nat
  ec : Nat
  PA : Option Addr
  pn : Nat
  pc : Nat
  SA : Option Addr
  sn : Nat
  sc : Nat
def GlV.cells (v : GlV) : Array Value := #[.int .i16 v.g.x0, .int .i16 v.g.x1, .int .i16 v.g.x2, .int .i16 v.g.x3, .slice v.EA v.en v.ec, .slice v.PA v.pn v.pc, .slice v.SA v.sn v.sc]
def GlV.val (v : GlV) : Value := .agg v.cells
structure GlV.rows (w : World) (v : GlV) : Prop where
  es : Row w v.EA v.en (cellsOf .u16 v.g.es)
  pr : Row w v.PA v.pn (cellsOf .u8 v.g.pr)
  ps : RowS encSp 3 w v.SA v.sn v.g.ps
theorem GlV.rows.below {w w' : World} {v : GlV} (h : v.rows w) (hb : Below w.heap.size w w') : v.rows w' := ⟨h.es.below hb, h.pr.below hb, h.ps.below hb⟩
/-- None of the lists is too long. -/
structure GlV.few (v : GlV) : Prop where
  en : v.en ≤ 10000
  pn : v.pn ≤ 10000
  sn : v.sn ≤ 10000

theorem ofits_any (d : Int) (w : World) : Calls Try.prog 77 #[.int .i64 d] w fun e w' => e = .returned (.bool (fitsB d)) ∧ w = w' := by
  unfold fitsB
  cases h1 : decide (-32768 ≤ d) <;> cases h2 : decide (d ≤ 32767)
  all_goals
    go_enter Try.func77, Try.ntmps77
    go_wp2
    go_ret
    exact ⟨rfl, rfl⟩

theorem ofar_any (d : Int) (w : World) : Calls Try.prog 76 #[.int .i64 d] w fun e w' => e = .returned (.bool (!fitsB d)) ∧ w = w' := by
  have H := Lib.hid (ofits_any d w)
  go_enter Try.func76, Try.ntmps76
  go_wp2_with fail
  refine H.out.mono ?_
  rintro e w' ⟨rfl, rfl⟩
  cases hb : fitsB d
  all_goals
    go_wp2
    go_ret
    exact ⟨by rw [hb]; rfl, rfl⟩

def shortB (d : Int) : Bool := decide (-255 ≤ d) && decide (d ≤ 255)
theorem oshort_any (d : Int) (w : World) : Calls Try.prog 108 #[.int .i64 d] w fun e w' => e = .returned (.bool (shortB d)) ∧ w = w' := by
  unfold shortB
  cases h1 : decide (-255 ≤ d) <;> cases h2 : decide (d ≤ 255)
  all_goals
    go_enter Try.func108, Try.ntmps108
    go_wp2
    go_ret
    exact ⟨rfl, rfl⟩
theorem shortB_eq (d : Int) : shortB d = decide (-255 ≤ d ∧ d ≤ 255) := by
  unfold shortB
  by_cases h1 : -255 ≤ d <;> by_cases h2 : d ≤ 255 <;> simp [h1, h2]

theorem obits_any (d sh pl : Int) (w : World) (hor : bits .or .u8 sh pl = sh + pl) : Calls Try.prog 82 #[.int .i64 d, .int .u8 sh, .int .u8 pl] w fun e w' => e = .returned (.int .u8 (bitsV d sh pl)) ∧ w = w' := by
  have H := Lib.hid (oshort_any d w)
  have Hor := Lib.hid hor
  clear hor
  by_cases h0 : d = 0
  · have HV : Hid (bitsV d sh pl = pl) := by show _ = _; unfold bitsV; rw [if_pos h0]
    rw [HV.out]
    have hd : (d == 0) = true := by simp [h0]
    clear h0
    go_enter Try.func82, Try.ntmps82
    go_wp2
    go_ret
    exact ⟨rfl, rfl⟩
  · have hd : (d == 0) = false := by simp [h0]
    by_cases hs : -255 ≤ d ∧ d ≤ 255
    · have HS : Hid (shortB d = true) := by show _ = _; rw [shortB_eq, decide_eq_true hs]
      by_cases hp : 0 < d
      · have HV : Hid (bitsV d sh pl = sh + pl) := by show _ = _; unfold bitsV; rw [if_neg h0, if_pos hs, if_pos hp]
        rw [HV.out]
        clear hs h0
        go_enter Try.func82, Try.ntmps82
        go_wp2_with fail
        refine H.out.mono ?_
        rintro e w' ⟨rfl, rfl⟩
        rw [HS.out]
        go_wp2
        go_ret
        rw [Hor.out]
        exact ⟨rfl, rfl⟩
      · have HV : Hid (bitsV d sh pl = sh) := by show _ = _; unfold bitsV; rw [if_neg h0, if_pos hs, if_neg hp]
        rw [HV.out]
        clear hs h0
        go_enter Try.func82, Try.ntmps82
        go_wp2_with fail
        refine H.out.mono ?_
        rintro e w' ⟨rfl, rfl⟩
        rw [HS.out]
        go_wp2
        go_ret
        exact ⟨rfl, rfl⟩
    · have HS : Hid (shortB d = false) := by show _ = _; rw [shortB_eq, decide_eq_false hs]
      have HV : Hid (bitsV d sh pl = 0) := by show _ = _; unfold bitsV; rw [if_neg h0, if_neg hs]
      rw [HV.out]
      clear hs h0
      go_enter Try.func82, Try.ntmps82
      go_wp2_with fail
      refine H.out.mono ?_
      rintro e w' ⟨rfl, rfl⟩
      rw [HS.out]
      go_wp2
      go_ret
      exact ⟨rfl, rfl⟩

theorem oalongX_any (p : Sp) (w : World) : Calls Try.prog 80 #[.agg #[.int .i16 p.1, .int .i16 p.2.1, .bool p.2.2]] w (Ret w (.int .i16 p.1)) := by
  obtain ⟨x, y, o⟩ := p
  have hA := (Below.refl w.heap.size w).alloc (Nat.le_refl _) (.cells #[.int .i16 x, .int .i16 y, .bool o] 83)
  go_enter Try.func80, Try.ntmps80
  go_wp2
  go_ret
  exact ⟨rfl, hA⟩
theorem oalongY_any (p : Sp) (w : World) : Calls Try.prog 81 #[.agg #[.int .i16 p.1, .int .i16 p.2.1, .bool p.2.2]] w (Ret w (.int .i16 p.2.1)) := by
  obtain ⟨x, y, o⟩ := p
  have hA := (Below.refl w.heap.size w).alloc (Nat.le_refl _) (.cells #[.int .i16 x, .int .i16 y, .bool o] 83)
  go_enter Try.func81, Try.ntmps81
  go_wp2
  go_ret
  exact ⟨rfl, hA⟩

set_option maxHeartbeats 1000000 in
theorem orise_any (A : Option Addr) (n c : Nat) (l : List Int) (w : World) (hr : Row w A n (cellsOf .u16 l)) (hn : n ≤ 1000000) :
    Calls Try.prog 74 #[.slice A n c] w fun e w' => e = .returned (.bool (riseN l n)) ∧ w = w' := by
  have Hl := Lib.hid hr.len
  go_enter Try.func74, Try.ntmps74
  go_wp2
  go_loop [7] (fun i => ∃ k : Nat, k ≤ n ∧ i = .int .i64 k ∧ Hid (riseN l k = true)) (fun i => n - (intOf i).toNat)
  case atStart => exact ⟨0, Nat.zero_le _, rfl, Lib.hid rfl⟩
  case round =>
    obtain ⟨k, hk, rfl, HR⟩ := hrel
    by_cases hlt : k < n
    · obtain ⟨x, hx⟩ := get_some (zs := l) (k := k) (by have := Hl.out; omega)
      obtain ⟨g, off, rfl, hg, hc⟩ := hr.at (cellsOf_get (k := .u16) hx)
      rcases Nat.eq_zero_or_pos k with h0 | h0
      · subst h0
        have HT : Hid (riseN l (0 + 1) = true) := by show _ = _; rw [riseN_succ, HR.out]; rfl
        rw [Nat.add_zero] at hc
        clear hx HR
        go_wp2
        go_round
        case rel => exact ⟨1, by omega, by go_num, HT⟩
        case measure => simp [intOf]; omega
      · obtain ⟨m, rfl⟩ : ∃ m, k = m + 1 := ⟨k - 1, by omega⟩
        obtain ⟨y, hy⟩ := get_some (zs := l) (k := m) (by have := Hl.out; omega)
        obtain ⟨g', off', e', _, hc'⟩ := hr.at (cellsOf_get (k := .u16) hy)
        simp only [Option.some.injEq, Addr.mk.injEq, and_true] at e'
        obtain ⟨rfl, rfl⟩ := e'
        have e2 : ((m : Int) + 1 - 1) = (m : Int) := by omega
        have HA : Hid (riseA l (m + 1) = decide (y < x)) := by
          show _ = _
          unfold riseA
          rw [decide_eq_false (by omega), Bool.false_or, List.getD_eq_getElem?_getD, List.getD_eq_getElem?_getD, hx, Nat.add_sub_cancel, hy]
          rfl
        clear hx hy
        by_cases hxy : x ≤ y
        · have HF : Hid (riseN l n = false) := riseN_not (by rw [HA.out, decide_eq_false (by omega)]) hlt
          clear HA HR
          go_wp2
          go_ret
          exact ⟨by rw [HF.out]; rfl, rfl⟩
        · have HT : Hid (riseN l (m + 1 + 1) = true) := by show _ = _; rw [riseN_succ, HR.out, HA.out, decide_eq_true (by omega)]; rfl
          clear HA HR
          go_wp2
          go_round
          case rel => exact ⟨m + 1 + 1, by omega, by go_num, HT⟩
          case measure => simp [intOf]; omega
    · obtain rfl : k = n := by omega
      go_wp2
      go_ret
      exact ⟨by rw [HR.out]; rfl, rfl⟩

set_option maxHeartbeats 1000000 in
theorem ocount_any (v : GlV) (w : World) (hr : v.rows w) (hn : v.en ≤ 1000000) (hes : ∀ x ∈ v.g.es, 0 ≤ x ∧ x < 65536) :
    Calls Try.prog 75 #[v.val] w (Ret w (.int .i64 (cntE v.g.es : Nat))) := by
  have hA := (Below.refl w.heap.size w).alloc (Nat.le_refl _) (.cells v.cells 79)
  have hre := hr.es
  have Hl := Lib.hid hre.len
  unfold GlV.val GlV.cells
  unfold GlV.cells at hA
  clear hr
  obtain ⟨⟨x0, x1, x2, x3, es, pr, ps⟩, EA, en, ec, PA, pn, pc, SA, sn, sc⟩ := v
  simp only at *
  rcases Nat.eq_zero_or_pos en with h0 | h0
  · subst h0
    have HC : Hid (cntE es = 0) := by show _ = _; unfold cntE; rw [if_pos Hl.out]
    rw [HC.out]
    go_enter Try.func75, Try.ntmps75
    go_wp2
    go_ret
    exact ⟨rfl, hA⟩
  · obtain ⟨m, rfl⟩ : ∃ m, en = m + 1 := ⟨en - 1, by omega⟩
    obtain ⟨x, hx⟩ := get_some (zs := es) (k := m) (by have := Hl.out; omega)
    obtain ⟨g, off, rfl, hg, hc⟩ := hre.at (cellsOf_get (k := .u16) hx)
    obtain ⟨b0, b1⟩ := hes x (List.mem_of_getElem? hx)
    have HC : Hid (((cntE es : Nat) : Int) = x + 1) := by
      show _ = _
      unfold cntE
      rw [if_neg (by have := Hl.out; omega), List.getD_eq_getElem?_getD, show es.length - 1 = m by have := Hl.out; omega, hx]
      simp
      omega
    rw [HC.out]
    have e2 : ((m : Int) + 1 - 1) = (m : Int) := by omega
    have hd : ((m : Int) + 1 == 0) = false := by simp; omega
    have hgn : g ≠ w.heap.size := by omega
    clear hx hes hre
    go_enter Try.func75, Try.ntmps75
    go_wp2
    go_ret
    exact ⟨rfl, hA⟩

set_option maxHeartbeats 1000000 in
theorem oindex_any (A : Option Addr) (n c : Nat) (l : List Int) (w : World) (hr : Row w A n (cellsOf .i64 l)) (hn : n ≤ 1000000) :
    Calls Try.prog 107 #[.slice A n c, .func (.func 76) #[] #[]] w fun e w' => (∃ r : Int, e = .returned (.int .i64 r) ∧ decide (0 ≤ r) = !fitL l) ∧ w = w' := by
  have Hl := Lib.hid hr.len
  have eg : ∀ args w, (callFunc 76 args).run Try.prog w = .ok (.enter 76 args) w := enters_of Try.func76 (by kernel_rfl) rfl
  go_enter Try.func107, Try.ntmps107
  go_wp2
  go_loop [8] (fun i => ∃ k : Nat, k ≤ n ∧ i = .int .i64 k ∧ Hid (fitL (l.take k) = true)) (fun i => n - (intOf i).toNat)
  case atStart => exact ⟨0, Nat.zero_le _, rfl, Lib.hid rfl⟩
  case round =>
    obtain ⟨k, hk, rfl, HR⟩ := hrel
    by_cases hlt : k < n
    · obtain ⟨x, hx⟩ := get_some (zs := l) (k := k) (by have := Hl.out; omega)
      obtain ⟨g, off, rfl, hg, hc⟩ := hr.at (cellsOf_get (k := .i64) hx)
      have HS : Hid (fitL (l.take (k + 1)) = fitsB x) := by
        have h1 := HR.out
        show _ = _
        unfold fitL at *
        rw [List.take_add_one, hx, List.all_append, h1]
        simp
      have HN : Hid (fitsB x = false → fitL l = false) := fun h => by
        unfold fitL
        rw [List.all_eq_false]
        exact ⟨x, List.mem_of_getElem? hx, by rw [h]; simp⟩
      have HF := Lib.hid (ofar_any x w)
      clear hx HR
      go_wp2_with fail
      refine HF.out.mono ?_
      rintro e w' ⟨rfl, rfl⟩
      cases hb : fitsB x with
      | false =>
        have HN2 := Lib.hid (HN.out hb)
        clear HN HS hb HF
        go_wp2
        go_ret
        exact ⟨⟨k, rfl, by rw [HN2.out]; simp⟩, rfl⟩
      | true =>
        rw [hb] at HS
        clear HN hb HF
        go_wp2
        go_round
        case rel => exact ⟨k + 1, by omega, by go_num, HS⟩
        case measure => simp [intOf]; omega
    · obtain rfl : k = n := by omega
      rw [List.take_of_length_le (by have := Hl.out; omega)] at HR
      go_wp2
      go_ret
      exact ⟨⟨-1, rfl, by rw [HR.out]; rfl⟩, rfl⟩

theorem ocontains_any (A : Option Addr) (n c : Nat) (l : List Int) (w : World) (hr : Row w A n (cellsOf .i64 l)) (hn : n ≤ 1000000) :
    Calls Try.prog 78 #[.slice A n c, .func (.func 76) #[] #[]] w fun e w' => e = .returned (.bool (!fitL l)) ∧ w = w' := by
  have H := Lib.hid (oindex_any A n c l w hr hn)
  go_enter Try.func78, Try.ntmps78
  go_wp2_with fail
  refine H.out.mono ?_
  rintro e w' ⟨⟨r, rfl, hd⟩, rfl⟩
  have HD := Lib.hid hd
  clear hd
  go_wp2
  go_ret
  rw [← HD.out]
  exact ⟨rfl, rfl⟩

/-- The number ahead. -/
def ahd (xs : List Int) (k : Nat) : Int := if k = 0 then 0 else xs.getD (k - 1) 0

set_option maxRecDepth 100000 in
set_option maxHeartbeats 2000000 in
theorem ochanges_any (f : Nat) (val : Sp → Int) (eg : ∀ args w, (callFunc f args).run Try.prog w = .ok (.enter f args) w) (hf : ∀ (x : Sp) (W : World), Calls Try.prog f #[.agg #[.int .i16 x.1, .int .i16 x.2.1, .bool x.2.2]] W (Ret W (.int .i16 (val x))))
    (v : GlV) (w : World) (hr : v.rows w) (hn : v.sn ≤ 1000000) (hb : ∀ p ∈ v.g.ps, -32768 ≤ val p ∧ val p ≤ 32767) :
    Calls Try.prog 79 #[v.val, .func (.func f) #[] #[]] w (RetN 3 .i64 w (chs (v.g.ps.map val))) := by
  obtain ⟨i0, hi, hz0, hz1, hz2⟩ := info_parts Try.i64info
  have hA := (Below.refl w.heap.size w).alloc (Nat.le_refl _) (.cells v.cells 79)
  have hrs := hr.ps
  have Hl := Lib.hid hrs.len
  have HF := Lib.hid hf
  have HB := Lib.hid hb
  unfold GlV.val GlV.cells
  unfold GlV.cells at hA
  clear hr hf hb
  obtain ⟨⟨x0, x1, x2, x3, es, pr, ps⟩, EA, en, ec, PA, pn, pc, SA, sn, sc⟩ := v
  simp only at *
  go_enter Try.func79, Try.ntmps79
  go_wp2_with (at_make; refine wpList_make_ints rfl (.tmp 12) (.tmp 12) _ rfl 3 .i64 w.heap.size i0 8 Try.underlying37 hi hz0 hz1 hz2 _ _ sn sn rfl rfl (by omega) (by omega) (Nat.le_refl _) (by omega) (by omega) (by simp) ?_; intro w1 hown1 hg1; have k1 := (hg1.block w.heap.size (by simp) (by simp)).trans (heap_alloc_new w (.cells #[.int .i16 x0, .int .i16 x1, .int .i16 x2, .int .i16 x3, .slice EA en ec, .slice PA pn pc, .slice SA sn sc] 79)); have c6 : w1.cell? ⟨w.heap.size, 6, none⟩ = some (.slice SA sn sc) := cell_of_row w1 _ 6 _ _ _ k1; clear k1)
  clear c6
  have hb1 : Below w.heap.size w w1 := hA.grown hg1 hA.size (fun k e => by cases e)
  have hxl : (ps.map val).length = sn := by rw [List.length_map]; exact Hl.out
  have Hxl := Lib.hid hxl
  clear hg1 hA hi hz0 hz1 hz2 hxl
  simp only [show (w.alloc (.cells #[.int .i16 x0, .int .i16 x1, .int .i16 x2, .int .i16 x3, .slice EA en ec, .slice PA pn pc, .slice SA sn sc] 79)).heap.size = w.heap.size + 1 by simp] at *
  generalize hgp : w.heap.size + 1 = gp at *
  have Hgp := Lib.hid hgp
  clear hgp
  go_loopw [6, 17] (fun a i wr => ∃ k : Nat, k ≤ sn ∧ i = .int .i64 k ∧ a = .int .i64 (ahd (ps.map val) k) ∧ Own 3 .i64 wr w.heap.size (some ⟨gp, 0, none⟩) sn sn (chK (ps.map val) k ++ List.replicate (sn - k) 0) ∧ Below w.heap.size w wr) (fun _ i _ => sn - (intOf i).toNat)
  case atStart => exact ⟨0, Nat.zero_le _, rfl, rfl, hown1, hb1⟩
  case round =>
    clear hown1 hb1
    obtain ⟨k, hk, rfl, rfl, hown, hbel⟩ := hrel
    have hsz := hbel.size
    by_cases hlt : k < sn
    · obtain ⟨p, hp⟩ : ∃ p, ps[k]? = some p := ⟨ps[k]'(by have := Hl.out; omega), List.getElem?_eq_getElem (by have := Hl.out; omega)⟩
      obtain ⟨g, off, rfl, hg, q0, q1, q2⟩ := atSp (hrs.below hbel) hp
      obtain ⟨v0, v1⟩ := HB.out p (List.mem_of_getElem? hp)
      have hpv : (ps.map val).getD k 0 = val p := by simp [hp]
      have hch : chA (ps.map val) k = val p - ahd (ps.map val) k := by
        unfold chA ahd
        rw [hpv]
      have hah : ahd (ps.map val) (k + 1) = val p := by
        unfold ahd
        rw [if_neg (by omega), Nat.add_sub_cancel, hpv]
      have hab : -32768 ≤ ahd (ps.map val) k ∧ ahd (ps.map val) k ≤ 32767 := by
        unfold ahd
        split
        · omega
        · obtain ⟨y, hy⟩ : ∃ y, ps[k - 1]? = some y := ⟨ps[k - 1]'(by have := Hl.out; omega), List.getElem?_eq_getElem (by have := Hl.out; omega)⟩
          have := HB.out y (List.mem_of_getElem? hy)
          simp [hy]
          exact this
      obtain ⟨u0, u1⟩ := hab
      have HS := Lib.hid (chK_set (ps.map val) k sn hlt)
      rw [hch] at HS
      have HAH := Lib.hid hah
      obtain ⟨z, hz⟩ : ∃ z, (chK (ps.map val) k ++ List.replicate (sn - k) 0)[k]? = some z := ⟨_, List.getElem?_eq_getElem (by simp [chK_len]; omega)⟩
      have HZ := Lib.hid hz
      have HP := Lib.hid (HF.out p)
      clear hp hpv hch hah hz
      obtain ⟨px, py, po⟩ := p
      simp only at *
      generalize val (px, py, po) = vp at *
      generalize ahd (ps.map val) k = va at *
      have hA2 := (Below.refl wr.heap.size wr).alloc (Nat.le_refl _) (.cells #[.int .i16 px, .int .i16 py, .bool po] 83)
      have hown2 := hown.below hA2
      have hbel2 := hbel.trans (hA2.mono hsz)
      have hgn : g ≠ wr.heap.size := by omega
      clear hown hbel
      go_wp2_with fail
      refine (HP.out _).mono ?_
      rintro e w2 ⟨rfl, hb2⟩
      have hown3 := hown2.below hb2
      have hbel3 := hbel2.trans (hb2.mono hbel2.size)
      obtain ⟨gg, off', e', _, hc'⟩ := hown3.row.at (cellsOf_get (k := .i64) HZ.out)
      simp only [Option.some.injEq, Addr.mk.injEq, and_true] at e'
      obtain ⟨rfl, rfl⟩ := e'
      rw [Nat.zero_add] at hc'
      have f0 := hown3.thaw
      have hs4 := hown3.set k (vp - va)
      rw [HS.out] at hs4
      have H4 := Lib.hid hs4
      have B4 := Lib.hid (hbel3.setCell (p := ⟨gp, k, none⟩) (hown3.from_ gp rfl).1 (.int .i64 (vp - va)))
      clear hown2 hbel2 hA2 hb2 hs4 hown3 hbel3 HP HS q0 q1 q2
      go_wp2
      go_roundw
      case rel => exact ⟨k + 1, by omega, by go_num, by rw [HAH.out], H4.out, B4.out⟩
      case measure => simp [intOf]; omega
    · obtain rfl : k = sn := by omega
      rw [Nat.sub_self, List.replicate_zero, List.append_nil, ← Hxl.out] at hown
      go_wp2
      go_ret
      refine ⟨_, _, _, rfl, ?_, hbel⟩
      rw [← Hxl.out]
      exact hown

end Go.Proofs.Ytgafjieghckimaa

/- A Writer beside a struct in a block of its own: what a Writer's call leaves of both. -/
namespace Go.Proofs.Ytgafjieghckimaa
open Go.RowKit
set_option linter.unusedVariables false

/-- A block of another kind is no Writer's. -/
theorem Wr.apart {w : World} {B b k : Nat} {zs : List Int} {cs : Array Value} {t : TypeId} (h : Wr w B b zs) (hk : w.heap[k]? = some (.cells cs t (0, 0))) (h1 : t ≠ 5) (h2 : t ≠ 101) : ¬ WrS w b k := by
  rintro (rfl | ⟨A, n, c, hb, e⟩)
  · obtain ⟨A, n, c, hb, _⟩ := h
    rw [hk] at hb
    simp at hb
    exact h2 hb.2
  · obtain ⟨A', n', c', hb', _, hown⟩ := h
    rw [hb] at hb'
    simp at hb'
    obtain ⟨rfl, rfl, rfl⟩ := hb'
    rcases hown.shape with ⟨rfl, _⟩ | ⟨g, cur, rfl, _, _, hh, _⟩
    · simp [blockOf] at e
    · simp [blockOf] at e
      subst e
      rw [hk] at hh
      simp at hh
      exact h1 hh.2

/-- A Writer in block b that is younger than w, and a struct in block bt. -/
structure StB (w wr : World) (b : Nat) (zs : List Int) (bt : Nat) (cs : Array Value) (t : TypeId) : Prop where
  wr_ : Wr wr w.heap.size b zs
  bel : Below w.heap.size w wr
  box : wr.heap[bt]? = some (.cells cs t (0, 0))
  n8 : t ≠ 5
  nw : t ≠ 101

section
variable {w wr w' : World} {b : Nat} {zs ys : List Int} {bt : Nat} {cs : Array Value} {t : TypeId}
theorem StB.below (h : StB w wr b zs bt cs t) (hb : Below wr.heap.size wr w') : StB w w' b zs bt cs t :=
  ⟨h.wr_.below hb, h.bel.trans (hb.mono h.bel.size), (hb.block _ (lt_of_block h.box)).trans h.box, h.n8, h.nw⟩
theorem StB.turned (h : StB w wr b zs bt cs t) (h1 : Wr w' w.heap.size b ys) (ht : Turned wr w' (WrS wr b)) : StB w w' b ys bt cs t :=
  ⟨h1, h.wr_.older h.bel (Nat.le_refl _) ht, (ht.block _ (lt_of_block h.box) (h.wr_.apart h.box h.n8 h.nw)).trans h.box, h.n8, h.nw⟩
theorem StB.drew (h : StB w wr b zs bt cs t) : StB w wr.drew b zs bt cs t := ⟨h.wr_, h.bel.drew, h.box, h.n8, h.nw⟩
theorem StB.drewN (h : StB w wr b zs bt cs t) (q : Nat) : StB w (wr.drewN q) b zs bt cs t := ⟨h.wr_, below_drewN h.bel q, h.box, h.n8, h.nw⟩
theorem StB.cell (h : StB w wr b zs bt cs t) (i : Nat) (v : Value) (hi : cs[i]? = some v) : wr.cell? ⟨bt, i, none⟩ = some v := (cell_of_row wr _ i _ _ _ h.box).trans hi
theorem StB.size (h : StB w wr b zs bt cs t) : w.heap.size ≤ wr.heap.size := h.bel.size
end

/-- A struct that is boxed, and a new Writer behind it. -/
theorem stB_new (w : World) (cs : Array Value) (t : TypeId) (h8 : t ≠ 5) (hw : t ≠ 101) : StB w ((w.alloc (.cells cs t)).alloc (.cells #[.slice none 0 0] 101)) (w.heap.size + 1) [] w.heap.size cs t := by
  have hb1 : Below w.heap.size w (w.alloc (.cells cs t)) := (Below.refl _ _).alloc (Nat.le_refl _) _
  have hw' := wr_new (w.alloc (.cells cs t))
  have hs : (w.alloc (.cells cs t)).heap.size = w.heap.size + 1 := by simp
  rw [hs] at hw'
  refine ⟨hw'.mono (by omega), hb1.alloc (by rw [hs]; omega) _, ?_, h8, hw⟩
  rw [Below.heap_alloc _ _ _ (by rw [hs]; omega)]
  exact heap_alloc_new w _

/-- An element of an array that is a value. -/
theorem run_index_arr {P : Program} (w : World) (T e : TypeId) (len : Nat) (cs : Array Value) (k : Nat) (v : Value) (hT : P.underlying T = some (.array len e)) (ha : (isAgg e).run P w = .ok false w) (hs : (Go.sizeOf e).run P w = .ok 1 w) (hk : k < len) (hv : cs[k]? = some v) :
    (Instr.index T (.agg cs) (.int .i64 k)).run P w = .ok v w := by
  have hk' : (k : Int) < (len : Int) := by omega
  have hk0 : (0 : Int) ≤ (k : Int) := by omega
  simp only [Instr.index, asIntOf, Sem.run_bind, Sem.run_pure, Result.andThen_ok, run_underlying hT, hk', hk0, and_self, if_true, hs, Int.toNat_natCast, Nat.mul_one, Go.part, ha, Bool.false_eq_true, if_false, hv]

end Go.Proofs.Ytgafjieghckimaa

/- A Writer's bytes lie where they lay, or behind all that was there; simple's flags and changes, written. -/
namespace Go.Proofs.Ytgafjieghckimaa
open Go.RowKit
set_option linter.unusedVariables false

theorem getD_headD (l : List Int) : l.getD 0 0 = l.headD 0 := by cases l <;> rfl

/-- A slice's length. -/
def slLen : Value → Nat
  | .slice _ n _ => n
  | _ => 0

theorem run_append_row_at {P : Program} (w : World) (t : TypeId) (k : IntKind) (base T ty : Nat) (i : TypeInfo) (b : Nat) (ht : P.underlying T = some (.slice t)) (hi : P.info? t = some i) (hz : i.zero = some (.int k 0)) (hs : i.size = 1) (hby : i.bytes = b)
    (A : Option Addr) (n c : Nat) (zs : List Int) (hown : Own t k w base A n c zs) (A' : Option Addr) (n' c' : Nat) (ys : List Int) (hr : Row w A' n' (cellsOf k ys))
    (hb : (n + n') * b ≤ 140737488355328) (hm : n + n' ≤ 140737488355328) (hbase : base ≤ w.heap.size) :
    ∃ A2 c2 w', (Builtin.append_ #[T, T] ty #[.slice A n c, .slice A' n' c']).run P w = .ok (.slice A2 (n + n') c2) w' ∧ Own t k w' base A2 (n + n') c2 (zs ++ ys) ∧ w.grownBy w' (blockOf A) ∧ (blockOf A2 = blockOf A ∨ blockOf A2 = some w.heap.size) := by
  have hbo : (Value.slice A n c).ownBlock = blockOf A := by
    rcases hown.shape with ⟨rfl, _⟩ | ⟨g, cur, rfl, _⟩ <;> rfl
  have hyl := hr.len
  by_cases hy : n' = 0
  · obtain rfl : ys = [] := List.eq_nil_of_length_eq_zero (by omega)
    subst hy
    refine ⟨A, c, w, ?_, by simpa using hown, World.grownBy.refl w _, .inl rfl⟩
    rcases hown.shape with ⟨rfl, rfl, rfl, rfl⟩ | ⟨g, cur, rfl, _, _, _, hle, _⟩
    · cases A' <;> simp [Builtin.append_, run_underlying ht, sizeOf, typeInfo, hi, Builtin.lenOf, Builtin.firstCells, loadCells, loadCellsFrom]
    · cases A' <;> simp [Builtin.append_, run_underlying ht, sizeOf, typeInfo, hi, Builtin.lenOf, Builtin.firstCells, loadCells, loadCellsFrom, hle, storeCells]
  · obtain ⟨g, off, rfl, hg, hc⟩ := hr.2 (by omega)
    obtain ⟨v', w', hrun, h2, h3, _, h5⟩ := run_append_own_at (P := P) w base T ty t i (.int k 0) 1 b ht hi hz hs hby rfl (by omega) (.slice A n c) n (cellsOf k zs) hown ⟨g, off, none⟩ n' c' (cellsOf k ys) (by rw [cellsOf_length]; omega)
      (fun j u hu => by rw [Addr.add_lit]; exact hc j u hu) (cellsOf_one _ _) (by simp only [maxLen]; omega) hb hbase
    rw [cellsOf_append] at h2
    obtain ⟨A2, c2, rfl, h2'⟩ := own_shape h2
    refine ⟨A2, c2, w', hrun, h2', by rw [← hbo]; exact h3, ?_⟩
    rw [← hbo]
    have hb2 : (Value.slice A2 (n + n') c2).ownBlock = blockOf A2 := by
      rcases h2'.shape with ⟨rfl, _⟩ | ⟨g, cur, rfl, _⟩ <;> rfl
    rw [← hb2]
    exact h5

theorem wpList_append_row_at {P : Program} {w : World} {ops : Array Oper} {rest : List Oper} {o : Oper} {a : Act} {Q : Exit → Act → World → Prop} (hgd : o.guard = none) (s x : Operand) (T : TypeId)
    (ho : o.op = .call { callee := .builtin .append, args := #[s, x], argTypes := #[T, T] }) (t : TypeId) (k : IntKind)
    (base : Nat) (i : TypeInfo) (b : Nat) (ht : P.underlying T = some (.slice t)) (hi : P.info? t = some i) (hz : i.zero = some (.int k 0)) (hs : i.size = 1) (hby : i.bytes = b)
    (A : Option Addr) (n c : Nat) (zs : List Int) (hes : a.eval s = .slice A n c) (hown : Own t k w base A n c zs) (A' : Option Addr) (n' c' : Nat) (ys : List Int) (hex : a.eval x = .slice A' n' c') (hr : Row w A' n' (cellsOf k ys))
    (hb : (n + n') * b ≤ 140737488355328) (hm : n + n' ≤ 140737488355328) (hbase : base ≤ w.heap.size)
    (h : ∀ A2 c2 w', Own t k w' base A2 (n + n') c2 (zs ++ ys) → w.grownBy w' (blockOf A) → (blockOf A2 = blockOf A ∨ blockOf A2 = some w.heap.size) → wpList P ops Q rest (a.put o.dst (.slice A2 (n + n') c2)) w') : wpList P ops Q (o :: rest) a w := by
  refine wpList_plain hgd fun _ hK => ?_
  obtain ⟨A2, c2, w', hrun, h2, h3, h4⟩ := run_append_row_at (P := P) w t k base T o.type i b ht hi hz hs hby A n c zs hown A' n' c' ys hr hb hm hbase
  unfold Oper.wp execOp
  simp only [ho, resolve, invoke, builtin, Sem.run_bind, Sem.run_pure, Result.andThen_ok, List.map_toArray, List.map_cons, List.map_nil, hes, hex, hrun]
  exact hK _ _ (h A2 c2 w' h2 h3 h4)

/-- Of what was there only a Writer's blocks have turned, and it has no others but new ones. -/
structure TurnedN (w w' : World) (b : Nat) : Prop where
  t : Turned w w' (WrS w b)
  n : ∀ k, WrS w' b k → WrS w b k ∨ w.heap.size ≤ k
theorem TurnedN.trans {w w1 w2 : World} {b : Nat} (h : TurnedN w w1 b) (k : TurnedN w1 w2 b) : TurnedN w w2 b :=
  ⟨⟨k.t.os.trans h.t.os, k.t.tape.trans h.t.tape, k.t.output.trans h.t.output, Nat.le_trans h.t.size k.t.size, fun i hi hs => (k.t.block i (Nat.lt_of_lt_of_le hi h.t.size) (fun hh => by rcases h.n i hh with h1 | h1; exact hs h1; omega)).trans (h.t.block i hi hs)⟩,
    fun i hi => by
      rcases k.n i hi with h1 | h1
      · exact h.n i h1
      · exact .inr (Nat.le_trans h.t.size h1)⟩
theorem wrs_below {w w' : World} {b k : Nat} (hb : Below w.heap.size w w') (hlt : b < w.heap.size) (h : WrS w' b k) : WrS w b k := by
  rcases h with rfl | ⟨A, n, c, h, e⟩
  · exact .inl rfl
  · exact .inr ⟨A, n, c, by rw [← hb.block b hlt]; exact h, e⟩
theorem TurnedN.of_below {w w' : World} {b : Nat} (hb : Below w.heap.size w w') (hlt : b < w.heap.size) : TurnedN w w' b :=
  ⟨⟨hb.os, hb.tape, hb.output, hb.size, fun k hk _ => hb.block k hk⟩, fun k hk => .inl (wrs_below hb hlt hk)⟩
theorem TurnedN.row {w w' : World} {b : Nat} {A : Option Addr} {n : Nat} {xs : List Value} (h : TurnedN w w' b) (hr : Row w A n xs) (hA : ∀ g, blockOf A = some g → ¬ WrS w b g) : Row w' A n xs := hr.turned h.t hA
theorem TurnedN.far {w w' : World} {b g : Nat} (h : TurnedN w w' b) (hlt : g < w.heap.size) (hg : ¬ WrS w b g) : ¬ WrS w' b g := fun hh => by
  rcases h.n g hh with h1 | h1
  · exact hg h1
  · omega
theorem TurnedN.belowB {w0 w w' : World} {B b : Nat} {zs : List Int} (h : TurnedN w w' b) (hw : Wr w B b zs) (hb : Below B w0 w) : Below B w0 w' :=
  h.t.below hb (by have := hw.from_; omega) (fun k hs => (hw.owns k hs).1)

/-- What a Writer's call leaves. -/
def RetWN (w : World) (B b : Nat) (zs : List Int) (e : Ending) (w' : World) : Prop := e = .returned (.pointer (some ⟨b, 0, none⟩)) ∧ Wr w' B b zs ∧ TurnedN w w' b

set_option maxHeartbeats 400000 in
theorem addN_any (B b : Nat) (zs : List Int) (A' : Option Addr) (n' c' : Nat) (ys : List Int) (w : World) (h : Wr w B b zs) (hr : Row w A' n' (cellsOf .u8 ys)) (hl : zs.length + n' ≤ 140737488355328) :
    Calls Try.prog 93 #[.pointer (some ⟨b, 0, none⟩), .slice A' n' c'] w (RetWN w B b (zs ++ ys)) := by
  obtain ⟨i0, hi, hz0, hz1, hz2⟩ := info_parts Try.u8info
  obtain ⟨A, n, c, hb, h1, h2⟩ := h
  have hlt : b < w.heap.size := lt_of_block hb
  have hBw : B ≤ w.heap.size := by omega
  have hn : n + n' ≤ 140737488355328 := by have := h2.len; omega
  have hne : ∀ g, blockOf A = some g → some b ≠ blockOf A := fun g e => by
    rcases h2.shape with ⟨rfl, _⟩ | ⟨g', cur, rfl, _, _, hh, _⟩
    · simp [blockOf]
    · simp only [blockOf, Option.map_some]
      intro he
      cases he
      exact u8_ne_wr hh hb rfl
  have hne' : some b ≠ blockOf A := by
    cases hA : blockOf A with
    | none => simp
    | some g => rw [← hA]; exact hne g hA
  have c0 : w.cell? ⟨b, 0, none⟩ = some (.slice A n c) := cell_of_row w b 0 _ 101 (0, 0) hb
  have Hb := Lib.hid hb
  have Hne := Lib.hid hne'
  clear hb hne hne'
  go_enter Try.func93, Try.ntmps93
  go_wp2_with (at_builtin; refine wpList_append_row_at rfl (.tmp 11) (.tmp 12) _ rfl 5 .u8 B i0 1 Try.underlying32 hi hz0 hz1 hz2 A n c zs rfl h2 A' n' c' ys rfl hr (by omega) (by omega) hBw ?_)
  intro A2 c2 w1 hown1 hg1 hA2
  have HA2 := Lib.hid hA2
  clear hA2
  have hb1 : w1.heap[b]? = some (.cells #[.slice A n c] 101 (0, 0)) := by rw [hg1.block b hlt Hne.out]; exact Hb.out
  have c1 : w1.cell? ⟨b, 0, none⟩ = some (.slice A n c) := cell_of_row w1 b 0 _ 101 (0, 0) hb1
  have f1 : w1.frozen? ⟨b, 0, none⟩ = false := by simp [World.frozen?, hb1]
  have hb2 := Lib.hid (set_block hb1 0 (.slice A2 (n + n') c2))
  have hown2 : Hid (OwnB (w1.setCell ⟨b, 0, none⟩ (.slice A2 (n + n') c2)) B A2 (n + n') c2 (zs ++ ys)) := hown1.keep fun g e => Below.heap_setCell _ _ _ _ (by
    rcases hown1.shape with ⟨rfl, _⟩ | ⟨g', cur, rfl, _, _, hh, _⟩
    · simp [blockOf] at e
    · simp [blockOf] at e
      subst e
      exact u8_ne_wr hh hb1)
  have ht : Hid (Turned w (w1.setCell ⟨b, 0, none⟩ (.slice A2 (n + n') c2)) (WrS w b)) := ⟨hg1.os, hg1.tape, hg1.output, by simpa [World.setCell] using hg1.size, fun k hk hs =>
    (Below.heap_setCell w1 _ _ k (fun e => hs (.inl e))).trans (hg1.block k hk (fun e => hs (.inr ⟨A, n, c, Hb.out, e.symm⟩)))⟩
  have hN : Hid (∀ k, WrS (w1.setCell ⟨b, 0, none⟩ (.slice A2 (n + n') c2)) b k → WrS w b k ∨ w.heap.size ≤ k) := by
    rintro k (rfl | ⟨A3, n3, c3, h3, e3⟩)
    · exact .inl (.inl rfl)
    · rw [hb2.out] at h3
      simp at h3
      obtain ⟨rfl, rfl, rfl⟩ := h3
      rcases HA2.out with h5 | h5
      · exact .inl (.inr ⟨A, n, c, Hb.out, by rw [← h5]; exact e3⟩)
      · rw [h5] at e3
        cases e3
        exact .inr (Nat.le_refl _)
  clear hb1 hown1 hg1 c0
  go_wp2
  go_ret
  exact ⟨rfl, ⟨A2, n + n', c2, hb2.out, h1, hown2.out⟩, ht.out, hN.out⟩

/-- A Writer's call behind a new block. -/
theorem RetWN.alloc {w w' : World} {B b : Nat} {zs : List Int} {o : Obj} {e : Ending} (h0 : Wr w B b zs) {ys : List Int} (h : RetWN (w.alloc o) B b ys e w') : RetWN w B b ys e w' := by
  obtain ⟨rfl, h1, h2⟩ := h
  exact ⟨rfl, h1, (TurnedN.of_below ((Below.refl _ _).alloc (Nat.le_refl _) o) h0.from_.2).trans h2⟩

theorem wu8N_any (B b : Nat) (zs : List Int) (x : Int) (w : World) (h : Wr w B b zs) (hl : zs.length ≤ 140737488351232) :
    Calls Try.prog 94 #[.pointer (some ⟨b, 0, none⟩), .int .u8 x] w (RetWN w B b (zs ++ [x])) := by
  have ha := h.below ((Below.refl w.heap.size w).alloc (Nat.le_refl _) (.cells #[.int .u8 x] 5))
  go_enter Try.func94, Try.ntmps94
  go_wp2_with fail
  refine (addN_any B b zs _ _ _ [x] _ ha (row_one _ _ _ _) (by omega)).mono ?_
  rintro e w1 hr
  obtain ⟨rfl, h1⟩ := RetWN.alloc h hr
  go_wp2
  go_ret
  exact ⟨rfl, h1⟩

theorem wu16N_any (B b : Nat) (zs : List Int) (x : Int) (w : World) (h : Wr w B b zs) (hl : zs.length ≤ 140737488351232) (x0 : 0 ≤ x) (x1 : x < 65536) :
    Calls Try.prog 48 #[.pointer (some ⟨b, 0, none⟩), .int .u16 x] w (RetWN w B b (zs ++ b2 x)) := by
  have ha := h.below ((Below.refl w.heap.size w).alloc (Nat.le_refl _) (.cells #[.int .u8 (x / 256), .int .u8 (x % 256)] 5))
  rw [b2_small x x0 x1]
  go_enter Try.func48, Try.ntmps48
  go_wp2_with fail
  refine (addN_any B b zs _ _ _ [x / 256, x % 256] _ ha (row_lit w .u8 5 [x / 256, x % 256] 2 rfl) (by omega)).mono ?_
  rintro e w1 hr
  obtain ⟨rfl, h1⟩ := RetWN.alloc h hr
  go_wp2
  go_ret
  exact ⟨rfl, h1⟩

theorem wi16N_any (B b : Nat) (zs : List Int) (x : Int) (w : World) (h : Wr w B b zs) (hl : zs.length ≤ 140737488351232) :
    Calls Try.prog 49 #[.pointer (some ⟨b, 0, none⟩), .int .i16 x] w (RetWN w B b (zs ++ b2 (x % 65536))) := by
  go_enter Try.func49, Try.ntmps49
  go_wp2_with fail
  refine (wu16N_any B b zs (x % 65536) _ h hl (by omega) (by omega)).mono ?_
  rintro e w1 ⟨rfl, h1⟩
  go_wp2
  go_ret
  exact ⟨rfl, h1⟩

set_option maxHeartbeats 1000000 in
theorem orow_any (A : Option Addr) (n c : Nat) (l : List Int) (w : World) (hr : Row w A n (cellsOf .u8 l)) (h1 : 1 ≤ n) (hn : n ≤ 1000000) :
    Calls Try.prog 109 #[.slice A n c] w (Quiet w (.int .i64 (rowOf l : Nat))) := by
  have Hl := Lib.hid hr.len
  obtain ⟨h, hh⟩ := get_some (zs := l) (k := 0) (by have := Hl.out; omega)
  obtain ⟨g, off, rfl, hg, hc0⟩ := hr.at (cellsOf_get (k := .u8) hh)
  rw [Nat.add_zero] at hc0
  have Hh : Hid (l.headD 0 = h) := by show _ = _; cases l with
    | nil => simp at hh
    | cons x r => simpa using hh
  clear hh
  go_enter Try.func109, Try.ntmps109
  go_wp2
  go_loopw [3] (fun i wr => ∃ k q : Nat, 1 ≤ k ∧ k ≤ n ∧ k ≤ 256 ∧ i = .int .i64 k ∧ Hid (∀ j, j < k → l.getD j 0 = l.headD 0) ∧ wr = w.drewN q) (fun i _ => n - (intOf i).toNat)
  case atStart => exact ⟨1, 0, Nat.le_refl _, h1, by omega, rfl, Lib.hid (fun j hj => (show j = 0 by omega) ▸ getD_headD l), rfl⟩
  case round =>
    obtain ⟨k, q, hk1, hk, hk2, rfl, HR, rfl⟩ := hrel
    by_cases hlt : k < n
    · have D1 : decide ((k : Int) < (n : Int)) = true := decide_eq_true (by omega)
      by_cases h256 : k < 256
      · have D2 : decide ((k : Int) < 256) = true := decide_eq_true (by omega)
        obtain ⟨x, hx⟩ := get_some (zs := l) (k := k) (by have := Hl.out; omega)
        obtain ⟨g', off', e', _, hc⟩ := hr.at (cellsOf_get (k := .u8) hx)
        simp only [Option.some.injEq, Addr.mk.injEq, and_true] at e'
        obtain ⟨rfl, rfl⟩ := e'
        have hxg : l.getD k 0 = x := by simp [hx]
        have i0 : (0 : Int) ≤ (k : Int) := by omega
        have i1 : (k : Int) < (n : Int) := by omega
        have i2 : (0 : Int) < (n : Int) := by omega
        by_cases he : x = h
        · have hb : (x == h) = true := by simp [he]
          have HT : Hid (∀ j, j < k + 1 → l.getD j 0 = l.headD 0) := fun j hj => by
            rcases Nat.lt_or_ge j k with h3 | h3
            · exact HR.out j h3
            · obtain rfl : j = k := by omega
              rw [hxg, Hh.out, he]
          clear hx hxg HR he
          go_wp2
          go_quiet (fail)
          go_wp2
          go_roundw
          case rel => exact ⟨k + 1, _, by omega, by omega, by omega, by go_num, HT, by first | rfl | (rw [World.drewN_drewN])⟩
          case measure => simp [intOf]; omega
        · have hb : (x == h) = false := by simp [he]
          have HE : Hid (rowOf l = k) := rowOf_of hk2 (by have := Hl.out; omega) HR.out (.inr (.inr (by rw [hxg, Hh.out]; exact he)))
          clear hx hxg HR he
          go_wp2
          go_quiet (fail)
          go_wp2
          go_ret
          exact ⟨by rw [HE.out]; rfl, _, by first | rfl | (rw [World.drewN_drewN])⟩
      · have D2 : decide ((k : Int) < 256) = false := decide_eq_false (by omega)
        have HE : Hid (rowOf l = k) := rowOf_of hk2 (by have := Hl.out; omega) HR.out (.inl (by omega))
        clear HR
        go_wp2
        go_quiet (fail)
        go_wp2
        go_ret
        exact ⟨by rw [HE.out]; rfl, _, by first | rfl | (rw [World.drewN_drewN])⟩
    · obtain rfl : k = n := by omega
      have D1 : decide ((k : Int) < (k : Int)) = false := decide_eq_false (by omega)
      have HE : Hid (rowOf l = k) := rowOf_of hk2 (by have := Hl.out; omega) HR.out (.inr (.inl Hl.out.symm))
      clear HR
      go_wp2
      go_quiet (fail)
      go_wp2
      go_ret
      exact ⟨by rw [HE.out]; rfl, _, by first | rfl | (rw [World.drewN_drewN])⟩

/-- What a call leaves that writes, and answers nothing. -/
def RetW0 (w : World) (B b : Nat) (zs : List Int) (e : Ending) (w' : World) : Prop := e = .returned (.tuple #[]) ∧ Wr w' B b zs ∧ TurnedN w w' b

theorem wr_drewN {w : World} {b : Nat} (hlt : b < w.heap.size) (q : Nat) : TurnedN w (w.drewN q) b := .of_below (below_drewN (Below.refl _ _) q) hlt

set_option maxRecDepth 100000 in
set_option maxHeartbeats 2000000 in
theorem owflags_any (B b : Nat) (zs : List Int) (A : Option Addr) (n c : Nat) (l : List Int) (w : World) (h : Wr w B b zs) (hr : Row w A n (cellsOf .u8 l)) (hfar : ∀ g, blockOf A = some g → ¬ WrS w b g) (hc : n ≤ c) (hn : n ≤ 1000000) (hz : zs.length ≤ 1000000) (hin : ∀ f ∈ l, f ∈ flagsAll) :
    Calls Try.prog 83 #[.pointer (some ⟨b, 0, none⟩), .slice A n c] w (RetW0 w B b (zs ++ rle l)) := by
  have Hl := Lib.hid hr.len
  have Hin := Lib.hid hin
  have hrl := rle_len l
  have hzl : (zs ++ rle l).length ≤ 3000000 := by rw [List.length_append, Hl.out] at *; omega
  have Hzl := Lib.hid hzl
  have hN := TurnedN.of_below (Below.refl w.heap.size w) h.from_.2
  clear hin hrl hzl
  go_enter Try.func83, Try.ntmps83
  go_wp2
  go_loopw [1] (fun s wr => ∃ (A1 : Option Addr) (n1 c1 : Nat) (r X : List Int), s = .slice A1 n1 c1 ∧ n1 ≤ n ∧ n1 ≤ c1 ∧ Hid (X ++ rle r = rle l) ∧ Hid (∀ f ∈ r, f ∈ flagsAll) ∧ Wr wr B b (zs ++ X) ∧ TurnedN w wr b ∧ Row wr A1 n1 (cellsOf .u8 r) ∧ Hid (∀ g, blockOf A1 = some g → ¬ WrS wr b g)) (fun s _ => slLen s)
  case atStart => exact ⟨A, n, c, l, [], rfl, Nat.le_refl _, hc, Lib.hid rfl, Hin, by simpa using h, hN, hr, Lib.hid hfar⟩
  case round =>
    clear h hr hfar hN hc
    obtain ⟨A1, n1, c1, r, X, rfl, hn1, hc1, HX, Hin1, hw, hN, hr, Hfar⟩ := hrel
    have Hr1 := Lib.hid hr.len
    rcases Nat.eq_zero_or_pos n1 with h0 | h0
    · subst h0
      obtain rfl : r = [] := List.eq_nil_of_length_eq_zero Hr1.out
      have HX2 : Hid (X = rle l) := by have := HX.out; rw [rle_nil, List.append_nil] at this; exact this
      rw [HX2.out] at hw
      go_wp2
      go_end0
      exact ⟨rfl, hw, hN⟩
    · obtain ⟨x, hx⟩ := get_some (zs := r) (k := 0) (by have := Hr1.out; omega)
      obtain ⟨g, off, rfl, hg, hc0⟩ := hr.at (cellsOf_get (k := .u8) hx)
      rw [Nat.add_zero] at hc0
      have hhd : r.headD 0 = x := by rw [← getD_headD]; simp [hx]
      have hrne : r ≠ [] := by rintro rfl; simp at hx
      have hfin := Hin1.out x (List.mem_of_getElem? hx)
      obtain ⟨x0, x1⟩ := flagsAll_lt hfin
      have Hor := Lib.hid (flagsAll_or8 hfin)
      have hst := rle_step hrne
      have hk1 := rowOf_pos hrne
      obtain ⟨hk2, hk3⟩ := rowOf_le r
      rw [Hr1.out] at hk3
      have HRow : Hid (∀ m, Calls Try.prog 109 #[.slice (some ⟨g, off, none⟩) n1 c1] (wr.drewN m) (Quiet (wr.drewN m) (.int .i64 (rowOf r : Nat)))) := fun m => orow_any _ _ _ r _ (hr.drewN m) h0 (by omega)
      unfold rleHead at hst
      rw [hhd] at hst
      have HIn2 : Hid (∀ f ∈ r.drop (rowOf r), f ∈ flagsAll) := fun f hf => Hin1.out f (List.mem_of_mem_drop hf)
      generalize hkk : rowOf r = k at *
      have HX2 : Hid ((X ++ if k = 1 then [x] else [x + 8, (k : Int) - 1]) ++ rle (r.drop k) = rle l) := by show _ = _; rw [List.append_assoc, ← hst]; exact HX.out
      have hzX : (zs ++ (X ++ if k = 1 then [x] else [x + 8, (k : Int) - 1])).length ≤ 3000000 := by
        have h1 := Hzl.out
        have h2 := congrArg List.length HX2.out
        rw [List.length_append] at h1 h2 ⊢
        omega
      have hz0 : (zs ++ X).length ≤ 3000000 := by
        rw [List.length_append, List.length_append] at *
        omega
      have hdr : Row wr (some ⟨g, off + k, none⟩) (n1 - k) (cellsOf .u8 (r.drop k)) := by have := hr.drop k; rw [cellsOf_drop] at this; simpa [Addr.add_lit] using this
      have hdz : n1 = k → r.drop k = [] := fun h => List.drop_of_length_le (by rw [Hr1.out]; omega)
      have Hdz := Lib.hid hdz
      have hgl : g < wr.heap.size := hg
      have hgf : ¬ WrS wr b g := Hfar.out g rfl
      have HN := Lib.hid hN
      clear hst hkk hhd hrne hfin hx HX hdz Hin1 hN
      go_wp2
      go_quiet ((go_at_call 109; with_reducible exact Calls.quiet_of (HRow.out _)))
      have hw' := hw.drewN nq
      have hN' : TurnedN w (wr.drewN nq) b := HN.out.trans (wr_drewN hw.from_.2 nq)
      have hdr' := hdr.drewN nq
      have hgf' : ¬ WrS (wr.drewN nq) b g := hgf
      have hgl' : g < (wr.drewN nq).heap.size := hgl
      clear hw HN hdr hgf hgl hc0 hr HRow hg
      generalize wr.drewN nq = V at *
      by_cases h1 : k = 1
      · subst h1
        rw [if_pos rfl] at HX2 hzX
        have HW := Lib.hid (wu8N_any B b (zs ++ X) x V hw' (by omega))
        go_wp2_with fail
        with_reducible refine HW.out.mono ?_
        rintro e w2 ⟨rfl, hw2, hN2⟩
        rw [List.append_assoc] at hw2
        have hdr2 := hN2.row hdr' (fun q e => by simp [blockOf] at e; subst e; exact hgf')
        have hN3 := hN'.trans hN2
        have hgf2 := hN2.far hgl' hgf'
        clear hN' hN2 hdr' hw' HW hgf'
        by_cases hcap : c1 = 1
        · subst hcap
          obtain rfl : n1 = 1 := by omega
          have hd0 := Hdz.out rfl
          rw [hd0] at HX2
          go_wp2
          go_roundw
          case rel => exact ⟨_, 0, 0, [], _, rfl, by omega, by omega, HX2, Lib.hid (fun f hf => by cases hf), hw2, hN3, Row.empty _ _, Lib.hid (fun q e => by simp [blockOf] at e; subst e; exact hgf2)⟩
          case measure => simp [slLen]
        · go_wp2
          go_roundw
          case rel => exact ⟨_, n1 - 1, c1 - 1, r.drop 1, _, rfl, by omega, by omega, HX2, HIn2, hw2, hN3, hdr2, Lib.hid (fun q e => by simp [blockOf] at e; subst e; exact hgf2)⟩
          case measure => simp [slLen]; omega
      · rw [if_neg h1] at HX2 hzX
        have hor := Hor.out
        have HW := Lib.hid (wu8N_any B b (zs ++ X) (x + 8) V hw' (by omega))
        have hd1 : ((k : Int) == 1) = false := by simp; omega
        go_wp2_with fail
        with_reducible refine HW.out.mono ?_
        rintro e w2 ⟨rfl, hw2, hN2⟩
        have hdr2 := hN2.row hdr' (fun q e => by simp [blockOf] at e; subst e; exact hgf')
        have hN3 := hN'.trans hN2
        have hgf2 := hN2.far hgl' hgf'
        have hgl2 : g < w2.heap.size := Nat.lt_of_lt_of_le hgl' hN2.t.size
        have HW2 := Lib.hid (wu8N_any B b ((zs ++ X) ++ [x + 8]) ((k : Int) - 1) w2 hw2 (by rw [List.length_append]; simp only [List.length_cons, List.length_nil]; omega))
        clear hN' hN2 hdr' hw' HW hgf' hor hw2
        go_wp2_with fail
        with_reducible refine HW2.out.mono ?_
        rintro e w3 ⟨rfl, hw3, hN4⟩
        rw [List.append_assoc, List.append_assoc, List.cons_append, List.nil_append] at hw3
        have hdr3 := hN4.row hdr2 (fun q e => by simp [blockOf] at e; subst e; exact hgf2)
        have hN5 := hN3.trans hN4
        have hgf3 := hN4.far hgl2 hgf2
        clear hN3 hN4 hdr2 HW2 hgf2
        by_cases hcap : c1 = k
        · subst hcap
          obtain rfl : n1 = c1 := by omega
          have hd0 := Hdz.out rfl
          rw [hd0] at HX2
          go_wp2
          go_roundw
          case rel => exact ⟨_, 0, 0, [], _, rfl, by omega, by omega, HX2, Lib.hid (fun f hf => by cases hf), hw3, hN5, Row.empty _ _, Lib.hid (fun q e => by simp [blockOf] at e; subst e; exact hgf3)⟩
          case measure => simp [slLen]; omega
        · go_wp2
          go_roundw
          case rel => exact ⟨_, n1 - k, c1 - k, r.drop k, _, rfl, by omega, by omega, HX2, HIn2, hw3, hN5, hdr3, Lib.hid (fun q e => by simp [blockOf] at e; subst e; exact hgf3)⟩
          case measure => simp [slLen]; omega

set_option maxRecDepth 100000 in
set_option maxHeartbeats 2000000 in
theorem owchanges_any (B b : Nat) (zs : List Int) (A : Option Addr) (n c : Nat) (l : List Int) (w : World) (h : Wr w B b zs) (hr : Row w A n (cellsOf .i64 l)) (hfar : ∀ g, blockOf A = some g → ¬ WrS w b g) (hn : n ≤ 1000000) (hz : zs.length ≤ 3000000) (hin : ∀ d ∈ l, -32768 ≤ d ∧ d ≤ 32767) :
    Calls Try.prog 84 #[.pointer (some ⟨b, 0, none⟩), .slice A n c] w (RetW0 w B b (zs ++ cbs l)) := by
  have Hl := Lib.hid hr.len
  have Hin := Lib.hid hin
  have Hr := Lib.hid hr
  have Hfar := Lib.hid hfar
  have hN := TurnedN.of_below (Below.refl w.heap.size w) h.from_.2
  clear hin hr hfar
  go_enter Try.func84, Try.ntmps84
  go_wp2
  go_loopw [8] (fun i wr => ∃ k : Nat, k ≤ n ∧ i = .int .i64 k ∧ Wr wr B b (zs ++ cbs (l.take k)) ∧ TurnedN w wr b) (fun i _ => n - (intOf i).toNat)
  case atStart => exact ⟨0, Nat.zero_le _, rfl, by simpa [cbs] using h, hN⟩
  case round =>
    clear h hN
    obtain ⟨k, hk, rfl, hw, hN⟩ := hrel
    have hzl : (zs ++ cbs (l.take k)).length ≤ 6000000 := by
      have := cbs_len (l.take k)
      rw [List.length_append]
      rw [List.length_take] at this
      omega
    by_cases hlt : k < n
    · obtain ⟨d, hd⟩ := get_some (zs := l) (k := k) (by have := Hl.out; omega)
      obtain ⟨g, off, rfl, hg, hc⟩ := (hN.row Hr.out Hfar.out).at (cellsOf_get (k := .i64) hd)
      obtain ⟨d0, d1⟩ := Hin.out d (List.mem_of_getElem? hd)
      have HS := Lib.hid (cbs_snoc hd)
      have HSh := Lib.hid (oshort_any d wr)
      have HN := Lib.hid hN
      clear hd hN
      by_cases h0 : d = 0
      · subst h0
        rw [show cb 0 = [] from rfl, List.append_nil] at HS
        rw [← HS.out] at hw
        go_wp2
        go_roundw
        case rel => exact ⟨k + 1, by omega, by go_num, hw, HN.out⟩
        case measure => simp [intOf]; omega
      · have e0 : (d == 0) = false := by simp [h0]
        go_wp2_with fail
        with_reducible refine HSh.out.mono ?_
        rintro e w2 ⟨rfl, rfl⟩
        by_cases hs : -255 ≤ d ∧ d ≤ 255
        · have HV : Hid (cb d = [max d (-d)]) := by show _ = _; unfold cb; rw [if_neg h0, if_pos hs]
          have HB : Hid (shortB d = true) := by show _ = _; rw [shortB_eq, decide_eq_true hs]
          rw [HB.out]
          rw [HV.out] at HS
          obtain ⟨s0, s1⟩ := hs
          have HW := Lib.hid (wu8N_any B b (zs ++ cbs (l.take k)) (max d (-d)) wr hw (by omega))
          clear hw HSh HB HV
          rcases Int.lt_or_le 0 d with hp | hp
          · have hm : max d (-d) = d := by omega
            rw [hm] at HW HS
            clear hm
            go_wp2_with fail
            with_reducible refine HW.out.mono ?_
            rintro e w3 ⟨rfl, hw3, hN3⟩
            rw [List.append_assoc, ← HS.out] at hw3
            have hN4 := HN.out.trans hN3
            clear hN3 HW
            go_wp2
            go_roundw
            case rel => exact ⟨k + 1, by omega, by go_num, hw3, hN4⟩
            case measure => simp [intOf]; omega
          · have hm : max d (-d) = -d := by omega
            rw [hm] at HW HS
            clear hm
            go_wp2_with fail
            with_reducible refine HW.out.mono ?_
            rintro e w3 ⟨rfl, hw3, hN3⟩
            rw [List.append_assoc, ← HS.out] at hw3
            have hN4 := HN.out.trans hN3
            clear hN3 HW
            go_wp2
            go_roundw
            case rel => exact ⟨k + 1, by omega, by go_num, hw3, hN4⟩
            case measure => simp [intOf]; omega
        · have HV : Hid (cb d = b2 (d % 65536)) := by show _ = _; unfold cb; rw [if_neg h0, if_neg hs]
          have HB : Hid (shortB d = false) := by show _ = _; rw [shortB_eq, decide_eq_false hs]
          rw [HB.out]
          rw [HV.out] at HS
          have HW := Lib.hid (wi16N_any B b (zs ++ cbs (l.take k)) d wr hw (by omega))
          clear hw HSh HB HV hs
          go_wp2_with fail
          with_reducible refine HW.out.mono ?_
          rintro e w3 ⟨rfl, hw3, hN3⟩
          rw [List.append_assoc, ← HS.out] at hw3
          have hN4 := HN.out.trans hN3
          clear hN3 HW
          go_wp2
          go_roundw
          case rel => exact ⟨k + 1, by omega, by go_num, hw3, hN4⟩
          case measure => simp [intOf]; omega
    · have HE : Hid (l.take k = l) := List.take_of_length_le (by have := Hl.out; omega)
      rw [HE.out] at hw
      go_wp2
      go_end0
      exact ⟨rfl, hw, hN⟩

end Go.Proofs.Ytgafjieghckimaa
