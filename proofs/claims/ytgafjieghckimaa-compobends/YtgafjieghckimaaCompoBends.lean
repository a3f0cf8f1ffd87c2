/- One byte turned in the bytes of a composite glyph is read or refused as the document says. -/
import Derived.Lib.SmallJoins
import Derived.ProofKit
import Derived.ChangeSame
import Derived.OpenShut
import Derived.Test.YtgafjieghckimaaRows
import Derived.WalkKit
import Derived.ShutString
import Derived.ChangeOld
import Derived.Below
import Derived.Test.YtgafjieghckimaaBase2
import Derived.Test.YtgafjieghckimaaBase3
import Derived.Test.YtgafjieghckimaaBase4
import Derived.Test.YtgafjieghckimaaBase8
import Derived.Test.YtgafjieghckimaaBase9
import Derived.Test.YtgafjieghckimaaBase13
import Derived.Test.YtgafjieghckimaaBase14
import Derived.Test.YtgafjieghckimaaBase15

namespace Go.Proofs.Ytgafjieghckimaa
open Go.RowKit
set_option linter.unusedVariables false
set_option linter.unusedSimpArgs false

set_option maxRecDepth 100000 in
theorem run_neq_cbox4 (x0 x1 x2 x3 y0 y1 y2 y3 : Int) (w : World) : (binOp .neq 46 (.agg #[.int .i64 x0, .int .i64 x1, .int .i64 x2, .int .i64 x3]) (.agg #[.int .i64 y0, .int .i64 y1, .int .i64 y2, .int .i64 y3])).run Try.prog w = .ok (.bool (!decide ([x0, x1, x2, x3] = [y0, y1, y2, y3]))) w := by
  have h := run_equalIn_ints (P := Try.prog) w 9998 46 3 4 .i64 .i64 [x0, x1, x2, x3] [y0, y1, y2, y3] Try.underlying46 Try.underlying3 (by simp [go_sem]) (by simp [go_sem]) rfl rfl
  change (Op.equalIn 10000 46 (.agg #[.int .i64 x0, .int .i64 x1, .int .i64 x2, .int .i64 x3]) (.agg #[.int .i64 y0, .int .i64 y1, .int .i64 y2, .int .i64 y3])).run Try.prog w = _ at h
  rw [run_neq_struct, h]
  rfl

set_option maxRecDepth 100000 in
theorem eq_rt (p q : Pt) (w : World) : (Op.equalIn 10000 114 (ptR p) (ptR q)).run Try.prog w = .ok (decide (p = q)) w := by
  obtain ⟨f, i, x, y, xx, xy, yx, yy⟩ := p
  obtain ⟨f', i', x', y', xx', xy', yx', yy'⟩ := q
  have h : (Op.equalIn 9999 46 (.agg #[.int .i64 xx, .int .i64 xy, .int .i64 yx, .int .i64 yy]) (.agg #[.int .i64 xx', .int .i64 xy', .int .i64 yx', .int .i64 yy'])).run Try.prog w = .ok (decide ([xx, xy, yx, yy] = [xx', xy', yx', yy'])) w :=
    run_equalIn_ints (P := Try.prog) w 9997 46 3 4 .i64 .i64 [xx, xy, yx, yy] [xx', xy', yx', yy'] Try.underlying46 Try.underlying3 (by simp [go_sem]) (by simp [go_sem]) rfl rfl
  simp [go_sem, h, ptR]
  clear h
  by_cases e0 : f = f'
  case neg => simp [e0]
  subst e0
  by_cases e1 : i = i'
  case neg => simp [e1]
  subst e1
  by_cases e2 : x = x'
  case neg => simp [e2]
  subst e2
  by_cases e3 : y = y'
  case neg => simp [e3]
  subst e3
  by_cases e4 : xx = xx'
  case neg => simp [e4]
  subst e4
  by_cases e5 : xy = xy'
  case neg => simp [e5]
  subst e5
  by_cases e6 : yx = yx'
  case neg => simp [e6]
  subst e6
  by_cases e7 : yy = yy'
  case neg => simp [e7]
  subst e7
  simp

theorem cgSame_box {a b : Cg} (h : sameCBox a b = false) : cgSame a b = false := by simp [cgSame, h]
theorem cgSame_not {a b : Cg} (h : a ≠ b) : cgSame a b = false := by
  cases hg : cgSame a b
  · rfl
  · exact absurd (cgSame_eq hg) h

set_option maxRecDepth 100000 in
set_option maxHeartbeats 4000000 in
theorem rsame13_any (v u : RcV) (w : World) (hv : v.rows w) (hu : u.rows w) (a1 : v.q ≤ 1000000) (a2 : v.pn ≤ 1000000) (b1 : u.q ≤ 1000000) (b2 : u.pn ≤ 1000000) :
    Calls Try.prog 29 #[v.val, u.val] w (Ret w (.bool (cgSame v.g u.g))) := by
  have hA1 := (Below.refl w.heap.size w).alloc (Nat.le_refl _) (.cells v.cells 49)
  have hA := hA1.alloc (hA1.size) (.cells u.cells 49)
  have hk1 : ((w.alloc (.cells v.cells 49)).alloc (.cells u.cells 49)).heap[w.heap.size]? = some (.cells v.cells 49 (0, 0)) := kept_alloc (heap_alloc_new w _) _
  have hk2 : ((w.alloc (.cells v.cells 49)).alloc (.cells u.cells 49)).heap[w.heap.size + 1]? = some (.cells u.cells 49 (0, 0)) := by
    have := heap_alloc_new (w.alloc (.cells v.cells 49)) (.cells u.cells 49)
    rwa [show (w.alloc (.cells v.cells 49)).heap.size = w.heap.size + 1 by simp] at this
  have hps := (hv.below hA).ps
  have hqs := (hu.below hA).ps
  have HP : Hid (∀ W, Below w.heap.size w W → Calls Try.prog 25 #[.slice v.PA v.pn v.pc, .slice u.PA u.pn u.pc] W (Quiet W (.bool (sameB v.g.pr u.g.pr)))) := fun W hW => same_any _ _ _ _ _ _ _ _ W (hv.below hW).pr (hu.below hW).pr (by omega) (by omega)
  have HS : Hid (v.g.ps.length = v.q) := hv.ps.len
  have HT : Hid (u.g.ps.length = u.q) := hu.ps.len
  clear hv hu hA1
  unfold RcV.val at *
  unfold RcV.cells at *
  obtain ⟨⟨x0, x1, x2, x3, ps, pr⟩, QA, q, qc, PA, pn, pc⟩ := v
  obtain ⟨⟨y0, y1, y2, y3, qs, qr⟩, QB, q', qc', PB, pn', pc'⟩ := u
  simp only at *
  obtain ⟨c0, c1, c2, c3, c4, c5⟩ := cells6 hk1
  obtain ⟨d0, d1, d2, d3, d4, d5⟩ := cells6 hk2
  have eb := fun W => run_neq_cbox4 x0 x1 x2 x3 y0 y1 y2 y3 W
  clear hk1 hk2
  go_enter Try.func29, Try.ntmps29
  cases hbx : decide ([x0, x1, x2, x3] = [y0, y1, y2, y3]) with
  | false =>
    rw [hbx] at eb
    go_wp2
    go_ret
    exact ⟨by rw [cgSame_box (a := ⟨x0, x1, x2, x3, ps, pr⟩) (b := ⟨y0, y1, y2, y3, qs, qr⟩) hbx]; rfl, hA⟩
  | true =>
    rw [hbx] at eb
    by_cases hq : q = q'
    · subst hq
      have HNe : Hid (∀ {j : Nat} {x y : Pt}, x ≠ y → ps[j]? = some x → qs[j]? = some y → cgSame ⟨x0, x1, x2, x3, ps, pr⟩ ⟨y0, y1, y2, y3, qs, qr⟩ = false) := fun {j x y} h1 h2 h3 => cgSame_not (fun h => by
        rw [show ps = qs from congrArg Cg.ps h, h3] at h2
        exact h1 (Option.some.inj h2).symm)
      have HBx := Lib.hid hbx
      have hne : ((q : Int) != (q : Int)) = false := by simp
      have H2 := Lib.hid (HP.out _ hA)
      clear HP
      go_wp2_with fail
      generalize (w.alloc _).alloc _ = V at *
      have hA0 := Lib.hid hA
      with_reducible refine H2.out.mono ?_
      rintro e w1 ⟨rfl, q1, rfl⟩
      have hA2 := below_drewN hA q1
      clear H2 hA hne
      cases h2 : sameB pr qr with
      | false =>
        go_wp2
        go_ret
        refine ⟨?_, hA2⟩
        rw [cgSame_not (fun h => by rw [show pr = qr from congrArg Cg.pr h] at h2; simp [sameB] at h2)]
        rfl
      | true =>
        have HEq : Hid (ps = qs → cgSame ⟨x0, x1, x2, x3, ps, pr⟩ ⟨y0, y1, y2, y3, qs, qr⟩ = true) := fun h4 => by
          subst h4
          have := HBx.out
          simp only [cgSame, sameCBox, h2]
          rw [this]
          simp [samePts]
        go_wp2_with fail
        clear eb hA2
        go_loopw [31] (fun i wr => ∃ j t : Nat, j ≤ q ∧ i = .int .i64 j ∧ ps.take j = qs.take j ∧ wr = V.drewN t) (fun i _ => q - (intOf i).toNat)
        case atStart => exact ⟨0, _, Nat.zero_le _, rfl, by simp, rfl⟩
        case round =>
          obtain ⟨j, t, hj, rfl, hp, rfl⟩ := hrel
          have Hp := Lib.hid hp
          clear hp
          have hA2 := below_drewN hA0.out t
          by_cases hlt : j < q
          · obtain ⟨x, ex⟩ : ∃ p, ps[j]? = some p := ⟨ps[j]'(by have := HS.out; omega), List.getElem?_eq_getElem (by have := HS.out; omega)⟩
            obtain ⟨y, ey⟩ : ∃ p, qs[j]? = some p := ⟨qs[j]'(by have := HT.out; omega), List.getElem?_eq_getElem (by have := HT.out; omega)⟩
            obtain ⟨g, off, rfl, hg, a0, a1, a2, a3, a4, a5, a6, a7⟩ := atRt hps ex
            obtain ⟨g', off', rfl, hg', r0, r1, r2, r3, r4, r5, r6, r7⟩ := atRt hqs ey
            have Ex := Lib.hid ex
            have Ey := Lib.hid ey
            have i0 : (0 : Int) ≤ (j : Int) := by omega
            have i1 : (j : Int) < (q : Int) := by omega
            clear ex ey
            have heq := fun W => eq_rt x y W
            unfold ptR at heq
            by_cases he : x = y
            · rw [decide_eq_true he] at heq
              have hxy := Lib.hid he
              clear he
              have HT2 : Hid (ps.take (j + 1) = qs.take (j + 1)) := by show _ = _; rw [List.take_add_one, List.take_add_one, Ex.out, Ey.out, Hp.out, hxy.out]
              clear hxy
              obtain ⟨x0, x1, x2, x3, x4, x5, x6, x7⟩ := x
              obtain ⟨y0, y1, y2, y3, y4, y5, y6, y7⟩ := y
              simp only at *
              go_wp2
              go_quiet (fail)
              go_wp2
              go_roundw
              case rel => exact ⟨j + 1, _, by omega, by go_num, (HT2.out : _), by first | rfl | (rw [World.drewN_drewN])⟩
              case measure => simp [intOf]; omega
            · have hno := Lib.hid (HNe.out he Ex.out Ey.out)
              rw [decide_eq_false he] at heq
              clear he
              obtain ⟨x0, x1, x2, x3, x4, x5, x6, x7⟩ := x
              obtain ⟨y0, y1, y2, y3, y4, y5, y6, y7⟩ := y
              simp only at *
              go_wp2
              go_quiet (fail)
              go_wp2
              go_ret
              exact ⟨by rw [hno.out]; rfl, by first | exact hA2 | exact hA2.drew | exact below_drewN (below_drewN hA0.out _) _⟩
          · obtain rfl : j = q := by omega
            go_wp2
            go_ret
            refine ⟨?_, hA2⟩
            have hpq : ps = qs := by
              have hp := Hp.out
              rwa [List.take_of_length_le (by have := HS.out; omega), List.take_of_length_le (by have := HT.out; omega)] at hp
            rw [HEq.out hpq]
            rfl
    · have hne : ((q : Int) != (q' : Int)) = true := by simp; omega
      go_wp2
      go_ret
      refine ⟨?_, hA⟩
      rw [cgSame_not (fun h => hq (by rw [← HS.out, ← HT.out, show ps = qs from congrArg Cg.ps h]))]
      rfl

end Go.Proofs.Ytgafjieghckimaa

namespace Go.Proofs.Ytgafjieghckimaa
open Go.RowKit Go.Joins Go.ChangeShapes Go.WideShapes
set_option linter.unusedVariables false

theorem Try.cellsCg : Try.prog.cellsOf 34 = 6 := by kernel_rfl
theorem Try.cellsCp : Try.prog.cellsOf 29 = 8 := by kernel_rfl
theorem Try.cellsMxC : Try.prog.cellsOf 24 = 4 := by kernel_rfl
theorem Try.cellsI16C : Try.prog.cellsOf 22 = 1 := by kernel_rfl
theorem Try.cellsU16C : Try.prog.cellsOf 26 = 1 := by kernel_rfl
theorem Try.cellsU8C : Try.prog.cellsOf 5 = 1 := by kernel_rfl
theorem Try.cellsBsC : Try.prog.cellsOf 32 = 1 := by kernel_rfl
theorem Try.cellsCps : Try.prog.cellsOf 30 = 1 := by kernel_rfl
theorem Try.cellsArrC : Try.prog.cellsOf 31 = 4 := by kernel_rfl

theorem flat_intsC (l : List Int) : flat (fun q : Int => [Value.int .u8 q]) l = cellsOf .u8 l := by
  unfold flat cellsOf
  induction l with
  | nil => rfl
  | cons x l ih => rw [List.flatMap_cons, ih]; rfl

section
variable {H : Type} {enc : TypeId × Value → H} {W : World} {base : Nat} {v : Value} {d : DataW H} {p : List MemPlace}

/-- Bytes behind a slice that is a field. -/
theorem read_bsC {m : Nat} {c : Value} {y : DataW H × List MemPlace} (h : DataW.trod enc Try.prog W 0 (fun _ => true) true m 32 [c] = some y) :
    ∃ A n k zs, c = .slice A n k ∧ Row W A n (cellsOf .u8 zs) ∧ Bytes zs ∧ n ≤ 9223372036854775807 ∧ n ≤ k := by
  have hs : ∃ A n k, c = .slice A n k := by
    rcases DataW.trod_slice Try.underlying32 h with ⟨hcs, _⟩ | ⟨x, l, k, elems, rest, n, _, hcs, _⟩
    · simp at hcs; exact ⟨none, 0, 0, hcs⟩
    · simp at hcs; exact ⟨some x, l, k, hcs⟩
  obtain ⟨A, n, k, rfl⟩ := hs
  rcases open_sliceK (P := Try.prog) (enc := enc) (w := W) (d := y.1) (p := y.2) Try.underlying32 Try.cellsU8C ⟨m, by simpa [Value.cells] using h⟩ with ⟨rfl, rfl, rfl⟩ | ⟨x, rfl, hl, hm, hi⟩
  · exact ⟨none, 0, 0, [], rfl, Row.empty _ _, (fun z hz => by cases hz), by omega, by omega⟩
  · obtain ⟨l, hll, hp⟩ := list_of (p := fun i (q : Int) => (0 ≤ q ∧ q ≤ 255) ∧ W.cell? (x.add i) = some (.int .u8 q)) n (fun i hlt => by
      obtain ⟨cs, m', y', hcl, hc, ht⟩ := hi i hlt
      have h0 := hc 0 (by omega)
      match cs, hcl with
      | [c0], _ =>
        obtain ⟨a, e, _, wa⟩ := DataW.trod_int Try.underlying5 ht
        simp at e
        subst e
        have := bounds_u8 wa
        refine ⟨a, this, ?_⟩
        simpa using h0)
    simp only [maxLen] at hm
    have hR := rowS_in (enc := fun q : Int => [Value.int .u8 q]) (k := 1) (fun _ => rfl) (w := W) (x := x) l hll (fun i q hq j u hu => by
      have hj : j = 0 := by have := (List.getElem?_eq_some_iff.1 hu).1; simp at this; omega
      subst hj
      simp at hu
      subst hu
      simpa using (hp i q hq).2)
    refine ⟨some x, n, k, l, rfl, ?_, fun z hz => ?_, by omega, hl⟩
    · have h2 := hR.2
      rw [Nat.mul_one, show flat (fun q : Int => [Value.int .u8 q]) l = cellsOf .u8 l from flat_intsC l] at h2
      exact h2
    · obtain ⟨i, hi2⟩ := List.mem_iff_getElem?.1 hz
      exact (hp i z hi2).1

theorem read_i16C {m : Nat} {c : Value} {y : DataW H × List MemPlace} (h : DataW.trod enc Try.prog W 0 (fun _ => true) true m 22 [c] = some y) : ∃ a, c = .int .i16 a ∧ -32768 ≤ a ∧ a ≤ 32767 := by
  obtain ⟨a, e, _, wa⟩ := DataW.trod_int Try.underlying22 h
  simp at e
  subst e
  have := bounds_i16 wa
  exact ⟨a, rfl, by omega⟩

theorem read_u16C {m : Nat} {c : Value} {y : DataW H × List MemPlace} (h : DataW.trod enc Try.prog W 0 (fun _ => true) true m 26 [c] = some y) : ∃ a, c = .int .u16 a ∧ 0 ≤ a ∧ a ≤ 65535 := by
  obtain ⟨a, e, _, wa⟩ := DataW.trod_int Try.underlying26 h
  simp at e
  subst e
  have := bounds_u16 wa
  exact ⟨a, rfl, by omega⟩

set_option maxRecDepth 100000 in
theorem read_mxC {m : Nat} {cs : List Value} {y : DataW H × List MemPlace} (h : DataW.trod enc Try.prog W 0 (fun _ => true) true m 24 cs = some y) : ∃ a b c e, cs = [.int .i16 a, .int .i16 b, .int .i16 c, .int .i16 e] ∧ (-32768 ≤ a ∧ a ≤ 32767) ∧ (-32768 ≤ b ∧ b ≤ 32767) ∧ (-32768 ≤ c ∧ c ≤ 32767) ∧ (-32768 ≤ e ∧ e ≤ 32767) := by
  obtain ⟨xs, n, _, _, hl, hxl, hf⟩ := DataW.trod_struct Try.underlying24 h
  rw [Try.cellsMxC] at hl
  match cs, hl with
  | [c0, c1, c2, c3], _ =>
    match xs, hxl with
    | [y0, y1, y2, y3], _ =>
      have h0 := hf 0 _ rfl
      have h1 := hf 1 _ rfl
      have h2 := hf 2 _ rfl
      have h3 := hf 3 _ rfl
      simp [Try.cellsI16C] at h0 h1 h2 h3
      obtain ⟨a, rfl, ha⟩ := read_i16C h0
      obtain ⟨b, rfl, hb⟩ := read_i16C h1
      obtain ⟨c, rfl, hc⟩ := read_i16C h2
      obtain ⟨e, rfl, he⟩ := read_i16C h3
      exact ⟨a, b, c, e, rfl, ha, hb, hc, he⟩

set_option maxRecDepth 100000 in
theorem read_cp {m : Nat} {cs : List Value} {y : DataW H × List MemPlace} (h : DataW.trod enc Try.prog W 0 (fun _ => true) true m 29 cs = some y) : ∃ p : Pt, cs = encPt p ∧ p.ok := by
  obtain ⟨xs, n, _, _, hl, hxl, hf⟩ := DataW.trod_struct Try.underlying29 h
  rw [Try.cellsCp] at hl
  match cs, hl with
  | [c0, c1, c2, c3, c4, c5, c6, c7], _ =>
    match xs, hxl with
    | [y0, y1, y2, y3, y4], _ =>
      have h0 := hf 0 _ rfl
      have h1 := hf 1 _ rfl
      have h2 := hf 2 _ rfl
      have h3 := hf 3 _ rfl
      have h4 := hf 4 _ rfl
      simp [Try.cellsI16C, Try.cellsU16C, Try.cellsMxC] at h0 h1 h2 h3 h4
      obtain ⟨f, rfl, hf1⟩ := read_u16C h0
      obtain ⟨i, rfl, hi1⟩ := read_u16C h1
      obtain ⟨x, rfl, hx1⟩ := read_i16C h2
      obtain ⟨z, rfl, hz1⟩ := read_i16C h3
      obtain ⟨a, b, c, e, he, ha, hb, hc, hd⟩ := read_mxC h4
      simp only [List.cons.injEq, and_true] at he
      obtain ⟨rfl, rfl, rfl, rfl⟩ := he
      exact ⟨⟨f, i, x, z, a, b, c, e⟩, rfl, ⟨hf1, hi1, hx1, hz1, ha, hb, hc, hd⟩⟩

set_option maxRecDepth 100000 in
theorem read_cps {m : Nat} {c : Value} {y : DataW H × List MemPlace} (h : DataW.trod enc Try.prog W 0 (fun _ => true) true m 30 [c] = some y) :
    ∃ A len cap l, c = .slice A len cap ∧ RowS encPt 8 W A len l ∧ (∀ q ∈ l, q.ok) ∧ len ≤ 9223372036854775807 ∧ len ≤ cap := by
  have hs : ∃ A n k, c = .slice A n k := by
    rcases DataW.trod_slice Try.underlying30 h with ⟨hcs, _⟩ | ⟨x, l, k, elems, rest, n, _, hcs, _⟩
    · simp at hcs; exact ⟨none, 0, 0, hcs⟩
    · simp at hcs; exact ⟨some x, l, k, hcs⟩
  obtain ⟨A, n, k, rfl⟩ := hs
  rcases open_sliceK (P := Try.prog) (enc := enc) (w := W) (d := y.1) (p := y.2) Try.underlying30 Try.cellsCp ⟨m, by simpa [Value.cells] using h⟩ with ⟨rfl, rfl, rfl⟩ | ⟨x, rfl, hl, hm, hi⟩
  · exact ⟨none, 0, 0, [], rfl, RowS.empty _ _, (fun q hq => by cases hq), by omega, by omega⟩
  · obtain ⟨l, hll, hp⟩ := list_of (p := fun i (q : Pt) => q.ok ∧ ∀ j u, (encPt q)[j]? = some u → W.cell? (x.add (i * 8 + j)) = some u) n (fun i hlt => by
      obtain ⟨cs, m, y, hcl, hc, ht⟩ := hi i hlt
      obtain ⟨q, rfl, hq⟩ := read_cp ht
      refine ⟨q, hq, fun j u hu => ?_⟩
      have hj : j < 8 := (List.getElem?_eq_some_iff.1 hu).1
      rw [hc j hj]
      exact hu)
    simp only [maxLen] at hm
    refine ⟨some x, n, k, l, rfl, rowS_in encPt_len l hll (fun i y hy => (hp i y hy).2), fun q hq => ?_, by omega, hl⟩
    obtain ⟨i, hi2⟩ := List.mem_iff_getElem?.1 hq
    exact (hp i q hi2).1

set_option maxRecDepth 100000 in
theorem read_box4 {m : Nat} {l : List Value} {y : DataW H × List MemPlace} (h : DataW.trod enc Try.prog W 0 (fun _ => true) true m 31 l = some y) :
    ∃ x0 x1 x2 x3, l = [.int .i16 x0, .int .i16 x1, .int .i16 x2, .int .i16 x3] ∧ ∀ x ∈ [x0, x1, x2, x3], -32768 ≤ x ∧ x ≤ 32767 := by
  obtain ⟨ys, m, _, _, hcl, hyl, ha⟩ := DataW.trod_array Try.underlying31 h
  rw [Try.cellsArrC] at hcl
  match l, hcl with
  | [c0, c1, c2, c3], _ =>
    have key : ∀ i, i < 4 → ∀ c, ([c0, c1, c2, c3] : List Value)[i]? = some c → ∃ a, c = .int .i16 a ∧ -32768 ≤ a ∧ a ≤ 32767 := by
      intro i hi c hc
      have h2 := ha i hi
      rw [Try.cellsI16C, Nat.mul_one, List.getElem?_eq_getElem (by omega)] at h2
      obtain ⟨hlt, hce⟩ := List.getElem?_eq_some_iff.1 hc
      rw [List.drop_eq_getElem_cons hlt, List.take_succ_cons, List.take_zero, hce] at h2
      exact read_i16C h2
    obtain ⟨a0, rfl, b0⟩ := key 0 (by omega) c0 rfl
    obtain ⟨a1, rfl, b1⟩ := key 1 (by omega) c1 rfl
    obtain ⟨a2, rfl, b2⟩ := key 2 (by omega) c2 rfl
    obtain ⟨a3, rfl, b3⟩ := key 3 (by omega) c3 rfl
    refine ⟨a0, a1, a2, a3, rfl, ?_⟩
    intro x hx
    simp only [List.mem_cons, List.not_mem_nil, or_false] at hx
    rcases hx with rfl | rfl | rfl | rfl <;> assumption

set_option maxRecDepth 100000 in
theorem open_cg (hv : Value.okWide Try.prog W .any base 34 v) (h : DataW.Trod enc Try.prog W 0 (fun _ => true) true 34 v d p) :
    ∃ g : CgV, v = g.val ∧ g.rows W ∧ g.g.ok ∧ g.q ≤ g.qc ∧ g.q ≤ 9223372036854775807 ∧ g.pn ≤ 9223372036854775807 := by
  obtain ⟨cs, rfl, hsz⟩ := okWide_struct Try.underlying34 hv
  obtain ⟨fuel, hfu⟩ := h
  obtain ⟨l, rfl⟩ : ∃ l : List Value, cs = Array.mk l := ⟨cs.toList, rfl⟩
  obtain ⟨xs, n, _, _, hl, hxl, hf⟩ := DataW.trod_struct Try.underlying34 hfu
  rw [Try.cellsCg] at hl
  simp only [Value.cells] at hl hf
  match l, hl with
  | [c0, c1, c2, c3, c4, c5], _ =>
    match xs, hxl with
    | [y0, y1, y2], _ =>
      have h0 := hf 0 _ rfl
      have h1 := hf 1 _ rfl
      have h2 := hf 2 _ rfl
      simp [Try.cellsArrC, Try.cellsCps, Try.cellsBsC] at h0 h1 h2
      obtain ⟨x0, x1, x2, x3, e, hx⟩ := read_box4 h0
      simp only [List.cons.injEq, and_true] at e
      obtain ⟨rfl, rfl, rfl, rfl⟩ := e
      obtain ⟨A, q, qc, ps, rfl, hr, hok, hq, hqc⟩ := read_cps h1
      obtain ⟨B, pn, pc, pr, rfl, hr2, hB, hn, _⟩ := read_bsC h2
      exact ⟨⟨⟨x0, x1, x2, x3, ps, pr⟩, A, q, qc, B, pn, pc⟩, rfl, ⟨hr, hr2⟩, ⟨hx, hok, hB⟩, hqc, hq, hn⟩
end

end Go.Proofs.Ytgafjieghckimaa

namespace Go.Proofs.Ytgafjieghckimaa
open Go.RowKit
set_option linter.unusedVariables false
set_option linter.unusedSimpArgs false

/-- Six cells, one by one. -/
def sets6 (w : World) (b : Nat) (v0 v1 v2 v3 v4 v5 : Value) : World := (((((w.setCell ⟨b, 0, none⟩ v0).setCell ⟨b, 1, none⟩ v1).setCell ⟨b, 2, none⟩ v2).setCell ⟨b, 3, none⟩ v3).setCell ⟨b, 4, none⟩ v4).setCell ⟨b, 5, none⟩ v5
theorem sets6_block {w : World} {b t : Nat} {z0 z1 z2 z3 z4 z5 : Value} (v0 v1 v2 v3 v4 v5 : Value) (h : w.heap[b]? = some (.cells #[z0, z1, z2, z3, z4, z5] t (0, 0))) : (sets6 w b v0 v1 v2 v3 v4 v5).heap[b]? = some (.cells #[v0, v1, v2, v3, v4, v5] t (0, 0)) := by
  have h0 := set_block (set_block (set_block (set_block (set_block (set_block h 0 v0) 1 v1) 2 v2) 3 v3) 4 v4) 5 v5
  simpa [sets6] using h0
theorem sets6_far {w : World} {b g : Nat} (v0 v1 v2 v3 v4 v5 : Value) (h : g ≠ b) : (sets6 w b v0 v1 v2 v3 v4 v5).heap[g]? = w.heap[g]? :=
  (Below.heap_setCell _ _ _ _ h).trans ((Below.heap_setCell _ _ _ _ h).trans ((Below.heap_setCell _ _ _ _ h).trans ((Below.heap_setCell _ _ _ _ h).trans ((Below.heap_setCell _ _ _ _ h).trans (Below.heap_setCell _ _ _ _ h)))))
theorem sets6_size {w : World} {b : Nat} (v0 v1 v2 v3 v4 v5 : Value) : (sets6 w b v0 v1 v2 v3 v4 v5).heap.size = w.heap.size := by simp [sets6, World.setCell]
theorem sets6_below {B b : Nat} {u w : World} (v0 v1 v2 v3 v4 v5 : Value) (h : Below B u w) (hb : B ≤ b) : Below B u (sets6 w b v0 v1 v2 v3 v4 v5) :=
  (((((h.setCell (p := ⟨b, 0, none⟩) hb v0).setCell (p := ⟨b, 1, none⟩) hb v1).setCell (p := ⟨b, 2, none⟩) hb v2).setCell (p := ⟨b, 3, none⟩) hb v3).setCell (p := ⟨b, 4, none⟩) hb v4).setCell (p := ⟨b, 5, none⟩) hb v5
theorem cB_len (g : Cg) (hq : g.ps.length ≤ 200) (hp : g.pr.length ≤ 30) : (cB g).length ≤ 4000 := by
  have h1 := ptsB_len g.ps g.ps.length
  have h2 := boxB_len [g.x0, g.x1, g.x2, g.x3]
  have h3 : (if codeB g.ps then b2 g.pr.length ++ g.pr else []).length ≤ 32 := by
    split
    · rw [List.length_append]; show 2 + _ ≤ 32; omega
    · simp
  unfold cB
  rw [List.length_append, List.length_append, List.length_append, h2]
  show 2 + 2 * 4 + _ + _ ≤ 4000
  omega

set_option maxRecDepth 1000000 in
set_option maxHeartbeats 8000000 in
theorem law_CompoForms (v : CgV) (A : Option Addr) (n c : Nat) (zs : List Int) (w : World) (hv : v.rows w) (ho : v.g.ok) (h1 : v.q ≤ v.qc) (h2 : v.q ≤ 9223372036854775807) (h3 : v.pn ≤ 9223372036854775807)
    (hr : Row w A n (cellsOf .u8 zs)) (hB : Bytes zs) (hn : n ≤ 9223372036854775807) :
    Calls Try.prog 4 #[v.val, .slice A n c] w (True_ w) := by
  have hA := (Below.refl w.heap.size w).alloc (Nat.le_refl _) (.cells v.cells 34)
  have hk := heap_alloc_new w (.cells v.cells 34)
  have HAw := Lib.hid (awake13_any (w.alloc (.cells v.cells 34)))
  have HFw : Hid (∀ W, Below w.heap.size w W → Calls Try.prog 20 #[v.val] W (RetCFew W v)) := fun W hW => cfew_any v W (hv.below hW) h1 h3 h2
  have HC : Hid (∀ W, Below w.heap.size w W → Calls Try.prog 21 #[.slice A n c, .int .i64 20] W (RetB W (zs.take (20 : Int).toNat))) := fun W hW => cut_any _ _ _ zs 20 W (hr.below hW) hn (by omega)
  have HBt : Hid (Bytes (zs.take (20 : Int).toNat)) := cut_bytes hB _
  have HLt : Hid ((zs.take (20 : Int).toNat).length ≤ 20) := by show _ ≤ _; rw [List.length_take]; simp; omega
  have HFo : Hid ((cFew v.g).ok) := cFew_ok ho
  have HFl : Hid ((cFew v.g).ps.length ≤ 210 ∧ (cFew v.g).pr.length ≤ 30) := ⟨by show (v.g.ps.take 210).length ≤ 210; rw [List.length_take]; omega, by show (v.g.pr.take 30).length ≤ 30; rw [List.length_take]; omega⟩
  clear hv ho h1 h2 h3 hr hB hn
  unfold RetCFew at HFw
  generalize cFew v.g = gf at *
  unfold CgV.val at *
  unfold CgV.cells at *
  obtain ⟨⟨x0, x1, x2, x3, qs, pr⟩, QA, q, qc, PA, pn, pc⟩ := v
  simp only at *
  go_enter Try.func4, Try.ntmps4
  go_wp2_with fail
  generalize w.alloc _ = V at *
  with_reducible refine HAw.out.mono ?_
  rintro e w0 ⟨rfl, hb0⟩
  have hk0 := kept_block hk hb0
  have hbw0 := hA.trans (hb0.mono hA.size)
  have HF0 := Lib.hid (HFw.out w0 hbw0)
  clear HAw HFw hA hk hb0
  obtain ⟨c0, c1, c2, c3, c4, c5⟩ := cells6 hk0
  go_wp2_with fail
  with_reducible refine HF0.out.mono ?_
  rintro e w1 ⟨u, rfl, hur, hug, huq, hup, hb1, hfr1, hfr2⟩
  have hk1 := kept_block hk0 hb1
  have hbw1 := hbw0.trans (hb1.mono hbw0.size)
  have hlt0 := lt_of_block hk0
  have HC1 := Lib.hid (HC.out w1 hbw1)
  clear HF0 HC hk0 hbw0 hb1 c0 c1 c2 c3 c4 c5
  go_wp2_with fail
  with_reducible refine HC1.out.mono ?_
  rintro e w2 ⟨MA, mn, mc, rfl, hown2, hb2⟩
  have hk2 := kept_block hk1 hb2
  have hbw2 := hbw1.trans (hb2.mono hbw1.size)
  have hur2 := hur.below hb2
  have hmrow := hown2.row
  have hml := hown2.len
  have hmn : mn ≤ 20 := by have := HLt.out; omega
  have hmne : ∀ g, blockOf MA = some g → g ≠ w.heap.size := fun g e => by have h4 := (hown2.from_ g e).1; have h5 := lt_of_block hk1; omega
  have hne1 : ∀ g, blockOf u.QA = some g → g ≠ w.heap.size := fun g e => by have := hfr1 g e; omega
  have hne2 : ∀ g, blockOf u.PA = some g → g ≠ w.heap.size := fun g e => by have := hfr2 g e; omega
  clear HC1 hk1 hbw1 hb2 hur hown2 hfr1 hfr2
  generalize zs.take (20 : Int).toNat = ms at *
  obtain ⟨⟨y0, y1, y2, y3, rs, pt⟩, TA, t, tc, RA, rn, rc⟩ := u
  simp only at hug huq hup hne1 hne2
  subst hug
  have hpl : rs.length = t := hur2.ps.len
  have hrl : pt.length = rn := by have := hur2.pr.len; simpa [cellsOf] using this
  obtain ⟨c0, c1, c2, c3, c4, c5⟩ := cells6 hk2
  have fz := thawed hk2
  have hk3 := sets6_block (.int .i16 y0) (.int .i16 y1) (.int .i16 y2) (.int .i16 y3) (.slice TA t tc) (.slice RA rn rc) hk2
  have hbw3 := sets6_below (.int .i16 y0) (.int .i16 y1) (.int .i16 y2) (.int .i16 y3) (.slice TA t tc) (.slice RA rn rc) hbw2 (Nat.le_refl w.heap.size)
  have hmr3 := hmrow.keep (w' := sets6 w2 w.heap.size (.int .i16 y0) (.int .i16 y1) (.int .i16 y2) (.int .i16 y3) (.slice TA t tc) (.slice RA rn rc)) (by rw [sets6_size]; exact Nat.le_refl _) (fun g e _ => sets6_far _ _ _ _ _ _ (hmne g e))
  have hur3 : CgV.rows (sets6 w2 w.heap.size (.int .i16 y0) (.int .i16 y1) (.int .i16 y2) (.int .i16 y3) (.slice TA t tc) (.slice RA rn rc)) ⟨⟨y0, y1, y2, y3, rs, pt⟩, TA, t, tc, RA, rn, rc⟩ :=
    ⟨hur2.ps.keep (by rw [sets6_size]; exact Nat.le_refl _) (fun g e _ => sets6_far _ _ _ _ _ _ (hne1 g e)), hur2.pr.keep (by rw [sets6_size]; exact Nat.le_refl _) (fun g e _ => sets6_far _ _ _ _ _ _ (hne2 g e))⟩
  unfold sets6 at hk3 hbw3 hmr3 hur3
  try simp only [CgV.val, CgV.cells]
  go_upto_region 4 with fail
  clear c0 c1 c2 c3 c4 c5 fz hk2 hbw2 hmrow hur2 hmne hne1 hne2
  generalize (((((w2.setCell _ _).setCell _ _).setCell _ _).setCell _ _).setCell _ _).setCell _ _ = w3 at *
  obtain ⟨gg, hgg⟩ : ∃ gg : Cg, gg = ⟨y0, y1, y2, y3, rs, pt⟩ := ⟨_, rfl⟩
  have HGg := Lib.hid hgg
  have hsz3 := lt_of_block hk3
  have HBy : Hid (Calls Try.prog 17 #[.agg #[.int .i16 y0, .int .i16 y1, .int .i16 y2, .int .i16 y3, .slice TA t tc, .slice RA rn rc]] w3 (RetB w3 (cBytes gg))) := by rw [hgg]; exact cbytes_any ⟨⟨y0, y1, y2, y3, rs, pt⟩, TA, t, tc, RA, rn, rc⟩ w3 hur3 (by show t ≤ 1000000; omega) (by show rn ≤ 1000000; omega) HFo.out
  have HRi : Hid (∀ W, Below w3.heap.size w3 W → Calls Try.prog 18 #[.agg #[.int .i16 y0, .int .i16 y1, .int .i16 y2, .int .i16 y3, .slice TA t tc, .slice RA rn rc]] W (Ret W (.bool (cRight gg)))) := fun W hW => by rw [hgg]; exact cright_any ⟨⟨y0, y1, y2, y3, rs, pt⟩, TA, t, tc, RA, rn, rc⟩ W (hur3.below hW) (by show t ≤ 1000000; omega) (by show rn ≤ 1000000; omega) HFo.out
  have HOw : Hid (∀ W, Below w3.heap.size w3 W → Calls Try.prog 23 #[.agg #[.int .i16 y0, .int .i16 y1, .int .i16 y2, .int .i16 y3, .slice TA t tc, .slice RA rn rc]] W (RetCOwn W ⟨⟨y0, y1, y2, y3, rs, pt⟩, TA, t, tc, RA, rn, rc⟩)) := fun W hW => cown_any ⟨⟨y0, y1, y2, y3, rs, pt⟩, TA, t, tc, RA, rn, rc⟩ W (hur3.below hW) (by show t ≤ 1000000; omega) HFo.out
  have HFo2 : Hid (gg.ok) := by rw [hgg]; exact HFo.out
  have HFl2 : Hid (gg.ps.length ≤ 210 ∧ gg.pr.length ≤ 30) := by rw [hgg]; exact HFl.out
  clear hgg HFl HFo hpl hrl
  obtain ⟨c0, c1, c2, c3, c4, c5⟩ := cells6 hk3
  go_wp2_with fail
  with_reducible refine HBy.out.mono ?_
  rintro e w4 ⟨BA, bn, bc, rfl, hown4, hb4⟩
  have hk4 := kept_block hk3 hb4
  have HO4 := Lib.hid (HOw.out w4 hb4)
  clear HBy c0 c1 c2 c3 c4 c5
  obtain ⟨c0, c1, c2, c3, c4, c5⟩ := cells6 hk4
  go_wp2_with fail
  with_reducible refine HO4.out.mono ?_
  rintro e w5 ⟨r, rfl, hrr, hrg, hrq, hrn, hb5⟩
  have hb35 := hb4.trans (hb5.mono hb4.size)
  have HRr := Lib.hid (rright13_any r w5 hrr (by rw [hrq]; show t ≤ 1000000; omega) (by rw [hrn]; show rn ≤ 1000000; omega) (by rw [hrg]; show Cg.ok ⟨y0, y1, y2, y3, rs, pt⟩; rw [← HGg.out]; exact HFo2.out))
  rw [hrg, show CgV.g ⟨⟨y0, y1, y2, y3, rs, pt⟩, TA, t, tc, RA, rn, rc⟩ = gg from HGg.out.symm] at HRr
  have hown5 := hown4.below hb5
  clear HO4 hrr hrg hrq hrn c0 c1 c2 c3 c4 c5
  go_wp2_with fail
  with_reducible refine HRr.out.mono ?_
  rintro e w6 ⟨rfl, hb6⟩
  have hb36 := hb35.trans (hb6.mono hb35.size)
  have hown6 := hown5.below hb6
  have hk6 := kept_block hk3 hb36
  clear HRr hown4 hown5 hb4 hb5 hb6 hb35 hk4
  obtain ⟨c0, c1, c2, c3, c4, c5⟩ := cells6 hk6
  have HR6 := Lib.hid (HRi.out w6 hb36)
  unfold cBytes at hown6
  have hbw6 := hbw3.trans (hb36.mono hbw3.size)
  cases hcr : cRight gg with
  | false =>
    rw [hcr] at HR6
    rw [hcr, if_neg (by decide)] at hown6
    obtain rfl : bn = 0 := hown6.len.symm
    go_wp2_with fail
    with_reducible refine HR6.out.mono ?_
    rintro e w7 ⟨rfl, hb7⟩
    go_wp2
    go_ret
    exact ⟨rfl, hbw6.trans (hb7.mono hbw6.size)⟩
  | true =>
    rw [hcr, if_pos rfl] at hown6
    have HCr := Lib.hid hcr
    have hq200 := (cRight_parts hcr).2.1
    have hcl := cB_len gg hq200 HFl2.out.2
    have hbn := hown6.len
    have HBn : Hid ((cB gg).length = bn) := hbn
    have hmr6 := hmr3.below hb36
    have HJ := Lib.hid (joinTwoC_any w6 w6.heap.size BA MA bn bc mn mc _ _ rfl hown6.row hmr6 (by omega))
    have hdec := cB_dec gg HFo2.out hcr ms
    have hcok := cOk_cB gg HFo2.out hcr ms
    have hBy2 := cB_bytes gg HFo2.out hcr
    have hBj : Bytes (cB gg ++ ms) := Bytes.app hBy2 HBt.out
    have hjl : (cB gg ++ ms).length ≤ 5000 := by rw [List.length_append]; omega
    clear hcr HR6 hmr3
    go_wp2_with fail
    with_reducible refine HJ.out.mono ?_
    rintro e w7 ⟨JA, jn, jc, rfl, hown7, hb7⟩
    have hjn := hown7.len
    have HPa := Lib.hid (cparse_any JA jn jc _ w7 hown7.row hBj (by omega) hown7.cap)
    have hb37 := hb36.trans (hb7.mono hb36.size)
    have hown67 := hown6.below hb7
    clear HJ hown7 hown6 c0 c1 c2 c3 c4 c5 hb7 hmr6
    go_wp2_with fail
    with_reducible refine HPa.out.mono ?_
    rintro e w8 ⟨hb8, hway⟩
    rcases hway with ⟨hno, _⟩ | ⟨_, x, rfl, hxr, hxg, hxo, hxq⟩
    · rw [hcok] at hno; cases hno
    rw [hdec.2.1] at hxg
    rw [hdec.2.2, HBn.out]
    have hb38 := hb37.trans (hb8.mono hb37.size)
    have hA9 := (Below.refl w8.heap.size w8).alloc (Nat.le_refl _) (.cells x.cells 34)
    have hkx := heap_alloc_new w8 (.cells x.cells 34)
    have hnew := heap_alloc_new w8 (.cells #[.int .i16 0, .int .i16 0, .int .i16 0, .int .i16 0, .slice none 0 0, .slice none 0 0] 34)
    have hb39 := hb38.trans (hA9.mono hb38.size)
    have hxr9 := hxr.below hA9
    have hown9 := (hown67.below hb8).below hA9
    have hk9 := kept_block hk3 hb39
    have hbw9 := hbw3.trans (hb39.mono hbw3.size)
    have hur9 := hur3.below hb39
    have HXg := Lib.hid hxg
    have HXo := Lib.hid hxo
    have HXq := Lib.hid hxq
    have hxpn : x.pn = x.g.pr.length := hxr.pr.len.symm
    have HXn : Hid (x.pn ≤ 30) := by show _ ≤ _; rw [hxpn, hxg]; exact HFl2.out.2
    clear HPa hb8 hb38 hA9 hxr hown67 hxg hxo hxq hxpn hdec hcok hBj hjl hjn hb37 hbw6 hk6 hk3
    obtain ⟨⟨z0, z1, z2, z3, ss, pz⟩, SA, sn, sc, ZA, zn, zc⟩ := x
    simp only [CgV.val, CgV.cells] at *
    go_upto_region 8 with fail
    clear hnew
    generalize w8.alloc _ = w9 at *
    generalize w8.heap.size = bxx at *
    obtain ⟨c0, c1, c2, c3, c4, c5⟩ := cells6 hk9
    obtain ⟨d0, d1, d2, d3, d4, d5⟩ := cells6 hkx
    have HR9 := Lib.hid (HRi.out w9 hb39)
    rw [HCr.out] at HR9
    clear HRi
    go_wp2_with fail
    with_reducible refine HR9.out.mono ?_
    rintro e w10 ⟨rfl, hb10⟩
    have hb310 := hb39.trans (hb10.mono hb39.size)
    have hk10 := kept_block hk9 hb10
    have hkx10 := kept_block hkx hb10
    have HO10 := Lib.hid (HOw.out w10 hb310)
    clear HR9 HOw c0 c1 c2 c3 c4 c5 d0 d1 d2 d3 d4 d5 hb39
    obtain ⟨c0, c1, c2, c3, c4, c5⟩ := cells6 hk10
    go_wp2_with fail
    with_reducible refine HO10.out.mono ?_
    rintro e w11 ⟨r, rfl, hrr, hrg, hrq, hrn, hb11⟩
    have hrg2 : r.g = gg := hrg.trans HGg.out.symm
    have HRb := Lib.hid (rbytes13_any r w11 hrr (by rw [hrg2]; exact HFo2.out) (by rw [hrg2]; exact HCr.out))
    rw [hrg2] at HRb
    have hb911 := hb10.trans (hb11.mono hb10.size)
    clear HO10 hrr hrg hrg2 hrq hrn c0 c1 c2 c3 c4 c5 hb11 hb10 hb310 hk10 hkx10
    go_wp2_with fail
    with_reducible refine HRb.out.mono ?_
    rintro e w12 ⟨DA, dn, dc, rfl, hown12, hb12⟩
    have hb912 := hb911.trans (hb12.mono hb911.size)
    have HSs := Lib.hid (same_any BA DA bn bc dn dc _ _ w12 (hown9.row.below hb912) hown12.row (by omega) (by have := hown12.len; omega))
    rw [sameB_refl] at HSs
    clear HRb hown12 hb911
    go_wp2_with fail
    with_reducible refine HSs.out.mono ?_
    rintro e w13 ⟨rfl, q13, hq13⟩
    have hb913 : Below w9.heap.size w9 w13 := by rw [hq13]; exact below_drewN hb912 q13
    have hk13 := kept_block hk9 hb913
    have hkx13 := kept_block hkx hb913
    have hxr13 := hxr9.below hb913
    have e1 : ((bn : Int) == (bn : Int)) = true := by simp
    have HSm : Hid (∀ W, Below w9.heap.size w9 W → CgV.rows W ⟨⟨y0, y1, y2, y3, rs, pt⟩, TA, t, tc, RA, rn, rc⟩ → Calls Try.prog 27 #[.agg #[.int .i16 z0, .int .i16 z1, .int .i16 z2, .int .i16 z3, .slice SA sn sc, .slice ZA zn zc], .agg #[.int .i16 y0, .int .i16 y1, .int .i16 y2, .int .i16 y3, .slice TA t tc, .slice RA rn rc]] W (Ret W (.bool true))) := fun W hW hgr => by
      have h := csame_any ⟨⟨z0, z1, z2, z3, ss, pz⟩, SA, sn, sc, ZA, zn, zc⟩ ⟨⟨y0, y1, y2, y3, rs, pt⟩, TA, t, tc, RA, rn, rc⟩ W (hxr9.below hW) hgr (by show sn ≤ 1000000; have := HXq.out; omega) (by show zn ≤ 1000000; have := HXn.out; omega) (by show t ≤ 1000000; omega) (by show rn ≤ 1000000; omega) HXo.out.pr (by show Bytes pt; have := HFo2.out.pr; rw [HGg.out] at this; exact this)
      rw [show CgV.g ⟨⟨z0, z1, z2, z3, ss, pz⟩, SA, sn, sc, ZA, zn, zc⟩ = gg from HXg.out, show CgV.g ⟨⟨y0, y1, y2, y3, rs, pt⟩, TA, t, tc, RA, rn, rc⟩ = gg from HGg.out.symm, cgSame_refl] at h
      exact h
    have HSm13 := Lib.hid (HSm.out w13 hb913 (hur9.below hb913))
    have hbf := hbw9.trans (hb913.mono hbw9.size)
    clear HSs HSm hb912 hq13
    obtain ⟨c0, c1, c2, c3, c4, c5⟩ := cells6 hk13
    obtain ⟨d0, d1, d2, d3, d4, d5⟩ := cells6 hkx13
    go_wp2_with fail
    with_reducible refine HSm13.out.mono ?_
    rintro e w14 ⟨rfl, hb14⟩
    go_wp2
    go_ret
    exact ⟨rfl, hbf.trans (hb14.mono hbf.size)⟩

end Go.Proofs.Ytgafjieghckimaa

namespace Go.Proofs.Ytgafjieghckimaa
open Go.RowKit
set_option linter.unusedVariables false
set_option linter.unusedSimpArgs false

set_option maxRecDepth 1000000 in
set_option maxHeartbeats 16000000 in
theorem law_CompoBends (v : CgV) (at0 turn : Int) (w : World) (hv : v.rows w) (ho : v.g.ok) (h1 : v.q ≤ v.qc) (h2 : v.q ≤ 9223372036854775807) (h3 : v.pn ≤ 9223372036854775807)
    (a0 : 0 ≤ at0) (a1 : at0 ≤ 65535) (t0 : 0 ≤ turn) (t1 : turn ≤ 255) :
    Calls Try.prog 6 #[v.val, .int .u16 at0, .int .u8 turn] w (True_ w) := by
  have hA := (Below.refl w.heap.size w).alloc (Nat.le_refl _) (.cells v.cells 34)
  have hk := heap_alloc_new w (.cells v.cells 34)
  have HAw := Lib.hid (awake13_any (w.alloc (.cells v.cells 34)))
  have HFw : Hid (∀ W, Below w.heap.size w W → Calls Try.prog 20 #[v.val] W (RetCFew W v)) := fun W hW => cfew_any v W (hv.below hW) h1 h3 h2
  have HFo : Hid ((cFew v.g).ok) := cFew_ok ho
  have HFl : Hid ((cFew v.g).ps.length ≤ 210 ∧ (cFew v.g).pr.length ≤ 30) := ⟨by show (v.g.ps.take 210).length ≤ 210; rw [List.length_take]; omega, by show (v.g.pr.take 30).length ≤ 30; rw [List.length_take]; omega⟩
  clear hv ho h1 h2 h3
  unfold RetCFew at HFw
  generalize cFew v.g = gf at *
  unfold CgV.val at *
  unfold CgV.cells at *
  obtain ⟨⟨x0, x1, x2, x3, qs, pr⟩, QA, q, qc, PA, pn, pc⟩ := v
  simp only at *
  go_enter Try.func6, Try.ntmps6
  go_wp2_with fail
  generalize w.alloc _ = V at *
  with_reducible refine HAw.out.mono ?_
  rintro e w0 ⟨rfl, hb0⟩
  have hk0 := kept_block hk hb0
  have hbw0 := hA.trans (hb0.mono hA.size)
  have HF0 := Lib.hid (HFw.out w0 hbw0)
  clear HAw HFw hA hk hb0
  obtain ⟨c0, c1, c2, c3, c4, c5⟩ := cells6 hk0
  go_wp2_with fail
  with_reducible refine HF0.out.mono ?_
  rintro e w1 ⟨u, rfl, hur, hug, huq, hup, hb1, hfr1, hfr2⟩
  have hk1 := kept_block hk0 hb1
  have hbw1 := hbw0.trans (hb1.mono hbw0.size)
  have hlt0 := lt_of_block hk0
  clear HF0 hk0 hbw0 hb1 c0 c1 c2 c3 c4 c5
  have hne1 : ∀ g, blockOf u.QA = some g → g ≠ w.heap.size := fun g e => by have := hfr1 g e; omega
  have hne2 : ∀ g, blockOf u.PA = some g → g ≠ w.heap.size := fun g e => by have := hfr2 g e; omega
  clear hfr1 hfr2
  obtain ⟨⟨y0, y1, y2, y3, rs, pt⟩, TA, t, tc, RA, rn, rc⟩ := u
  simp only at hug huq hup hne1 hne2
  subst hug
  have hpl : rs.length = t := hur.ps.len
  have hrl : pt.length = rn := by have := hur.pr.len; simpa [cellsOf] using this
  obtain ⟨c0, c1, c2, c3, c4, c5⟩ := cells6 hk1
  have fz := thawed hk1
  have hk3 := sets6_block (.int .i16 y0) (.int .i16 y1) (.int .i16 y2) (.int .i16 y3) (.slice TA t tc) (.slice RA rn rc) hk1
  have hbw3 := sets6_below (.int .i16 y0) (.int .i16 y1) (.int .i16 y2) (.int .i16 y3) (.slice TA t tc) (.slice RA rn rc) hbw1 (Nat.le_refl w.heap.size)
  have hur3 : CgV.rows (sets6 w1 w.heap.size (.int .i16 y0) (.int .i16 y1) (.int .i16 y2) (.int .i16 y3) (.slice TA t tc) (.slice RA rn rc)) ⟨⟨y0, y1, y2, y3, rs, pt⟩, TA, t, tc, RA, rn, rc⟩ :=
    ⟨hur.ps.keep (by rw [sets6_size]; exact Nat.le_refl _) (fun g e _ => sets6_far _ _ _ _ _ _ (hne1 g e)), hur.pr.keep (by rw [sets6_size]; exact Nat.le_refl _) (fun g e _ => sets6_far _ _ _ _ _ _ (hne2 g e))⟩
  unfold sets6 at hk3 hbw3 hur3
  try simp only [CgV.val, CgV.cells]
  go_upto_region 4 with fail
  clear c0 c1 c2 c3 c4 c5 fz hk1 hbw1 hur hne1 hne2
  generalize (((((w1.setCell _ _).setCell _ _).setCell _ _).setCell _ _).setCell _ _).setCell _ _ = w3 at *
  obtain ⟨gg, hgg⟩ : ∃ gg : Cg, gg = ⟨y0, y1, y2, y3, rs, pt⟩ := ⟨_, rfl⟩
  have HGg := Lib.hid hgg
  have hsz3 := lt_of_block hk3
  have HOw : Hid (∀ W, Below w3.heap.size w3 W → Calls Try.prog 23 #[.agg #[.int .i16 y0, .int .i16 y1, .int .i16 y2, .int .i16 y3, .slice TA t tc, .slice RA rn rc]] W (RetCOwn W ⟨⟨y0, y1, y2, y3, rs, pt⟩, TA, t, tc, RA, rn, rc⟩)) := fun W hW => cown_any ⟨⟨y0, y1, y2, y3, rs, pt⟩, TA, t, tc, RA, rn, rc⟩ W (hur3.below hW) (by show t ≤ 1000000; omega) HFo.out
  have HFo2 : Hid (gg.ok) := by rw [hgg]; exact HFo.out
  have HFl2 : Hid (gg.ps.length ≤ 210 ∧ gg.pr.length ≤ 30) := by rw [hgg]; exact HFl.out
  clear hgg HFl HFo hpl hrl hur3
  have HO4 := Lib.hid (HOw.out w3 (Below.refl _ _))
  obtain ⟨c0, c1, c2, c3, c4, c5⟩ := cells6 hk3
  go_wp2_with fail
  with_reducible refine HO4.out.mono ?_
  rintro e w5 ⟨r, rfl, hrr, hrg, hrq, hrn, hb5⟩
  have HRr := Lib.hid (rright13_any r w5 hrr (by rw [hrq]; show t ≤ 1000000; omega) (by rw [hrn]; show rn ≤ 1000000; omega) (by rw [hrg]; show Cg.ok ⟨y0, y1, y2, y3, rs, pt⟩; rw [← HGg.out]; exact HFo2.out))
  rw [hrg, show CgV.g ⟨⟨y0, y1, y2, y3, rs, pt⟩, TA, t, tc, RA, rn, rc⟩ = gg from HGg.out.symm] at HRr
  clear HO4 hrr hrg hrq hrn c0 c1 c2 c3 c4 c5
  go_wp2_with fail
  with_reducible refine HRr.out.mono ?_
  rintro e w6 ⟨rfl, hb6⟩
  have hb36 := hb5.trans (hb6.mono hb5.size)
  have hk6 := kept_block hk3 hb36
  have hbw6 := hbw3.trans (hb36.mono hbw3.size)
  clear HRr hb5 hb6 hk3
  cases hcr : cRight gg with
  | false =>
    go_wp2
    go_ret
    exact ⟨rfl, hbw6⟩
  | true =>
    have HCr := Lib.hid hcr
    have HO6 := Lib.hid (HOw.out w6 hb36)
    have hq200 := (cRight_parts hcr).2.1
    have hcl := cB_len gg hq200 HFl2.out.2
    have HCut : Hid (∀ k, k < (cB gg).length → cOk ((cB gg).take k) = false) := fun k hk => cB_cut gg HFo2.out hcr hk
    have HPB := Lib.hid (cB_bytes gg HFo2.out hcr)
    have hcp : 10 ≤ (cB gg).length := by
      unfold cB
      rw [List.length_append, List.length_append, List.length_append, boxB_len]
      show 10 ≤ 2 + 2 * 4 + _ + _
      omega
    clear hcr HOw
    obtain ⟨c0, c1, c2, c3, c4, c5⟩ := cells6 hk6
    go_wp2_with fail
    with_reducible refine HO6.out.mono ?_
    rintro e w7 ⟨r, rfl, hrr, hrg, hrq, hrn, hb7⟩
    have hrg2 : r.g = gg := hrg.trans HGg.out.symm
    have HRb := Lib.hid (rbytes13_any r w7 hrr (by rw [hrg2]; exact HFo2.out) (by rw [hrg2]; exact HCr.out))
    rw [hrg2] at HRb
    have hbw7 := hbw6.trans (hb7.mono hbw6.size)
    clear HO6 hrr hrg hrg2 hrq hrn c0 c1 c2 c3 c4 c5 hb7 hbw6 hb36 hk6 hbw3
    go_wp2_with fail
    with_reducible refine HRb.out.mono ?_
    rintro e w8 ⟨DA, dn, dc, rfl, hown8, hb8⟩
    have hbw8 := hbw7.trans (hb8.mono hbw7.size)
    have hdl := hown8.len
    have HJ := Lib.hid (joinOneC_any w8 w8.heap.size DA dn dc (cB gg) rfl hown8.row (by omega))
    clear HRb hown8 hb8 hbw7
    go_wp2_with fail
    with_reducible refine HJ.out.mono ?_
    rintro e w9 ⟨JA, jn, jc, rfl, hown9, hb9⟩
    have hB6 := hbw8.trans (hb9.mono hbw8.size)
    have hjl := hown9.len
    have hcap := hown9.cap
    have hn1 : jn ≤ 4000 := by omega
    have hn2 : 0 < jn := by omega
    have hBo := hown9.mono (B' := w.heap.size) hbw8.size
    clear HJ hown9 hb9 hbw8
    have HCt := Lib.hid HCut.out
    rw [hjl] at HCt
    obtain ⟨j, hj⟩ : ∃ j : Nat, at0 % (jn : Int) = (j : Int) := ⟨(at0 % (jn : Int)).toNat, by have := Int.emod_nonneg at0 (show (jn : Int) ≠ 0 by omega); omega⟩
    have hjL : j < jn := by have := Int.emod_lt_of_pos at0 (show (0 : Int) < jn by omega); omega
    rcases hBo.shape with ⟨_, _, h0, _⟩ | ⟨gj, cur, rfl, hgj, _⟩
    · omega
    have hLz : ((jn : Int) == 0) = false := by simp; omega
    have hjc : (j : Int) ≤ (jc : Int) := by omega
    have hL0' : (jn : Int) ≠ 0 := by omega
    have hLpos : (0 : Int) < (jn : Int) := by omega
    have hPc := Lib.hid (cparse_any (some ⟨gj, 0, none⟩) j jc ((cB gg).take j) w9 (by have := hBo.row.take (k := j) (by omega); rwa [cellsOf_take] at this) (take_bytes HPB.out j) (by omega) (by omega))
    clear HCut
    go_wp2_with fail
    with_reducible refine hPc.out.mono ?_
    rintro e w10 ⟨hb10, ⟨hno, rfl⟩ | ⟨hyes, _⟩⟩
    case inr => rw [HCt.out j hjL] at hyes; cases hyes
    have hB7 := hB6.trans (hb10.mono hB6.size)
    have hA8 := (Below.refl w10.heap.size w10).alloc (Nat.le_refl _) (.cells #[.int .i16 0, .int .i16 0, .int .i16 0, .int .i16 0, .slice none 0 0, .slice none 0 0] 34)
    have hnew := heap_alloc_new w10 (.cells #[.int .i16 0, .int .i16 0, .int .i16 0, .int .i16 0, .slice none 0 0, .slice none 0 0] 34)
    have hB8 := hB7.trans (hA8.mono hB7.size)
    have ho8 := (hBo.below hb10).below hA8
    clear hPc hno hb10 hB7 hA8 hBo hB6 HCt
    try unfold cg0
    try simp only [CgV.val, CgV.cells]
    obtain ⟨y, hy⟩ := get_some (zs := cB gg) (k := j) (by omega)
    obtain ⟨g', off', e', _, hcy⟩ := ho8.row.at (cellsOf_get (k := .u8) hy)
    simp only [Option.some.injEq, Addr.mk.injEq, and_true] at e'
    obtain ⟨rfl, rfl⟩ := e'
    rw [Nat.zero_add] at hcy
    have f0 := ho8.thaw
    have hv := xor_byte2 y turn
    have HBs := Lib.hid (set_bytes HPB.out j hv)
    have hset := ho8.set j (bits .xor .u8 y turn)
    have hB9 := hB8.setCell (p := ⟨gj, j, none⟩) hgj (.int .u8 (bits .xor .u8 y turn))
    have i0 : (0 : Int) ≤ (j : Int) := by omega
    have i1 : (j : Int) < (jn : Int) := by omega
    clear hy ho8 hB8
    go_wp2_with fail
    clear hcy f0 hv hnew
    generalize (w10.alloc _).setCell _ _ = W1 at *
    generalize (cB gg).set j (bits .xor .u8 y turn) = ps at *
    clear HPB hj hjL hLz hjc hL0' hLpos hjl hdl hcl hcp
    have hrow := hset.row
    have hcap2 := hset.cap
    have hb1 := hB9
    have HPa := Lib.hid (cparse_any (some ⟨gj, 0, none⟩) jn jc ps W1 hrow HBs.out (by omega) hcap2)
    have HRp : Hid (∀ W, Below W1.heap.size W1 W → Calls Try.prog 28 #[.slice (some ⟨gj, 0, none⟩) jn jc] W (RetR13 W ps)) := fun W hW => rparse13_any (some ⟨gj, 0, none⟩) jn jc ps W (hrow.below hW) HBs.out (by omega) hcap2
    clear hset hB9 hrow
    with_reducible refine HPa.out.mono ?_
    rintro e w2 ⟨hb2, hway⟩
    have hbw2 := hb1.trans (hb2.mono hb1.size)
    rcases hway with ⟨hno, rfl⟩ | ⟨hyes, x, rfl, hvr, hvg, hvo, hvq⟩
    · have hA := (Below.refl w2.heap.size w2).alloc (Nat.le_refl _) (.cells #[.int .i16 0, .int .i16 0, .int .i16 0, .int .i16 0, .slice none 0 0, .slice none 0 0] 34)
      have hbw3 := hbw2.trans (hA.mono hbw2.size)
      have HR2 := Lib.hid (HRp.out _ (hb2.trans (hA.mono hb2.size)))
      have HNo := Lib.hid hno
      have hnew := heap_alloc_new w2 (.cells #[.int .i16 0, .int .i16 0, .int .i16 0, .int .i16 0, .slice none 0 0, .slice none 0 0] 34)
      clear HPa hb2 hbw2 hA HRp hno hb1
      try unfold cg0
      try simp only [CgV.val, CgV.cells]
      go_upto_region 12 with fail
      clear hnew
      generalize w2.alloc _ = V2 at *
      go_wp2_with fail
      with_reducible refine HR2.out.mono ?_
      rintro e w3 ⟨hb3, ⟨_, rfl⟩ | ⟨hyes, _⟩⟩
      case inr => rw [HNo.out] at hyes; cases hyes
      have hb4 := hbw3.trans (hb3.mono hbw3.size)
      have hA4 := (Below.refl w3.heap.size w3).alloc (Nat.le_refl _) (.cells #[.int .i64 0, .int .i64 0, .int .i64 0, .int .i64 0, .slice none 0 0, .slice none 0 0] 49)
      have hnew := heap_alloc_new w3 (.cells #[.int .i64 0, .int .i64 0, .int .i64 0, .int .i64 0, .slice none 0 0, .slice none 0 0] 49)
      have hb5 := hb4.trans (hA4.mono hb4.size)
      unfold rz6
      clear HR2 hb3 hb4 hA4 hbw3
      go_upto_region 13 with fail
      clear hnew
      generalize w3.alloc _ = V3 at *
      go_quiet (fail)
      go_wp2
      go_ret
      first
      | exact ⟨rfl, hb5.drew⟩
      | exact ⟨rfl, below_drewN hb5 _⟩
    · obtain ⟨en, hen⟩ : ∃ en, cgEnd ps 2 = en := ⟨_, rfl⟩
      rw [hen]
      have hRr : cRight (cgRd ps 2) = true := by
        unfold cOk at hyes
        simp only [Bool.and_eq_true] at hyes
        exact hyes.2
      have hpn : x.pn = x.g.pr.length := hvr.pr.len.symm
      have hpn1 : x.pn ≤ 65535 := by
        obtain ⟨_, _, h3, _⟩ := cRight_parts hRr
        rw [hpn, hvg]
        exact h3
      have hA := (Below.refl w2.heap.size w2).alloc (Nat.le_refl _) (.cells x.cells 34)
      have hk := heap_alloc_new w2 (.cells x.cells 34)
      have hnew := heap_alloc_new w2 (.cells #[.int .i16 0, .int .i16 0, .int .i16 0, .int .i16 0, .slice none 0 0, .slice none 0 0] 34)
      have hbw3 := hbw2.trans (hA.mono hbw2.size)
      have hb13 := hb2.trans (hA.mono hb2.size)
      have hvr3 := hvr.below hA
      have HVo := Lib.hid hvo
      have HVg := Lib.hid hvg
      have HVq := Lib.hid hvq
      have HPn := Lib.hid hpn1
      have HEn := Lib.hid hen
      have HYes := Lib.hid hyes
      have HR2 := Lib.hid (HRp.out _ hb13)
      clear HPa hb2 hbw2 hA hvr hvo hvg hvq hpn hpn1 hRr hen hyes HRp hb1
      obtain ⟨⟨x0, x1, x2, x3, qs, pr⟩, QA, q, qc, PA, pn, pc⟩ := x
      simp only [CgV.val, CgV.cells] at *
      go_upto_region 12 with fail
      clear hnew
      generalize w2.alloc _ = w3 at *
      go_wp2_with fail
      with_reducible refine HR2.out.mono ?_
      rintro e w4 ⟨hb4, hway⟩
      rcases hway with ⟨hno, _⟩ | ⟨_, u, rfl, hur, hug, huo, huq, hup⟩
      case inl => rw [HYes.out] at hno; cases hno
      rw [HEn.out]
      have hk4 := kept_block hk hb4
      have hA5 := (Below.refl w4.heap.size w4).alloc (Nat.le_refl _) (.cells u.cells 49)
      have hk5 := kept_block hk4 hA5
      have hku := heap_alloc_new w4 (.cells u.cells 49)
      have hnew5 := heap_alloc_new w4 (.cells #[.int .i64 0, .int .i64 0, .int .i64 0, .int .i64 0, .slice none 0 0, .slice none 0 0] 49)
      have hur5 := hur.below hA5
      have hb35 := hb4.trans (hA5.mono hb4.size)
      have hvr5 := hvr3.below hb35
      have hbw5 := hbw3.trans (hb35.mono hbw3.size)
      have HUg := Lib.hid hug
      have HUq := Lib.hid huq
      have HUp := Lib.hid hup
      have hw35 := lt_of_block hk5
      clear HR2 hb4 hk hk4 hA5 hbw3 hb13 hur hb35 hvr3 hug huo huq hup
      obtain ⟨⟨z0, z1, z2, z3, ss, pz⟩, QB, tt, ttc, PB, rrn, rrc⟩ := u
      simp only [RcV.val, RcV.cells] at *
      go_upto_region 13 with fail
      clear hnew5
      generalize w4.alloc _ = w5 at *
      generalize w4.heap.size = bu at *
      generalize w2.heap.size = bv at *
      have e1 : ((en : Int) == (en : Int)) = true := by simp
      have HOx : Hid (∀ W, Ext w5.drew W → Calls Try.prog 23 #[.agg #[.int .i16 x0, .int .i16 x1, .int .i16 x2, .int .i16 x3, .slice QA q qc, .slice PA pn pc]] W (RetCOwn W ⟨⟨x0, x1, x2, x3, qs, pr⟩, QA, q, qc, PA, pn, pc⟩)) := fun W hW => cown_any ⟨⟨x0, x1, x2, x3, qs, pr⟩, QA, q, qc, PA, pn, pc⟩ W ((hvr5.below (Below.refl _ _).drew).below hW) (by show q ≤ 1000000; have := HVq.out; omega) HVo.out
      obtain ⟨v0, v1, v2, v3, v4, v5⟩ := cells6 (w := w5.drew) hk5
      obtain ⟨u0, u1, u2, u3, u4, u5⟩ := cells6 (w := w5.drew) hku
      have hurd := hur5.below (Below.refl _ w5).drew
      refine regF_start (by kernel_rfl) ?_
      refine regF_take (i := 0) (d := some 67) (v := ?_) (Ext.refl _) rfl rfl (by kernel_rfl) (by kernel_rfl) (by kernel_rfl) (fun _ _ _ h => h) (Or.inl ⟨by rfl, ?_⟩) ?_
      rotate_left
      · intro w' hx; (go_simp <;> with_reducible rfl)
      simp only [Act.put, List.setIfInBounds_toArray, List.set_cons_zero, List.set_cons_succ]
      refine regF_take (i := 1) (d := some 68) (v := ?_) (Ext.refl _) rfl rfl (by kernel_rfl) (by kernel_rfl) (by kernel_rfl) (fun _ _ _ h => h) (Or.inl ⟨by rfl, ?_⟩) ?_
      rotate_left
      · intro w' hx; (go_simp <;> with_reducible rfl)
      simp only [Act.put, List.setIfInBounds_toArray, List.set_cons_zero, List.set_cons_succ]
      refine regF_take (i := 2) (d := some 69) (v := ?_) (Ext.refl _) rfl rfl (by kernel_rfl) (by kernel_rfl) (by kernel_rfl) (fun _ _ _ h => h) (Or.inl ⟨by rfl, ?_⟩) ?_
      rotate_left
      · intro w' hx; (go_simp <;> with_reducible rfl)
      simp only [Act.put, List.setIfInBounds_toArray, List.set_cons_zero, List.set_cons_succ]
      refine regF_take (i := 3) (d := some 70) (v := ?_) (Ext.refl _) rfl rfl (by kernel_rfl) (by kernel_rfl) (by kernel_rfl) (fun _ _ _ h => h) (Or.inl ⟨by rfl, ?_⟩) ?_
      rotate_left
      · intro w' hx; (go_simp <;> with_reducible rfl)
      simp only [Act.put, List.setIfInBounds_toArray, List.set_cons_zero, List.set_cons_succ]
      refine regF_take (i := 4) (d := some 71) (v := ?_) (Ext.refl _) rfl rfl (by kernel_rfl) (by kernel_rfl) (by kernel_rfl) (fun _ _ _ h => h) (Or.inl ⟨by rfl, ?_⟩) ?_
      rotate_left
      · intro w' hx; (go_simp <;> with_reducible rfl)
      simp only [Act.put, List.setIfInBounds_toArray, List.set_cons_zero, List.set_cons_succ]
      refine regF_take (i := 5) (d := some 72) (v := ?_) (Ext.refl _) rfl rfl (by kernel_rfl) (by kernel_rfl) (by kernel_rfl) (fun _ _ _ h => h) (Or.inl ⟨by rfl, ?_⟩) ?_
      rotate_left
      · intro w' hx; (go_simp <;> with_reducible rfl)
      simp only [Act.put, List.setIfInBounds_toArray, List.set_cons_zero, List.set_cons_succ]
      refine regF_take (i := 6) (d := some 73) (v := ?_) (Ext.refl _) rfl rfl (by kernel_rfl) (by kernel_rfl) (by kernel_rfl) (fun _ _ _ h => h) (Or.inl ⟨by rfl, ?_⟩) ?_
      rotate_left
      · intro w' hx; (go_simp <;> with_reducible rfl)
      simp only [Act.put, List.setIfInBounds_toArray, List.set_cons_zero, List.set_cons_succ]
      refine regF_take (i := 7) (d := some 74) (v := ?_) (Ext.refl _) rfl rfl (by kernel_rfl) (by kernel_rfl) (by kernel_rfl) (fun _ _ _ h => h) (Or.inl ⟨by rfl, ?_⟩) ?_
      rotate_left
      · intro w' hx; (go_simp <;> with_reducible rfl)
      simp only [Act.put, List.setIfInBounds_toArray, List.set_cons_zero, List.set_cons_succ]
      refine regF_take (i := 8) (d := some 75) (v := ?_) (Ext.refl _) rfl rfl (by kernel_rfl) (by kernel_rfl) (by kernel_rfl) (fun _ _ _ h => h) (Or.inl ⟨by rfl, ?_⟩) ?_
      rotate_left
      · intro w' hx; (go_simp <;> with_reducible rfl)
      simp only [Act.put, List.setIfInBounds_toArray, List.set_cons_zero, List.set_cons_succ]
      refine regF_take (i := 9) (d := some 76) (v := ?_) (Ext.refl _) rfl rfl (by kernel_rfl) (by kernel_rfl) (by kernel_rfl) (fun _ _ _ h => h) (Or.inl ⟨by rfl, ?_⟩) ?_
      rotate_left
      · intro w' hx; (go_simp <;> with_reducible rfl)
      simp only [Act.put, List.setIfInBounds_toArray, List.set_cons_zero, List.set_cons_succ]
      refine regF_take (i := 10) (d := some 77) (v := ?_) (Ext.refl _) rfl rfl (by kernel_rfl) (by kernel_rfl) (by kernel_rfl) (fun _ _ _ h => h) (Or.inl ⟨by rfl, ?_⟩) ?_
      rotate_left
      · intro w' hx; (go_simp <;> with_reducible rfl)
      simp only [Act.put, List.setIfInBounds_toArray, List.set_cons_zero, List.set_cons_succ]
      refine regF_take (i := 11) (d := some 78) (v := ?_) (Ext.refl _) rfl rfl (by kernel_rfl) (by kernel_rfl) (by kernel_rfl) (fun _ _ _ h => h) (Or.inl ⟨by rfl, ?_⟩) ?_
      rotate_left
      · intro w' hx; (go_simp <;> with_reducible rfl)
      simp only [Act.put, List.setIfInBounds_toArray, List.set_cons_zero, List.set_cons_succ]
      refine regF_take (i := 12) (d := some 79) (v := ?_) (Ext.refl _) rfl rfl (by kernel_rfl) (by kernel_rfl) (by kernel_rfl) (fun _ _ _ h => h) (Or.inl ⟨by rfl, ?_⟩) ?_
      rotate_left
      · intro w' hx; have r0 := hx.cell v0; have r1 := hx.cell v1; have r2 := hx.cell v2; have r3 := hx.cell v3; have r4 := hx.cell v4; have r5 := hx.cell v5; (go_simp <;> with_reducible rfl)
      simp only [Act.put, List.setIfInBounds_toArray, List.set_cons_zero, List.set_cons_succ]
      refine regF_take (i := 14) (d := some 81) (v := ?_) (Ext.refl _) rfl rfl (by kernel_rfl) (by kernel_rfl) (by kernel_rfl) (fun _ _ _ h => h) (Or.inl ⟨by rfl, ?_⟩) ?_
      rotate_left
      · intro w' hx; have r0 := hx.cell u0; have r1 := hx.cell u1; have r2 := hx.cell u2; have r3 := hx.cell u3; have r4 := hx.cell u4; have r5 := hx.cell u5; (go_simp <;> with_reducible rfl)
      simp only [Act.put, List.setIfInBounds_toArray, List.set_cons_zero, List.set_cons_succ]
      refine regF_one 13 _ (by kernel_rfl) rfl ?_
      intro K hK
      go_simp
      refine (HOx.out _ (Ext.refl _)).mono ?_
      rintro e W6 ⟨r, rfl, hrr, hrg, hrq, hrn, hb6⟩
      have hX6 : Ext w5.drew W6 := (Ext.refl w5.drew).call hb6
      have HSm := Lib.hid (rsame13_any r ⟨⟨z0, z1, z2, z3, ss, pz⟩, QB, tt, ttc, PB, rrn, rrc⟩ W6 hrr (hurd.below hX6) (by rw [hrq]; show q ≤ 1000000; have := HVq.out; omega) (by rw [hrn]; show pn ≤ 1000000; have := HPn.out; omega) (by show tt ≤ 1000000; have := HUq.out; omega) (by show rrn ≤ 1000000; have := HUp.out; omega))
      have hsg : cgSame r.g ⟨z0, z1, z2, z3, ss, pz⟩ = true := by
        have h1 : r.g = ⟨x0, x1, x2, x3, qs, pr⟩ := hrg
        rw [h1, show (⟨x0, x1, x2, x3, qs, pr⟩ : Cg) = cgRd ps 2 from HVg.out, show (⟨z0, z1, z2, z3, ss, pz⟩ : Cg) = cgRd ps 2 from HUg.out, cgSame_refl]
      have HSm2 : Hid (Calls Try.prog 29 #[r.val, .agg #[.int .i64 z0, .int .i64 z1, .int .i64 z2, .int .i64 z3, .slice QB tt ttc, .slice PB rrn rrc]] W6 (Ret W6 (.bool true))) := by
        have h := HSm.out
        rw [show RcV.g ⟨⟨z0, z1, z2, z3, ss, pz⟩, QB, tt, ttc, PB, rrn, rrc⟩ = ⟨z0, z1, z2, z3, ss, pz⟩ from rfl, hsg] at h
        exact h
      clear HSm hsg hrg hrq hrn hrr
      refine hK.out _ _ hX6 ?_
      clear hK K
      refine regF_one 15 _ (by kernel_rfl) rfl ?_
      intro K hK
      go_simp
      refine (HSm2.out).mono ?_
      rintro e W7 ⟨rfl, hb7⟩
      have hX7 : Ext w5.drew W7 := hX6.call hb7
      refine hK.out _ _ hX7 ?_
      clear hK K
      refine regF_take (i := 16) (d := some 83) (v := ?_) hX7 rfl rfl (by kernel_rfl) (by kernel_rfl) (by kernel_rfl) (fun _ _ _ h => h) (Or.inl ⟨by rfl, ?_⟩) ?_
      rotate_left
      · intro w' hx; (go_simp <;> with_reducible rfl)
      simp only [Act.put, List.setIfInBounds_toArray, List.set_cons_zero, List.set_cons_succ]
      refine regF_take (i := 17) (d := some 84) (v := ?_) hX7 rfl rfl (by kernel_rfl) (by kernel_rfl) (by kernel_rfl) (fun _ _ _ h => h) (Or.inl ⟨by rfl, ?_⟩) ?_
      rotate_left
      · intro w' hx; (go_simp <;> with_reducible rfl)
      simp only [Act.put, List.setIfInBounds_toArray, List.set_cons_zero, List.set_cons_succ]
      refine regF_take (i := 18) (d := some 85) (v := ?_) hX7 rfl rfl (by kernel_rfl) (by kernel_rfl) (by kernel_rfl) (fun _ _ _ h => h) (Or.inl ⟨by rfl, ?_⟩) ?_
      rotate_left
      · intro w' hx; (go_simp <;> with_reducible rfl)
      simp only [Act.put, List.setIfInBounds_toArray, List.set_cons_zero, List.set_cons_succ]
      refine regF_one 19 _ (by kernel_rfl) rfl ?_
      intro K hK
      go_simp
      refine hK.out _ _ hX7 ?_
      clear hK K
      refine wpAnyH_done (by kernel_rfl) ?_ _
      go_wp2
      go_ret
      exact ⟨rfl, hbw5.drew.trans (Below.mono hX7 hbw5.size)⟩

end Go.Proofs.Ytgafjieghckimaa

namespace Go.Proofs.Ytgafjieghckimaa.compoBends
open Go.ChangeShapes Go.WideShapes Go.ChangeAt Go.RowKit
open Go.ChangeMaps (open_string shut_string)
set_option linter.unusedVariables false

theorem own : ownKnob Try.prog.godebug = none := by kernel_rfl
theorem laidOut : laidOutB Try.prog = true := by kernel_rfl

set_option maxRecDepth 100000 in
theorem lifted (os : Os) (started : os.Started) (H : Type) (enc : TypeId × Value → H) :
    ReturnsInHanded {} Try.checked os 6 .any (Rows.compoBendsSpec.pre6 enc Try.prog Try.f6 Rows.compoBendsRow.domain false) (Rows.compoBendsSpec.post enc Try.prog Try.f6 false true false false) := by
  refine returnsInHanded_of_change (C := Try.checked) own started (by kernel_rfl) Try.func6
    (ChangeSpec.witness6 (enc := enc) (C := Try.checked) false ⟨#[], #[.agg #[.int .i16 0, .int .i16 0, .int .i16 0, .int .i16 0, .slice none 0 0, .slice none 0 0], .int .u16 0, .int .u8 0], []⟩ 8 (by kernel_rfl) (by kernel_rfl) (by kernel_rfl) (by kernel_rfl)) ?_
  intro W base args ds gs before hval0 hW hcnd _
  have hval : ∀ (j : Nat) t v, Try.f6.params[j]? = some t → args[j]? = some v → Value.okWide Try.prog W .any base t v := hval0
  have hW' := hW
  obtain ⟨p, q, hA0, hV, rfl, hfz, hnd⟩ := hW
  have hA : DataW.TrodAll enc Try.prog W 0 (fun _ => true) true Try.f6.params.toList args.toList ds p := hA0
  rw [Try.params6] at hA hval
  obtain ⟨v0, vs0, d0, ds0, p0, q0, hargs, rfl, rfl, h0, r0⟩ := trodAll_cons hA
  obtain ⟨v1, vs1, d1, ds1, p1, q1, rfl, rfl, rfl, h1, r1⟩ := trodAll_cons r0
  obtain ⟨v2, vs2, d2, ds2, p2, q2, rfl, rfl, rfl, h2, r2⟩ := trodAll_cons r1
  obtain ⟨rfl, rfl, rfl⟩ := trodAll_nil r2
  obtain rfl : args = #[v0, v1, v2] := by cases args; simp_all
  obtain ⟨rfl, rfl⟩ := trodVars_none hV
  have k0 := h0
  have lt0 : ∀ x ∈ p0, x.block < W.heap.size := by obtain ⟨m, hm⟩ := k0; exact DataW.trod_lt m _ _ _ hm
  have k1 := h1
  have lt1 : ∀ x ∈ p1, x.block < W.heap.size := by obtain ⟨m, hm⟩ := k1; exact DataW.trod_lt m _ _ _ hm
  have k2 := h2
  have lt2 : ∀ x ∈ p2, x.block < W.heap.size := by obtain ⟨m, hm⟩ := k2; exact DataW.trod_lt m _ _ _ hm
  obtain ⟨g, rfl, gr, go, g1, g2, g3⟩ := open_cg (hval 0 34 v0 rfl rfl) k0
  obtain ⟨a1, rfl, rfl, rfl, u1⟩ := open_int Try.underlying26 (hval 1 26 v1 rfl rfl) h1
  have w1 := bounds_u16 u1
  obtain ⟨a2, rfl, rfl, rfl, u2⟩ := open_int Try.underlying5 (hval 2 5 v2 rfl rfl) h2
  have w2 := bounds_u8 u2
  clear hA0 hval0
  refine (law_CompoBends g a1 a2 W gr go g1 g2 g3 w1.1 w1.2 w2.1 w2.2).mono fun e W' ⟨he, bel⟩ => ?_
  subst he
  exact ⟨_, rfl, _, _, _, [], _, [], hW', trodAll_mk1 (shut_bool Try.underlying4 _), (trodAll_cons_mk (Below.trod laidOut (by kernel_rfl) (of_decide_eq_true (by kernel_rfl)) k0 bel lt0) (trodAll_cons_mk (Below.trod laidOut (by kernel_rfl) (of_decide_eq_true (by kernel_rfl)) k1 bel lt1) (trodAll_cons_mk (Below.trod laidOut (by kernel_rfl) (of_decide_eq_true (by kernel_rfl)) k2 bel lt2) trodAll_mk0))), rfl, bel.frame _, fun h => by cases h⟩

theorem over : Rows.compoBendsRow.holds Try.pinned (OpenSpec.ofChange Rows.compoBendsSpec) :=
  OpenClaim.holds_of_wide 6 Try.f6 rfl rfl rfl rfl rfl rfl rfl ⟨rfl, rfl, rfl, rfl, rfl⟩ rfl rfl rfl rfl rfl (by kernel_rfl) Try.func6 (by kernel_rfl)
    (of_decide_eq_true (by kernel_rfl)) (by unfold Func.isWrapper; first | (rw [if_pos (by decide +kernel)]; kernel_rfl) | (rw [if_neg (by decide +kernel)]; exact ⟨rfl, rfl⟩))
    (fun os started H enc _ => lifted os started H enc)

theorem proved : Rows.CompoBendsSaid := over
#print axioms proved
end Go.Proofs.Ytgafjieghckimaa.compoBends
