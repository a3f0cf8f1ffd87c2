/- The program writes a composite glyph as the document's bytes, and reads what it wrote back as it was. -/
import Derived.Lib.SmallJoins
import Derived.ProofKit
import Derived.ChangeSame
import Derived.OpenShut
import Derived.Test.YtgafjieghckimaaRows
import Derived.WalkKit
import Derived.ShutString
import Derived.ChangeOld
import Derived.Below
import Derived.Test.YtgafjieghckimaaBase3
import Derived.Test.YtgafjieghckimaaBase4
import Derived.Test.YtgafjieghckimaaBase8
import Derived.Test.YtgafjieghckimaaBase9
import Derived.Test.YtgafjieghckimaaBase13
import Derived.Test.YtgafjieghckimaaBase14
import Derived.Test.YtgafjieghckimaaBase15

namespace Go.Proofs.Ytgafjieghckimaa
open Go.RowKit Go.Joins Go.ChangeShapes Go.WideShapes
set_option linter.unusedVariables false

theorem Try.cellsCg : Try.prog.cellsOf 34 = 6 := by kernel_rfl
theorem Try.cellsCp : Try.prog.cellsOf 29 = 8 := by kernel_rfl
theorem Try.cellsMxC : Try.prog.cellsOf 24 = 4 := by kernel_rfl
theorem Try.cellsI16C : Try.prog.cellsOf 22 = 1 := by kernel_rfl
theorem Try.cellsU16C : Try.prog.cellsOf 26 = 1 := by kernel_rfl
theorem Try.cellsU8C : Try.prog.cellsOf 5 = 1 := by kernel_rfl
theorem Try.cellsBsC : Try.prog.cellsOf 32 = 1 := by kernel_rfl
theorem Try.cellsCps : Try.prog.cellsOf 30 = 1 := by kernel_rfl
theorem Try.cellsArrC : Try.prog.cellsOf 31 = 4 := by kernel_rfl

theorem flat_intsC (l : List Int) : flat (fun q : Int => [Value.int .u8 q]) l = cellsOf .u8 l := by
  unfold flat cellsOf
  induction l with
  | nil => rfl
  | cons x l ih => rw [List.flatMap_cons, ih]; rfl

section
variable {H : Type} {enc : TypeId × Value → H} {W : World} {base : Nat} {v : Value} {d : DataW H} {p : List MemPlace}

/-- Bytes behind a slice that is a field. -/
theorem read_bsC {m : Nat} {c : Value} {y : DataW H × List MemPlace} (h : DataW.trod enc Try.prog W 0 (fun _ => true) true m 32 [c] = some y) :
    ∃ A n k zs, c = .slice A n k ∧ Row W A n (cellsOf .u8 zs) ∧ Bytes zs ∧ n ≤ 9223372036854775807 ∧ n ≤ k := by
  have hs : ∃ A n k, c = .slice A n k := by
    rcases DataW.trod_slice Try.underlying32 h with ⟨hcs, _⟩ | ⟨x, l, k, elems, rest, n, _, hcs, _⟩
    · simp at hcs; exact ⟨none, 0, 0, hcs⟩
    · simp at hcs; exact ⟨some x, l, k, hcs⟩
  obtain ⟨A, n, k, rfl⟩ := hs
  rcases open_sliceK (P := Try.prog) (enc := enc) (w := W) (d := y.1) (p := y.2) Try.underlying32 Try.cellsU8C ⟨m, by simpa [Value.cells] using h⟩ with ⟨rfl, rfl, rfl⟩ | ⟨x, rfl, hl, hm, hi⟩
  · exact ⟨none, 0, 0, [], rfl, Row.empty _ _, (fun z hz => by cases hz), by omega, by omega⟩
  · obtain ⟨l, hll, hp⟩ := list_of (p := fun i (q : Int) => (0 ≤ q ∧ q ≤ 255) ∧ W.cell? (x.add i) = some (.int .u8 q)) n (fun i hlt => by
      obtain ⟨cs, m', y', hcl, hc, ht⟩ := hi i hlt
      have h0 := hc 0 (by omega)
      match cs, hcl with
      | [c0], _ =>
        obtain ⟨a, e, _, wa⟩ := DataW.trod_int Try.underlying5 ht
        simp at e
        subst e
        have := bounds_u8 wa
        refine ⟨a, this, ?_⟩
        simpa using h0)
    simp only [maxLen] at hm
    have hR := rowS_in (enc := fun q : Int => [Value.int .u8 q]) (k := 1) (fun _ => rfl) (w := W) (x := x) l hll (fun i q hq j u hu => by
      have hj : j = 0 := by have := (List.getElem?_eq_some_iff.1 hu).1; simp at this; omega
      subst hj
      simp at hu
      subst hu
      simpa using (hp i q hq).2)
    refine ⟨some x, n, k, l, rfl, ?_, fun z hz => ?_, by omega, hl⟩
    · have h2 := hR.2
      rw [Nat.mul_one, show flat (fun q : Int => [Value.int .u8 q]) l = cellsOf .u8 l from flat_intsC l] at h2
      exact h2
    · obtain ⟨i, hi2⟩ := List.mem_iff_getElem?.1 hz
      exact (hp i z hi2).1

theorem read_i16C {m : Nat} {c : Value} {y : DataW H × List MemPlace} (h : DataW.trod enc Try.prog W 0 (fun _ => true) true m 22 [c] = some y) : ∃ a, c = .int .i16 a ∧ -32768 ≤ a ∧ a ≤ 32767 := by
  obtain ⟨a, e, _, wa⟩ := DataW.trod_int Try.underlying22 h
  simp at e
  subst e
  have := bounds_i16 wa
  exact ⟨a, rfl, by omega⟩

theorem read_u16C {m : Nat} {c : Value} {y : DataW H × List MemPlace} (h : DataW.trod enc Try.prog W 0 (fun _ => true) true m 26 [c] = some y) : ∃ a, c = .int .u16 a ∧ 0 ≤ a ∧ a ≤ 65535 := by
  obtain ⟨a, e, _, wa⟩ := DataW.trod_int Try.underlying26 h
  simp at e
  subst e
  have := bounds_u16 wa
  exact ⟨a, rfl, by omega⟩

set_option maxRecDepth 100000 in
theorem read_mxC {m : Nat} {cs : List Value} {y : DataW H × List MemPlace} (h : DataW.trod enc Try.prog W 0 (fun _ => true) true m 24 cs = some y) : ∃ a b c e, cs = [.int .i16 a, .int .i16 b, .int .i16 c, .int .i16 e] ∧ (-32768 ≤ a ∧ a ≤ 32767) ∧ (-32768 ≤ b ∧ b ≤ 32767) ∧ (-32768 ≤ c ∧ c ≤ 32767) ∧ (-32768 ≤ e ∧ e ≤ 32767) := by
  obtain ⟨xs, n, _, _, hl, hxl, hf⟩ := DataW.trod_struct Try.underlying24 h
  rw [Try.cellsMxC] at hl
  match cs, hl with
  | [c0, c1, c2, c3], _ =>
    match xs, hxl with
    | [y0, y1, y2, y3], _ =>
      have h0 := hf 0 _ rfl
      have h1 := hf 1 _ rfl
      have h2 := hf 2 _ rfl
      have h3 := hf 3 _ rfl
      simp [Try.cellsI16C] at h0 h1 h2 h3
      obtain ⟨a, rfl, ha⟩ := read_i16C h0
      obtain ⟨b, rfl, hb⟩ := read_i16C h1
      obtain ⟨c, rfl, hc⟩ := read_i16C h2
      obtain ⟨e, rfl, he⟩ := read_i16C h3
      exact ⟨a, b, c, e, rfl, ha, hb, hc, he⟩

set_option maxRecDepth 100000 in
theorem read_cp {m : Nat} {cs : List Value} {y : DataW H × List MemPlace} (h : DataW.trod enc Try.prog W 0 (fun _ => true) true m 29 cs = some y) : ∃ p : Pt, cs = encPt p ∧ p.ok := by
  obtain ⟨xs, n, _, _, hl, hxl, hf⟩ := DataW.trod_struct Try.underlying29 h
  rw [Try.cellsCp] at hl
  match cs, hl with
  | [c0, c1, c2, c3, c4, c5, c6, c7], _ =>
    match xs, hxl with
    | [y0, y1, y2, y3, y4], _ =>
      have h0 := hf 0 _ rfl
      have h1 := hf 1 _ rfl
      have h2 := hf 2 _ rfl
      have h3 := hf 3 _ rfl
      have h4 := hf 4 _ rfl
      simp [Try.cellsI16C, Try.cellsU16C, Try.cellsMxC] at h0 h1 h2 h3 h4
      obtain ⟨f, rfl, hf1⟩ := read_u16C h0
      obtain ⟨i, rfl, hi1⟩ := read_u16C h1
      obtain ⟨x, rfl, hx1⟩ := read_i16C h2
      obtain ⟨z, rfl, hz1⟩ := read_i16C h3
      obtain ⟨a, b, c, e, he, ha, hb, hc, hd⟩ := read_mxC h4
      simp only [List.cons.injEq, and_true] at he
      obtain ⟨rfl, rfl, rfl, rfl⟩ := he
      exact ⟨⟨f, i, x, z, a, b, c, e⟩, rfl, ⟨hf1, hi1, hx1, hz1, ha, hb, hc, hd⟩⟩

set_option maxRecDepth 100000 in
theorem read_cps {m : Nat} {c : Value} {y : DataW H × List MemPlace} (h : DataW.trod enc Try.prog W 0 (fun _ => true) true m 30 [c] = some y) :
    ∃ A len cap l, c = .slice A len cap ∧ RowS encPt 8 W A len l ∧ (∀ q ∈ l, q.ok) ∧ len ≤ 9223372036854775807 ∧ len ≤ cap := by
  have hs : ∃ A n k, c = .slice A n k := by
    rcases DataW.trod_slice Try.underlying30 h with ⟨hcs, _⟩ | ⟨x, l, k, elems, rest, n, _, hcs, _⟩
    · simp at hcs; exact ⟨none, 0, 0, hcs⟩
    · simp at hcs; exact ⟨some x, l, k, hcs⟩
  obtain ⟨A, n, k, rfl⟩ := hs
  rcases open_sliceK (P := Try.prog) (enc := enc) (w := W) (d := y.1) (p := y.2) Try.underlying30 Try.cellsCp ⟨m, by simpa [Value.cells] using h⟩ with ⟨rfl, rfl, rfl⟩ | ⟨x, rfl, hl, hm, hi⟩
  · exact ⟨none, 0, 0, [], rfl, RowS.empty _ _, (fun q hq => by cases hq), by omega, by omega⟩
  · obtain ⟨l, hll, hp⟩ := list_of (p := fun i (q : Pt) => q.ok ∧ ∀ j u, (encPt q)[j]? = some u → W.cell? (x.add (i * 8 + j)) = some u) n (fun i hlt => by
      obtain ⟨cs, m, y, hcl, hc, ht⟩ := hi i hlt
      obtain ⟨q, rfl, hq⟩ := read_cp ht
      refine ⟨q, hq, fun j u hu => ?_⟩
      have hj : j < 8 := (List.getElem?_eq_some_iff.1 hu).1
      rw [hc j hj]
      exact hu)
    simp only [maxLen] at hm
    refine ⟨some x, n, k, l, rfl, rowS_in encPt_len l hll (fun i y hy => (hp i y hy).2), fun q hq => ?_, by omega, hl⟩
    obtain ⟨i, hi2⟩ := List.mem_iff_getElem?.1 hq
    exact (hp i q hi2).1

set_option maxRecDepth 100000 in
theorem read_box4 {m : Nat} {l : List Value} {y : DataW H × List MemPlace} (h : DataW.trod enc Try.prog W 0 (fun _ => true) true m 31 l = some y) :
    ∃ x0 x1 x2 x3, l = [.int .i16 x0, .int .i16 x1, .int .i16 x2, .int .i16 x3] ∧ ∀ x ∈ [x0, x1, x2, x3], -32768 ≤ x ∧ x ≤ 32767 := by
  obtain ⟨ys, m, _, _, hcl, hyl, ha⟩ := DataW.trod_array Try.underlying31 h
  rw [Try.cellsArrC] at hcl
  match l, hcl with
  | [c0, c1, c2, c3], _ =>
    have key : ∀ i, i < 4 → ∀ c, ([c0, c1, c2, c3] : List Value)[i]? = some c → ∃ a, c = .int .i16 a ∧ -32768 ≤ a ∧ a ≤ 32767 := by
      intro i hi c hc
      have h2 := ha i hi
      rw [Try.cellsI16C, Nat.mul_one, List.getElem?_eq_getElem (by omega)] at h2
      obtain ⟨hlt, hce⟩ := List.getElem?_eq_some_iff.1 hc
      rw [List.drop_eq_getElem_cons hlt, List.take_succ_cons, List.take_zero, hce] at h2
      exact read_i16C h2
    obtain ⟨a0, rfl, b0⟩ := key 0 (by omega) c0 rfl
    obtain ⟨a1, rfl, b1⟩ := key 1 (by omega) c1 rfl
    obtain ⟨a2, rfl, b2⟩ := key 2 (by omega) c2 rfl
    obtain ⟨a3, rfl, b3⟩ := key 3 (by omega) c3 rfl
    refine ⟨a0, a1, a2, a3, rfl, ?_⟩
    intro x hx
    simp only [List.mem_cons, List.not_mem_nil, or_false] at hx
    rcases hx with rfl | rfl | rfl | rfl <;> assumption

set_option maxRecDepth 100000 in
theorem open_cg (hv : Value.okWide Try.prog W .any base 34 v) (h : DataW.Trod enc Try.prog W 0 (fun _ => true) true 34 v d p) :
    ∃ g : CgV, v = g.val ∧ g.rows W ∧ g.g.ok ∧ g.q ≤ g.qc ∧ g.q ≤ 9223372036854775807 ∧ g.pn ≤ 9223372036854775807 := by
  obtain ⟨cs, rfl, hsz⟩ := okWide_struct Try.underlying34 hv
  obtain ⟨fuel, hfu⟩ := h
  obtain ⟨l, rfl⟩ : ∃ l : List Value, cs = Array.mk l := ⟨cs.toList, rfl⟩
  obtain ⟨xs, n, _, _, hl, hxl, hf⟩ := DataW.trod_struct Try.underlying34 hfu
  rw [Try.cellsCg] at hl
  simp only [Value.cells] at hl hf
  match l, hl with
  | [c0, c1, c2, c3, c4, c5], _ =>
    match xs, hxl with
    | [y0, y1, y2], _ =>
      have h0 := hf 0 _ rfl
      have h1 := hf 1 _ rfl
      have h2 := hf 2 _ rfl
      simp [Try.cellsArrC, Try.cellsCps, Try.cellsBsC] at h0 h1 h2
      obtain ⟨x0, x1, x2, x3, e, hx⟩ := read_box4 h0
      simp only [List.cons.injEq, and_true] at e
      obtain ⟨rfl, rfl, rfl, rfl⟩ := e
      obtain ⟨A, q, qc, ps, rfl, hr, hok, hq, hqc⟩ := read_cps h1
      obtain ⟨B, pn, pc, pr, rfl, hr2, hB, hn, _⟩ := read_bsC h2
      exact ⟨⟨⟨x0, x1, x2, x3, ps, pr⟩, A, q, qc, B, pn, pc⟩, rfl, ⟨hr, hr2⟩, ⟨hx, hok, hB⟩, hqc, hq, hn⟩
end

end Go.Proofs.Ytgafjieghckimaa

namespace Go.Proofs.Ytgafjieghckimaa
open Go.RowKit
set_option linter.unusedVariables false
set_option linter.unusedSimpArgs false

/-- Six cells, one by one. -/
def sets6 (w : World) (b : Nat) (v0 v1 v2 v3 v4 v5 : Value) : World := (((((w.setCell ⟨b, 0, none⟩ v0).setCell ⟨b, 1, none⟩ v1).setCell ⟨b, 2, none⟩ v2).setCell ⟨b, 3, none⟩ v3).setCell ⟨b, 4, none⟩ v4).setCell ⟨b, 5, none⟩ v5
theorem sets6_block {w : World} {b t : Nat} {z0 z1 z2 z3 z4 z5 : Value} (v0 v1 v2 v3 v4 v5 : Value) (h : w.heap[b]? = some (.cells #[z0, z1, z2, z3, z4, z5] t (0, 0))) : (sets6 w b v0 v1 v2 v3 v4 v5).heap[b]? = some (.cells #[v0, v1, v2, v3, v4, v5] t (0, 0)) := by
  have h0 := set_block (set_block (set_block (set_block (set_block (set_block h 0 v0) 1 v1) 2 v2) 3 v3) 4 v4) 5 v5
  simpa [sets6] using h0
theorem sets6_far {w : World} {b g : Nat} (v0 v1 v2 v3 v4 v5 : Value) (h : g ≠ b) : (sets6 w b v0 v1 v2 v3 v4 v5).heap[g]? = w.heap[g]? :=
  (Below.heap_setCell _ _ _ _ h).trans ((Below.heap_setCell _ _ _ _ h).trans ((Below.heap_setCell _ _ _ _ h).trans ((Below.heap_setCell _ _ _ _ h).trans ((Below.heap_setCell _ _ _ _ h).trans (Below.heap_setCell _ _ _ _ h)))))
theorem sets6_size {w : World} {b : Nat} (v0 v1 v2 v3 v4 v5 : Value) : (sets6 w b v0 v1 v2 v3 v4 v5).heap.size = w.heap.size := by simp [sets6, World.setCell]
theorem sets6_below {B b : Nat} {u w : World} (v0 v1 v2 v3 v4 v5 : Value) (h : Below B u w) (hb : B ≤ b) : Below B u (sets6 w b v0 v1 v2 v3 v4 v5) :=
  (((((h.setCell (p := ⟨b, 0, none⟩) hb v0).setCell (p := ⟨b, 1, none⟩) hb v1).setCell (p := ⟨b, 2, none⟩) hb v2).setCell (p := ⟨b, 3, none⟩) hb v3).setCell (p := ⟨b, 4, none⟩) hb v4).setCell (p := ⟨b, 5, none⟩) hb v5
theorem cB_len (g : Cg) (hq : g.ps.length ≤ 200) (hp : g.pr.length ≤ 30) : (cB g).length ≤ 4000 := by
  have h1 := ptsB_len g.ps g.ps.length
  have h2 := boxB_len [g.x0, g.x1, g.x2, g.x3]
  have h3 : (if codeB g.ps then b2 g.pr.length ++ g.pr else []).length ≤ 32 := by
    split
    · rw [List.length_append]; show 2 + _ ≤ 32; omega
    · simp
  unfold cB
  rw [List.length_append, List.length_append, List.length_append, h2]
  show 2 + 2 * 4 + _ + _ ≤ 4000
  omega

set_option maxRecDepth 1000000 in
set_option maxHeartbeats 8000000 in
theorem law_CompoForms (v : CgV) (A : Option Addr) (n c : Nat) (zs : List Int) (w : World) (hv : v.rows w) (ho : v.g.ok) (h1 : v.q ≤ v.qc) (h2 : v.q ≤ 9223372036854775807) (h3 : v.pn ≤ 9223372036854775807)
    (hr : Row w A n (cellsOf .u8 zs)) (hB : Bytes zs) (hn : n ≤ 9223372036854775807) :
    Calls Try.prog 4 #[v.val, .slice A n c] w (True_ w) := by
  have hA := (Below.refl w.heap.size w).alloc (Nat.le_refl _) (.cells v.cells 34)
  have hk := heap_alloc_new w (.cells v.cells 34)
  have HAw := Lib.hid (awake13_any (w.alloc (.cells v.cells 34)))
  have HFw : Hid (∀ W, Below w.heap.size w W → Calls Try.prog 20 #[v.val] W (RetCFew W v)) := fun W hW => cfew_any v W (hv.below hW) h1 h3 h2
  have HC : Hid (∀ W, Below w.heap.size w W → Calls Try.prog 21 #[.slice A n c, .int .i64 20] W (RetB W (zs.take (20 : Int).toNat))) := fun W hW => cut_any _ _ _ zs 20 W (hr.below hW) hn (by omega)
  have HBt : Hid (Bytes (zs.take (20 : Int).toNat)) := cut_bytes hB _
  have HLt : Hid ((zs.take (20 : Int).toNat).length ≤ 20) := by show _ ≤ _; rw [List.length_take]; simp; omega
  have HFo : Hid ((cFew v.g).ok) := cFew_ok ho
  have HFl : Hid ((cFew v.g).ps.length ≤ 210 ∧ (cFew v.g).pr.length ≤ 30) := ⟨by show (v.g.ps.take 210).length ≤ 210; rw [List.length_take]; omega, by show (v.g.pr.take 30).length ≤ 30; rw [List.length_take]; omega⟩
  clear hv ho h1 h2 h3 hr hB hn
  unfold RetCFew at HFw
  generalize cFew v.g = gf at *
  unfold CgV.val at *
  unfold CgV.cells at *
  obtain ⟨⟨x0, x1, x2, x3, qs, pr⟩, QA, q, qc, PA, pn, pc⟩ := v
  simp only at *
  go_enter Try.func4, Try.ntmps4
  go_wp2_with fail
  generalize w.alloc _ = V at *
  with_reducible refine HAw.out.mono ?_
  rintro e w0 ⟨rfl, hb0⟩
  have hk0 := kept_block hk hb0
  have hbw0 := hA.trans (hb0.mono hA.size)
  have HF0 := Lib.hid (HFw.out w0 hbw0)
  clear HAw HFw hA hk hb0
  obtain ⟨c0, c1, c2, c3, c4, c5⟩ := cells6 hk0
  go_wp2_with fail
  with_reducible refine HF0.out.mono ?_
  rintro e w1 ⟨u, rfl, hur, hug, huq, hup, hb1, hfr1, hfr2⟩
  have hk1 := kept_block hk0 hb1
  have hbw1 := hbw0.trans (hb1.mono hbw0.size)
  have hlt0 := lt_of_block hk0
  have HC1 := Lib.hid (HC.out w1 hbw1)
  clear HF0 HC hk0 hbw0 hb1 c0 c1 c2 c3 c4 c5
  go_wp2_with fail
  with_reducible refine HC1.out.mono ?_
  rintro e w2 ⟨MA, mn, mc, rfl, hown2, hb2⟩
  have hk2 := kept_block hk1 hb2
  have hbw2 := hbw1.trans (hb2.mono hbw1.size)
  have hur2 := hur.below hb2
  have hmrow := hown2.row
  have hml := hown2.len
  have hmn : mn ≤ 20 := by have := HLt.out; omega
  have hmne : ∀ g, blockOf MA = some g → g ≠ w.heap.size := fun g e => by have h4 := (hown2.from_ g e).1; have h5 := lt_of_block hk1; omega
  have hne1 : ∀ g, blockOf u.QA = some g → g ≠ w.heap.size := fun g e => by have := hfr1 g e; omega
  have hne2 : ∀ g, blockOf u.PA = some g → g ≠ w.heap.size := fun g e => by have := hfr2 g e; omega
  clear HC1 hk1 hbw1 hb2 hur hown2 hfr1 hfr2
  generalize zs.take (20 : Int).toNat = ms at *
  obtain ⟨⟨y0, y1, y2, y3, rs, pt⟩, TA, t, tc, RA, rn, rc⟩ := u
  simp only at hug huq hup hne1 hne2
  subst hug
  have hpl : rs.length = t := hur2.ps.len
  have hrl : pt.length = rn := by have := hur2.pr.len; simpa [cellsOf] using this
  obtain ⟨c0, c1, c2, c3, c4, c5⟩ := cells6 hk2
  have fz := thawed hk2
  have hk3 := sets6_block (.int .i16 y0) (.int .i16 y1) (.int .i16 y2) (.int .i16 y3) (.slice TA t tc) (.slice RA rn rc) hk2
  have hbw3 := sets6_below (.int .i16 y0) (.int .i16 y1) (.int .i16 y2) (.int .i16 y3) (.slice TA t tc) (.slice RA rn rc) hbw2 (Nat.le_refl w.heap.size)
  have hmr3 := hmrow.keep (w' := sets6 w2 w.heap.size (.int .i16 y0) (.int .i16 y1) (.int .i16 y2) (.int .i16 y3) (.slice TA t tc) (.slice RA rn rc)) (by rw [sets6_size]; exact Nat.le_refl _) (fun g e _ => sets6_far _ _ _ _ _ _ (hmne g e))
  have hur3 : CgV.rows (sets6 w2 w.heap.size (.int .i16 y0) (.int .i16 y1) (.int .i16 y2) (.int .i16 y3) (.slice TA t tc) (.slice RA rn rc)) ⟨⟨y0, y1, y2, y3, rs, pt⟩, TA, t, tc, RA, rn, rc⟩ :=
    ⟨hur2.ps.keep (by rw [sets6_size]; exact Nat.le_refl _) (fun g e _ => sets6_far _ _ _ _ _ _ (hne1 g e)), hur2.pr.keep (by rw [sets6_size]; exact Nat.le_refl _) (fun g e _ => sets6_far _ _ _ _ _ _ (hne2 g e))⟩
  unfold sets6 at hk3 hbw3 hmr3 hur3
  try simp only [CgV.val, CgV.cells]
  go_upto_region 4 with fail
  clear c0 c1 c2 c3 c4 c5 fz hk2 hbw2 hmrow hur2 hmne hne1 hne2
  generalize (((((w2.setCell _ _).setCell _ _).setCell _ _).setCell _ _).setCell _ _).setCell _ _ = w3 at *
  obtain ⟨gg, hgg⟩ : ∃ gg : Cg, gg = ⟨y0, y1, y2, y3, rs, pt⟩ := ⟨_, rfl⟩
  have HGg := Lib.hid hgg
  have hsz3 := lt_of_block hk3
  have HBy : Hid (Calls Try.prog 17 #[.agg #[.int .i16 y0, .int .i16 y1, .int .i16 y2, .int .i16 y3, .slice TA t tc, .slice RA rn rc]] w3 (RetB w3 (cBytes gg))) := by rw [hgg]; exact cbytes_any ⟨⟨y0, y1, y2, y3, rs, pt⟩, TA, t, tc, RA, rn, rc⟩ w3 hur3 (by show t ≤ 1000000; omega) (by show rn ≤ 1000000; omega) HFo.out
  have HRi : Hid (∀ W, Below w3.heap.size w3 W → Calls Try.prog 18 #[.agg #[.int .i16 y0, .int .i16 y1, .int .i16 y2, .int .i16 y3, .slice TA t tc, .slice RA rn rc]] W (Ret W (.bool (cRight gg)))) := fun W hW => by rw [hgg]; exact cright_any ⟨⟨y0, y1, y2, y3, rs, pt⟩, TA, t, tc, RA, rn, rc⟩ W (hur3.below hW) (by show t ≤ 1000000; omega) (by show rn ≤ 1000000; omega) HFo.out
  have HOw : Hid (∀ W, Below w3.heap.size w3 W → Calls Try.prog 23 #[.agg #[.int .i16 y0, .int .i16 y1, .int .i16 y2, .int .i16 y3, .slice TA t tc, .slice RA rn rc]] W (RetCOwn W ⟨⟨y0, y1, y2, y3, rs, pt⟩, TA, t, tc, RA, rn, rc⟩)) := fun W hW => cown_any ⟨⟨y0, y1, y2, y3, rs, pt⟩, TA, t, tc, RA, rn, rc⟩ W (hur3.below hW) (by show t ≤ 1000000; omega) HFo.out
  have HFo2 : Hid (gg.ok) := by rw [hgg]; exact HFo.out
  have HFl2 : Hid (gg.ps.length ≤ 210 ∧ gg.pr.length ≤ 30) := by rw [hgg]; exact HFl.out
  clear hgg HFl HFo hpl hrl
  obtain ⟨c0, c1, c2, c3, c4, c5⟩ := cells6 hk3
  go_wp2_with fail
  with_reducible refine HBy.out.mono ?_
  rintro e w4 ⟨BA, bn, bc, rfl, hown4, hb4⟩
  have hk4 := kept_block hk3 hb4
  have HO4 := Lib.hid (HOw.out w4 hb4)
  clear HBy c0 c1 c2 c3 c4 c5
  obtain ⟨c0, c1, c2, c3, c4, c5⟩ := cells6 hk4
  go_wp2_with fail
  with_reducible refine HO4.out.mono ?_
  rintro e w5 ⟨r, rfl, hrr, hrg, hrq, hrn, hb5⟩
  have hb35 := hb4.trans (hb5.mono hb4.size)
  have HRr := Lib.hid (rright13_any r w5 hrr (by rw [hrq]; show t ≤ 1000000; omega) (by rw [hrn]; show rn ≤ 1000000; omega) (by rw [hrg]; show Cg.ok ⟨y0, y1, y2, y3, rs, pt⟩; rw [← HGg.out]; exact HFo2.out))
  rw [hrg, show CgV.g ⟨⟨y0, y1, y2, y3, rs, pt⟩, TA, t, tc, RA, rn, rc⟩ = gg from HGg.out.symm] at HRr
  have hown5 := hown4.below hb5
  clear HO4 hrr hrg hrq hrn c0 c1 c2 c3 c4 c5
  go_wp2_with fail
  with_reducible refine HRr.out.mono ?_
  rintro e w6 ⟨rfl, hb6⟩
  have hb36 := hb35.trans (hb6.mono hb35.size)
  have hown6 := hown5.below hb6
  have hk6 := kept_block hk3 hb36
  clear HRr hown4 hown5 hb4 hb5 hb6 hb35 hk4
  obtain ⟨c0, c1, c2, c3, c4, c5⟩ := cells6 hk6
  have HR6 := Lib.hid (HRi.out w6 hb36)
  unfold cBytes at hown6
  have hbw6 := hbw3.trans (hb36.mono hbw3.size)
  cases hcr : cRight gg with
  | false =>
    rw [hcr] at HR6
    rw [hcr, if_neg (by decide)] at hown6
    obtain rfl : bn = 0 := hown6.len.symm
    go_wp2_with fail
    with_reducible refine HR6.out.mono ?_
    rintro e w7 ⟨rfl, hb7⟩
    go_wp2
    go_ret
    exact ⟨rfl, hbw6.trans (hb7.mono hbw6.size)⟩
  | true =>
    rw [hcr, if_pos rfl] at hown6
    have HCr := Lib.hid hcr
    have hq200 := (cRight_parts hcr).2.1
    have hcl := cB_len gg hq200 HFl2.out.2
    have hbn := hown6.len
    have HBn : Hid ((cB gg).length = bn) := hbn
    have hmr6 := hmr3.below hb36
    have HJ := Lib.hid (joinTwoC_any w6 w6.heap.size BA MA bn bc mn mc _ _ rfl hown6.row hmr6 (by omega))
    have hdec := cB_dec gg HFo2.out hcr ms
    have hcok := cOk_cB gg HFo2.out hcr ms
    have hBy2 := cB_bytes gg HFo2.out hcr
    have hBj : Bytes (cB gg ++ ms) := Bytes.app hBy2 HBt.out
    have hjl : (cB gg ++ ms).length ≤ 5000 := by rw [List.length_append]; omega
    clear hcr HR6 hmr3
    go_wp2_with fail
    with_reducible refine HJ.out.mono ?_
    rintro e w7 ⟨JA, jn, jc, rfl, hown7, hb7⟩
    have hjn := hown7.len
    have HPa := Lib.hid (cparse_any JA jn jc _ w7 hown7.row hBj (by omega) hown7.cap)
    have hb37 := hb36.trans (hb7.mono hb36.size)
    have hown67 := hown6.below hb7
    clear HJ hown7 hown6 c0 c1 c2 c3 c4 c5 hb7 hmr6
    go_wp2_with fail
    with_reducible refine HPa.out.mono ?_
    rintro e w8 ⟨hb8, hway⟩
    rcases hway with ⟨hno, _⟩ | ⟨_, x, rfl, hxr, hxg, hxo, hxq⟩
    · rw [hcok] at hno; cases hno
    rw [hdec.2.1] at hxg
    rw [hdec.2.2, HBn.out]
    have hb38 := hb37.trans (hb8.mono hb37.size)
    have hA9 := (Below.refl w8.heap.size w8).alloc (Nat.le_refl _) (.cells x.cells 34)
    have hkx := heap_alloc_new w8 (.cells x.cells 34)
    have hnew := heap_alloc_new w8 (.cells #[.int .i16 0, .int .i16 0, .int .i16 0, .int .i16 0, .slice none 0 0, .slice none 0 0] 34)
    have hb39 := hb38.trans (hA9.mono hb38.size)
    have hxr9 := hxr.below hA9
    have hown9 := (hown67.below hb8).below hA9
    have hk9 := kept_block hk3 hb39
    have hbw9 := hbw3.trans (hb39.mono hbw3.size)
    have hur9 := hur3.below hb39
    have HXg := Lib.hid hxg
    have HXo := Lib.hid hxo
    have HXq := Lib.hid hxq
    have hxpn : x.pn = x.g.pr.length := hxr.pr.len.symm
    have HXn : Hid (x.pn ≤ 30) := by show _ ≤ _; rw [hxpn, hxg]; exact HFl2.out.2
    clear HPa hb8 hb38 hA9 hxr hown67 hxg hxo hxq hxpn hdec hcok hBj hjl hjn hb37 hbw6 hk6 hk3
    obtain ⟨⟨z0, z1, z2, z3, ss, pz⟩, SA, sn, sc, ZA, zn, zc⟩ := x
    simp only [CgV.val, CgV.cells] at *
    go_upto_region 8 with fail
    clear hnew
    generalize w8.alloc _ = w9 at *
    generalize w8.heap.size = bxx at *
    obtain ⟨c0, c1, c2, c3, c4, c5⟩ := cells6 hk9
    obtain ⟨d0, d1, d2, d3, d4, d5⟩ := cells6 hkx
    have HR9 := Lib.hid (HRi.out w9 hb39)
    rw [HCr.out] at HR9
    clear HRi
    go_wp2_with fail
    with_reducible refine HR9.out.mono ?_
    rintro e w10 ⟨rfl, hb10⟩
    have hb310 := hb39.trans (hb10.mono hb39.size)
    have hk10 := kept_block hk9 hb10
    have hkx10 := kept_block hkx hb10
    have HO10 := Lib.hid (HOw.out w10 hb310)
    clear HR9 HOw c0 c1 c2 c3 c4 c5 d0 d1 d2 d3 d4 d5 hb39
    obtain ⟨c0, c1, c2, c3, c4, c5⟩ := cells6 hk10
    go_wp2_with fail
    with_reducible refine HO10.out.mono ?_
    rintro e w11 ⟨r, rfl, hrr, hrg, hrq, hrn, hb11⟩
    have hrg2 : r.g = gg := hrg.trans HGg.out.symm
    have HRb := Lib.hid (rbytes13_any r w11 hrr (by rw [hrg2]; exact HFo2.out) (by rw [hrg2]; exact HCr.out))
    rw [hrg2] at HRb
    have hb911 := hb10.trans (hb11.mono hb10.size)
    clear HO10 hrr hrg hrg2 hrq hrn c0 c1 c2 c3 c4 c5 hb11 hb10 hb310 hk10 hkx10
    go_wp2_with fail
    with_reducible refine HRb.out.mono ?_
    rintro e w12 ⟨DA, dn, dc, rfl, hown12, hb12⟩
    have hb912 := hb911.trans (hb12.mono hb911.size)
    have HSs := Lib.hid (same_any BA DA bn bc dn dc _ _ w12 (hown9.row.below hb912) hown12.row (by omega) (by have := hown12.len; omega))
    rw [sameB_refl] at HSs
    clear HRb hown12 hb911
    go_wp2_with fail
    with_reducible refine HSs.out.mono ?_
    rintro e w13 ⟨rfl, q13, hq13⟩
    have hb913 : Below w9.heap.size w9 w13 := by rw [hq13]; exact below_drewN hb912 q13
    have hk13 := kept_block hk9 hb913
    have hkx13 := kept_block hkx hb913
    have hxr13 := hxr9.below hb913
    have e1 : ((bn : Int) == (bn : Int)) = true := by simp
    have HSm : Hid (∀ W, Below w9.heap.size w9 W → CgV.rows W ⟨⟨y0, y1, y2, y3, rs, pt⟩, TA, t, tc, RA, rn, rc⟩ → Calls Try.prog 27 #[.agg #[.int .i16 z0, .int .i16 z1, .int .i16 z2, .int .i16 z3, .slice SA sn sc, .slice ZA zn zc], .agg #[.int .i16 y0, .int .i16 y1, .int .i16 y2, .int .i16 y3, .slice TA t tc, .slice RA rn rc]] W (Ret W (.bool true))) := fun W hW hgr => by
      have h := csame_any ⟨⟨z0, z1, z2, z3, ss, pz⟩, SA, sn, sc, ZA, zn, zc⟩ ⟨⟨y0, y1, y2, y3, rs, pt⟩, TA, t, tc, RA, rn, rc⟩ W (hxr9.below hW) hgr (by show sn ≤ 1000000; have := HXq.out; omega) (by show zn ≤ 1000000; have := HXn.out; omega) (by show t ≤ 1000000; omega) (by show rn ≤ 1000000; omega) HXo.out.pr (by show Bytes pt; have := HFo2.out.pr; rw [HGg.out] at this; exact this)
      rw [show CgV.g ⟨⟨z0, z1, z2, z3, ss, pz⟩, SA, sn, sc, ZA, zn, zc⟩ = gg from HXg.out, show CgV.g ⟨⟨y0, y1, y2, y3, rs, pt⟩, TA, t, tc, RA, rn, rc⟩ = gg from HGg.out.symm, cgSame_refl] at h
      exact h
    have HSm13 := Lib.hid (HSm.out w13 hb913 (hur9.below hb913))
    have hbf := hbw9.trans (hb913.mono hbw9.size)
    clear HSs HSm hb912 hq13
    obtain ⟨c0, c1, c2, c3, c4, c5⟩ := cells6 hk13
    obtain ⟨d0, d1, d2, d3, d4, d5⟩ := cells6 hkx13
    go_wp2_with fail
    with_reducible refine HSm13.out.mono ?_
    rintro e w14 ⟨rfl, hb14⟩
    go_wp2
    go_ret
    exact ⟨rfl, hbf.trans (hb14.mono hbf.size)⟩

end Go.Proofs.Ytgafjieghckimaa

namespace Go.Proofs.Ytgafjieghckimaa.compoForms
open Go.ChangeShapes Go.WideShapes Go.ChangeAt Go.RowKit
open Go.ChangeMaps (open_string shut_string)
set_option linter.unusedVariables false

theorem own : ownKnob Try.prog.godebug = none := by kernel_rfl
theorem laidOut : laidOutB Try.prog = true := by kernel_rfl

set_option maxRecDepth 100000 in
theorem lifted (os : Os) (started : os.Started) (H : Type) (enc : TypeId × Value → H) :
    ReturnsInHanded {} Try.checked os 4 .any (Rows.compoFormsSpec.pre6 enc Try.prog Try.f4 Rows.compoFormsRow.domain false) (Rows.compoFormsSpec.post enc Try.prog Try.f4 false true false false) := by
  refine returnsInHanded_of_change (C := Try.checked) own started (by kernel_rfl) Try.func4
    (ChangeSpec.witness6 (enc := enc) (C := Try.checked) false ⟨#[], #[.agg #[.int .i16 0, .int .i16 0, .int .i16 0, .int .i16 0, .slice none 0 0, .slice none 0 0], .slice none 0 0], []⟩ 8 (by kernel_rfl) (by kernel_rfl) (by kernel_rfl) (by kernel_rfl)) ?_
  intro W base args ds gs before hval0 hW hcnd _
  have hval : ∀ (j : Nat) t v, Try.f4.params[j]? = some t → args[j]? = some v → Value.okWide Try.prog W .any base t v := hval0
  have hW' := hW
  obtain ⟨p, q, hA0, hV, rfl, hfz, hnd⟩ := hW
  have hA : DataW.TrodAll enc Try.prog W 0 (fun _ => true) true Try.f4.params.toList args.toList ds p := hA0
  rw [Try.params4] at hA hval
  obtain ⟨v0, vs0, d0, ds0, p0, q0, hargs, rfl, rfl, h0, r0⟩ := trodAll_cons hA
  obtain ⟨v1, vs1, d1, ds1, p1, q1, rfl, rfl, rfl, h1, r1⟩ := trodAll_cons r0
  obtain ⟨rfl, rfl, rfl⟩ := trodAll_nil r1
  obtain rfl : args = #[v0, v1] := by cases args; simp_all
  obtain ⟨rfl, rfl⟩ := trodVars_none hV
  have k0 := h0
  have lt0 : ∀ x ∈ p0, x.block < W.heap.size := by obtain ⟨m, hm⟩ := k0; exact DataW.trod_lt m _ _ _ hm
  have k1 := h1
  have lt1 : ∀ x ∈ p1, x.block < W.heap.size := by obtain ⟨m, hm⟩ := k1; exact DataW.trod_lt m _ _ _ hm
  obtain ⟨g, rfl, gr, go, g1, g2, g3⟩ := open_cg (hval 0 34 v0 rfl rfl) k0
  obtain ⟨A1, n1, c1, z1, rfl, hr1, hB1, hn1⟩ := open_bs (hval 1 32 v1 rfl rfl) k1
  clear hA0 hval0
  refine (law_CompoForms g A1 n1 c1 z1 W gr go g1 g2 g3 hr1 hB1 hn1).mono fun e W' ⟨he, bel⟩ => ?_
  subst he
  exact ⟨_, rfl, _, _, _, [], _, [], hW', trodAll_mk1 (shut_bool Try.underlying4 _), (trodAll_cons_mk (Below.trod laidOut (by kernel_rfl) (of_decide_eq_true (by kernel_rfl)) k0 bel lt0) (trodAll_cons_mk (Below.trod laidOut (by kernel_rfl) (of_decide_eq_true (by kernel_rfl)) k1 bel lt1) trodAll_mk0)), rfl, bel.frame _, fun h => by cases h⟩

theorem over : Rows.compoFormsRow.holds Try.pinned (OpenSpec.ofChange Rows.compoFormsSpec) :=
  OpenClaim.holds_of_wide 4 Try.f4 rfl rfl rfl rfl rfl rfl rfl ⟨rfl, rfl, rfl, rfl, rfl⟩ rfl rfl rfl rfl rfl (by kernel_rfl) Try.func4 (by kernel_rfl)
    (of_decide_eq_true (by kernel_rfl)) (by unfold Func.isWrapper; first | (rw [if_pos (by decide +kernel)]; kernel_rfl) | (rw [if_neg (by decide +kernel)]; exact ⟨rfl, rfl⟩))
    (fun os started H enc _ => lifted os started H enc)

theorem proved : Rows.CompoFormsSaid := over
#print axioms proved
end Go.Proofs.Ytgafjieghckimaa.compoForms
