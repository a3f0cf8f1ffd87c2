/- The listed variable 'ranked': what a row's condition says of memory. -/
import Derived.Test.YthkaeimpflggjaaDoorRows
import Derived.Test.YthkaeimpflggjaaDoorCmS
import Derived.ProofKit
import Derived.LaidMore
import Derived.OpenShut
import Derived.Stop.Joined
namespace Go.Proofs.YthkaeimpflggjaaDoor
open Go.ChangeShapes Go.WideShapes Go.ChangeAt Go.RowKit
set_option linter.unusedVariables false

abbrev laid11 : List (String × DataW Unit) := [("punchcut/cmap.ranked", Rows.laid_punchcut_cmap_ranked)]
theorem Tryd.gRanked : Tryd.prog.globalNamed "punchcut/cmap.ranked" = some 0 := by kernel_rfl
theorem Tryd.tRanked : (Tryd.prog.globals[0]?).map (·.type) = some 77 := by kernel_rfl

/-- The door's own heap meets the condition. -/
theorem door_met (os : Os) (args : Array Value) : laidMetH Tryd.prog laid11 ((World.doorLaid Tryd.prog 400 os).forCall (fun _ _ => 0) ⟨#[], args, []⟩).memory :=
  laidMetH_of_parts3 (fuel := 8) (laidMet_of_run' 8 (by kernel_rfl) (by kernel_rfl)) (by kernel_rfl) (by kernel_rfl)

theorem pair_of_trod {H : Type} {enc : TypeId × Value → H} {W : World} {base fuel : Nat} {sp : Nat → Bool} {held : Bool} {cs : List Value} {x : DataW H × List MemPlace} {a b : Int} (h : DataW.trod enc Tryd.prog W base sp held fuel 65 cs = some x)
    (hx : x.1 = .agg [.lit (.int .u16 a), .lit (.int .u16 b)]) : cs = [.int .u16 a, .int .u16 b] := by
  obtain ⟨ys, n, rfl, rfl, hl, hy, he⟩ := DataW.trod_struct Tryd.underlying65 h
  have c2 : Tryd.prog.cellsOf 65 = 2 := by kernel_rfl
  have c1 : Tryd.prog.cellsOf 43 = 1 := by kernel_rfl
  have e0 : DataW.trod enc Tryd.prog W base sp held n 43 ((cs.drop 0).take (Tryd.prog.cellsOf 43)) = ys[0]? := he 0 _ rfl
  have e1 : DataW.trod enc Tryd.prog W base sp held n 43 ((cs.drop 1).take (Tryd.prog.cellsOf 43)) = ys[1]? := he 1 _ rfl
  rw [c1] at e0 e1
  rw [c2] at hl
  clear he h
  match ys, hy, hx, e0, e1 with
  | [y0, y1], _, hx, e0, e1 =>
    simp only [List.map_cons, List.map_nil, DataW.agg.injEq, List.cons.injEq, and_true] at hx
    obtain ⟨k0, p0, q0, _⟩ := DataW.trod_int Tryd.underlying43 (show DataW.trod enc Tryd.prog W base sp held n 43 _ = some y0 from e0)
    obtain ⟨k1, p1, q1, _⟩ := DataW.trod_int Tryd.underlying43 (show DataW.trod enc Tryd.prog W base sp held n 43 _ = some y1 from e1)
    rw [q0, q1] at hx
    simp at hx
    obtain ⟨rfl, rfl⟩ := hx
    match cs, hl with
    | [d0, d1], _ =>
      simp at p0 p1
      rw [p0, p1]

theorem eight {l : List Value} (hl : l.length = 8) (b0 : (l.drop (0 * 2)).take 2 = [.int .u16 3, .int .u16 10]) (b1 : (l.drop (1 * 2)).take 2 = [.int .u16 0, .int .u16 4]) (b2 : (l.drop (2 * 2)).take 2 = [.int .u16 3, .int .u16 1]) (b3 : (l.drop (3 * 2)).take 2 = [.int .u16 0, .int .u16 3]) : l = cellsOf .u16 rkL := by
  match l, hl with
  | [d0, d1, d2, d3, d4, d5, d6, d7], _ =>
    simp at b0 b1 b2 b3
    simp [cellsOf, rkL, b0, b1, b2, b3]

set_option maxRecDepth 100000 in
theorem rk_of_laid {W : World} (h : laidMetH Tryd.prog laid11 W) : Rk W := by
  rw [MakeChecks.laidMetH_plain _ _ _ (by kernel_rfl)] at h
  obtain ⟨ps, ⟨g0, t0, cs0, f0, p0, q0, hg0, ht0, hv0, hd0, _, _⟩, _, _⟩ := h
  obtain rfl := Option.some.inj (Tryd.gRanked.symm.trans hg0)
  obtain rfl := Option.some.inj (Tryd.tRanked.symm.trans ht0)
  obtain ⟨xs, m1, rfl, hx1, hlen, hn3, hel⟩ := DataW.trod_array Tryd.underlying77 hd0
  have c8 : Tryd.prog.cellsOf 77 = 8 := by kernel_rfl
  have c2 : Tryd.prog.cellsOf 65 = 2 := by kernel_rfl
  rw [c8] at hlen
  simp only [Prod.mk.injEq] at hx1
  obtain ⟨hxa, _⟩ := hx1
  have h0 := hel 0 (by decide)
  have h1 := hel 1 (by decide)
  have h2 := hel 2 (by decide)
  have h3 := hel 3 (by decide)
  rw [c2] at h0 h1 h2 h3
  match xs, hn3, hxa, h0, h1, h2, h3 with
  | [x0, x1, x2, x3], _, hxa, h0, h1, h2, h3 =>
    unfold Rows.laid_punchcut_cmap_ranked at hxa
    simp only [List.map_cons, List.map_nil, DataW.agg.injEq, List.cons.injEq, and_true] at hxa
    obtain ⟨a0, a1, a2, a3⟩ := hxa
    have b0 := pair_of_trod (show DataW.trod _ Tryd.prog W 0 _ false m1 65 _ = some x0 from h0) a0.symm
    have b1 := pair_of_trod (show DataW.trod _ Tryd.prog W 0 _ false m1 65 _ = some x1 from h1) a1.symm
    have b2 := pair_of_trod (show DataW.trod _ Tryd.prog W 0 _ false m1 65 _ = some x2 from h2) a2.symm
    have b3 := pair_of_trod (show DataW.trod _ Tryd.prog W 0 _ false m1 65 _ = some x3 from h3) a3.symm
    have hcs : cs0.toList = cellsOf .u16 rkL := by
      exact eight hlen b0 b1 b2 b3
    have hc : ∀ i, W.cell? ⟨0, i, none⟩ = cs0.toList[i]? := fun i => by
      have := World.var?_cell hg0 hv0 i
      simpa using this
    refine ⟨rfl, fun _ => ⟨0, 0, rfl, ?_, fun j u hu => ?_⟩⟩
    · refine World.block_lt_of_cell? W ⟨0, 0, none⟩ (u := .int .u16 3) ?_
      rw [hc 0, hcs]
      rfl
    · rw [Nat.zero_add, hc j, hcs]
      exact hu

end Go.Proofs.YthkaeimpflggjaaDoor
