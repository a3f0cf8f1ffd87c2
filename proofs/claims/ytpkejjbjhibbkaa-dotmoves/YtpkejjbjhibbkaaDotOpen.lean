/- Points and matrices that come in. -/
import Derived.Test.YtpkejjbjhibbkaaDot
import Derived.Lib.SmallJoins
import Derived.ChangeSame
namespace Go.Proofs.Ytpkejjbjhibbkaa
open Go.RowKit Go.Joins Go.ChangeShapes Go.WideShapes
set_option linter.unusedVariables false

theorem Try.cellsPt : Try.prog.cellsOf 65 = 3 := by kernel_rfl
theorem Try.cells1i : Try.prog.cellsOf 3 = 1 := by kernel_rfl
theorem Try.cells1b : Try.prog.cellsOf 4 = 1 := by kernel_rfl
theorem Try.cellsMx : Try.prog.cellsOf 63 = 4 := by kernel_rfl

section
variable {H : Type} {enc : TypeId × Value → H} {W : World} {base : Nat} {v : Value} {d : DataW H} {p : List MemPlace}

set_option maxRecDepth 100000 in
theorem open_pt (hv : Value.okWide Try.prog W .any base 65 v) (h : DataW.Trod enc Try.prog W 0 (fun _ => true) true 65 v d p) :
    ∃ x y on, v = ptV x y on ∧ (Lit.int .i64 x).wf = true ∧ (Lit.int .i64 y).wf = true := by
  obtain ⟨c0, c1, c2, y0, y1, y2, m, rfl, rfl, rfl, h0, h1, h2⟩ := open_agg3 Try.underlying65 (by kernel_rfl) Try.cellsPt hv h
  obtain ⟨a, e0, rfl, wa⟩ := DataW.trod_int Try.underlying3 h0
  obtain ⟨b, e1, rfl, wb⟩ := DataW.trod_int Try.underlying3 h1
  obtain ⟨o, e2, rfl⟩ := DataW.trod_bool Try.underlying4 h2
  simp at e0 e1 e2
  subst e0 e1 e2
  exact ⟨a, b, o, rfl, wa, wb⟩

set_option maxRecDepth 100000 in
theorem open_mx (hv : Value.okWide Try.prog W .any base 63 v) (h : DataW.Trod enc Try.prog W 0 (fun _ => true) true 63 v d p) :
    ∃ a b c e, v = mxV a b c e ∧ (-32768 ≤ a ∧ a ≤ 32767) ∧ (-32768 ≤ b ∧ b ≤ 32767) ∧ (-32768 ≤ c ∧ c ≤ 32767) ∧ (-32768 ≤ e ∧ e ≤ 32767) := by
  obtain ⟨c0, c1, c2, c3, y0, y1, y2, y3, m, rfl, rfl, rfl, h0, h1, h2, h3⟩ := open_agg4 Try.underlying63 (by kernel_rfl) Try.cellsMx hv h
  obtain ⟨a, e0, rfl, wa⟩ := DataW.trod_int Try.underlying61 h0
  obtain ⟨b, e1, rfl, wb⟩ := DataW.trod_int Try.underlying61 h1
  obtain ⟨c, e2, rfl, wc⟩ := DataW.trod_int Try.underlying61 h2
  obtain ⟨e, e3, rfl, we⟩ := DataW.trod_int Try.underlying61 h3
  simp at e0 e1 e2 e3
  subst e0 e1 e2 e3
  exact ⟨a, b, c, e, rfl, bounds_i16 wa, bounds_i16 wb, bounds_i16 wc, bounds_i16 we⟩
end

end Go.Proofs.Ytpkejjbjhibbkaa
