/- compo: which glyphs may be, as a contract over this seat's translation. -/
import Derived.Test.YtlcnonhebppeiaaComA3
namespace Go.Proofs.Ytlcnonhebppeiaa
open Go.RowKit
set_option linter.unusedVariables false
set_option linter.unusedSimpArgs false

def encPt (p : Pt) : List Value := [.int .u16 p.f, .int .u16 p.i, .int .i16 p.x, .int .i16 p.y, .int .i16 p.xx, .int .i16 p.xy, .int .i16 p.yx, .int .i16 p.yy]
theorem encPt_len (p : Pt) : (encPt p).length = 8 := rfl
theorem encPt_one (p : Pt) : ∀ u ∈ encPt p, u.oneCell' = true := by intro u hu; simp [encPt] at hu; rcases hu with rfl | rfl | rfl | rfl | rfl | rfl | rfl | rfl <;> rfl
theorem atPt {w : World} {A : Option Addr} {n : Nat} {l : List Pt} {j : Nat} {p : Pt} (h : RowS encPt 8 w A n l) (hj : l[j]? = some p) :
    ∃ g off, A = some ⟨g, off, none⟩ ∧ g < w.heap.size ∧ w.cell? ⟨g, off + j * 8, none⟩ = some (.int .u16 p.f) ∧ w.cell? ⟨g, off + j * 8 + 1, none⟩ = some (.int .u16 p.i) ∧ w.cell? ⟨g, off + j * 8 + 2, none⟩ = some (.int .i16 p.x) ∧ w.cell? ⟨g, off + j * 8 + 3, none⟩ = some (.int .i16 p.y) ∧
      w.cell? ⟨g, off + j * 8 + 4, none⟩ = some (.int .i16 p.xx) ∧ w.cell? ⟨g, off + j * 8 + 5, none⟩ = some (.int .i16 p.xy) ∧ w.cell? ⟨g, off + j * 8 + 6, none⟩ = some (.int .i16 p.yx) ∧ w.cell? ⟨g, off + j * 8 + 7, none⟩ = some (.int .i16 p.yy) := by
  obtain ⟨g, off, e, hg, hc⟩ := h.at encPt_len (by omega) hj
  exact ⟨g, off, e, hg, hc 0 _ rfl, hc 1 _ rfl, hc 2 _ rfl, hc 3 _ rfl, hc 4 _ rfl, hc 5 _ rfl, hc 6 _ rfl, hc 7 _ rfl⟩

/-- A glyph made of parts as a value, and where its lists lie. -/
structure CgV where
  g : Cg
  QA : Option Addr
  q : Nat
  qc : Nat
  PA : Option Addr
  pn : Nat
  pc : Nat
def CgV.cells (v : CgV) : Array Value := #[.int .i16 v.g.x0, .int .i16 v.g.x1, .int .i16 v.g.x2, .int .i16 v.g.x3, .slice v.QA v.q v.qc, .slice v.PA v.pn v.pc]
def CgV.val (v : CgV) : Value := .agg v.cells
structure CgV.rows (w : World) (v : CgV) : Prop where
  ps : RowS encPt 8 w v.QA v.q v.g.ps
  pr : Row w v.PA v.pn (cellsOf .u8 v.g.pr)
theorem CgV.rows.below {w w' : World} {v : CgV} (h : v.rows w) (hb : Below w.heap.size w w') : v.rows w' := ⟨h.ps.below hb, h.pr.below hb⟩
theorem cells6 {w : World} {b : Nat} {t : TypeId} {x0 x1 x2 x3 x4 x5 : Value} (h : w.heap[b]? = some (.cells #[x0, x1, x2, x3, x4, x5] t (0, 0))) :
    w.cell? ⟨b, 0, none⟩ = some x0 ∧ w.cell? ⟨b, 1, none⟩ = some x1 ∧ w.cell? ⟨b, 2, none⟩ = some x2 ∧ w.cell? ⟨b, 3, none⟩ = some x3 ∧ w.cell? ⟨b, 4, none⟩ = some x4 ∧ w.cell? ⟨b, 5, none⟩ = some x5 :=
  ⟨cell_of_row _ _ 0 _ _ _ h, cell_of_row _ _ 1 _ _ _ h, cell_of_row _ _ 2 _ _ _ h, cell_of_row _ _ 3 _ _ _ h, cell_of_row _ _ 4 _ _ _ h, cell_of_row _ _ 5 _ _ _ h⟩

theorem codeB_last {ps : List Pt} {p : Pt} (h : ps[ps.length - 1]? = some p) : codeB ps = fb p.f 256 := by
  unfold codeB
  rw [List.getLast?_eq_getElem?, h]

set_option maxRecDepth 100000 in
set_option maxHeartbeats 2000000 in
theorem ccode_any (v : CgV) (w : World) (hr : v.rows w) (hq : 1 ≤ v.q) (hq2 : v.q ≤ 1000000) (ho : v.g.ok) : Calls Try.prog 77 #[v.val] w (Ret w (.bool (codeB v.g.ps))) := by
  have hA := (Below.refl w.heap.size w).alloc (Nat.le_refl _) (.cells v.cells 67)
  have hk := heap_alloc_new w (.cells v.cells 67)
  have hl := hr.ps.len
  obtain ⟨p, hp⟩ : ∃ p, v.g.ps[v.q - 1]? = some p := ⟨_, List.getElem?_eq_getElem (by omega)⟩
  have hpo := ho.ps p (List.mem_of_getElem? hp)
  have HC : Hid (codeB v.g.ps = fb p.f 256) := codeB_last (by rw [hl]; exact hp)
  obtain ⟨g, off, hga, hg, d0, d1, d2, d3, d4, d5, d6, d7⟩ := atPt (hr.below hA).ps hp
  have H := Lib.hid (fun W => chas_any p 256 _ W (w_and256 hpo.f.1 hpo.f.2))
  rw [HC.out]
  have hgw : g < w.heap.size := by
    obtain ⟨g', off', e', hg', _⟩ := atPt hr.ps hp
    rw [hga] at e'
    simp only [Option.some.injEq, Addr.mk.injEq, and_true] at e'
    rw [e'.1]
    exact hg'
  have hne : g ≠ w.heap.size := by omega
  clear hr hp ho hl HC
  unfold CgV.val at *
  unfold CgV.cells at *
  unfold Pt.val Pt.cells at H
  obtain ⟨⟨x0, x1, x2, x3, ps, pr⟩, QA, q, qc, PA, pn, pc⟩ := v
  obtain ⟨f, i, x, y, xx, xy, yx, yy⟩ := p
  simp only at *
  subst hga
  obtain ⟨c0, c1, c2, c3, c4, c5⟩ := cells6 hk
  have w1 : ((q : Int) - 1).toNat = q - 1 := by omega
  have w2 : (0 : Int) ≤ (q : Int) - 1 := by omega
  have w3 : (q : Int) - 1 < (q : Int) := by omega
  have w4 : IntKind.i64.wrap ((q : Int) - 1) = (q : Int) - 1 := IntWalk.i64_in _ (by omega)
  clear hk
  go_enter Try.func77, Try.ntmps77
  go_wp2_with fail
  with_reducible refine (H.out _).mono ?_
  rintro e w5 ⟨rfl, hb⟩
  go_wp2
  go_ret
  exact ⟨rfl, hA.trans (hb.mono hA.size)⟩

end Go.Proofs.Ytlcnonhebppeiaa
