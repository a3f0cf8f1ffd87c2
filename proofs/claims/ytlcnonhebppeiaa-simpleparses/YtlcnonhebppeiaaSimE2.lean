/- simple.Same, as a contract over this seat's translation. -/
import Derived.Test.YtlcnonhebppeiaaSimE
import Derived.Test.YtlcnonhebppeiaaJoinN
namespace Go.Proofs.Ytlcnonhebppeiaa
open Go.RowKit
set_option linter.unusedVariables false

def sameBox (a b : Gl) : Bool := decide ([a.x0, a.x1, a.x2, a.x3] = [b.x0, b.x1, b.x2, b.x3])
def glSame (a b : Gl) : Bool := sameBox a b && sameB a.es b.es && sameB a.pr b.pr && samePs a.ps b.ps
theorem glSame_refl (g : Gl) : glSame g g = true := by simp [glSame, sameBox, sameB, samePs]
theorem glSame_eq {a b : Gl} (h : glSame a b = true) : a = b := by
  obtain ⟨x0, x1, x2, x3, es, pr, ps⟩ := a
  obtain ⟨y0, y1, y2, y3, fs, qr, qs⟩ := b
  simp [glSame, sameBox, sameB, samePs] at h
  simp [h]

set_option maxRecDepth 100000 in
theorem run_eq_box (x0 x1 x2 x3 y0 y1 y2 y3 : Int) (w : World) : (binOp .eql 23 (.agg #[.int .i16 x0, .int .i16 x1, .int .i16 x2, .int .i16 x3]) (.agg #[.int .i16 y0, .int .i16 y1, .int .i16 y2, .int .i16 y3])).run Try.prog w = .ok (.bool (decide ([x0, x1, x2, x3] = [y0, y1, y2, y3]))) w := by
  have h := run_equalIn_ints (P := Try.prog) w 9998 23 22 4 .i16 .i16 [x0, x1, x2, x3] [y0, y1, y2, y3] Try.underlying23 Try.underlying22 (by simp [go_sem]) (by simp [go_sem]) rfl rfl
  change (Op.equalIn 10000 23 (.agg #[.int .i16 x0, .int .i16 x1, .int .i16 x2, .int .i16 x3]) (.agg #[.int .i16 y0, .int .i16 y1, .int .i16 y2, .int .i16 y3])).run Try.prog w = _ at h
  rw [run_eql_struct, h]
  rfl

set_option maxRecDepth 100000 in
set_option maxHeartbeats 2000000 in
theorem osame_any (a b : GlV) (w : World) (ha : a.rows w) (hb : b.rows w) (a1 : a.en ≤ 1000000) (a2 : a.pn ≤ 1000000) (a3 : a.sn ≤ 1000000) (b1 : b.en ≤ 1000000) (b2 : b.pn ≤ 1000000) (b3 : b.sn ≤ 1000000) :
    Calls Try.prog 27 #[a.val, b.val] w (Ret w (.bool (glSame a.g b.g))) := by
  have hA1 := (Below.refl w.heap.size w).alloc (Nat.le_refl _) (.cells a.cells 29)
  have hA := hA1.alloc (hA1.size) (.cells b.cells 29)
  have HE : Hid (∀ W, Below w.heap.size w W → Calls Try.prog 68 #[.slice a.EA a.en a.ec, .slice b.EA b.en b.ec] W (Quiet W (.bool (sameB a.g.es b.g.es)))) := fun W hW => equalU16_any _ _ _ _ _ _ _ _ W (ha.es.below hW) (hb.es.below hW) (by omega) (by omega)
  have HP : Hid (∀ W, Below w.heap.size w W → Calls Try.prog 69 #[.slice a.PA a.pn a.pc, .slice b.PA b.pn b.pc] W (Quiet W (.bool (sameB a.g.pr b.g.pr)))) := fun W hW => equalU8_any _ _ _ _ _ _ _ _ W (ha.pr.below hW) (hb.pr.below hW) (by omega) (by omega)
  have HS : Hid (∀ W, Below w.heap.size w W → Calls Try.prog 70 #[.slice a.SA a.sn a.sc, .slice b.SA b.sn b.sc] W (Quiet W (.bool (samePs a.g.ps b.g.ps)))) := fun W hW => equalSp_any _ _ _ _ _ _ _ _ W (ha.ps.below hW) (hb.ps.below hW) a3 b3
  clear ha hb a1 a2 a3 b1 b2 b3 hA1
  unfold GlV.val glSame sameBox at *
  unfold GlV.cells at *
  obtain ⟨⟨x0, x1, x2, x3, es, pr, ps⟩, EA, en, ec, PA, pn, pc, SA, sn, sc⟩ := a
  obtain ⟨⟨y0, y1, y2, y3, fs, qr, qs⟩, FA, fn, fc, QA, qn, qc, TA, tn, tc⟩ := b
  simp only at *
  have eb := fun W => run_eq_box x0 x1 x2 x3 y0 y1 y2 y3 W
  cases hbx : decide ([x0, x1, x2, x3] = [y0, y1, y2, y3]) with
  | false =>
    rw [hbx] at eb
    clear hbx HE HP HS
    go_enter Try.func27, Try.ntmps27
    go_wp2
    go_ret
    exact ⟨rfl, hA⟩
  | true =>
    rw [hbx] at eb
    clear hbx
    go_enter Try.func27, Try.ntmps27
    go_wp2_with fail
    have H1 := Lib.hid (HE.out _ hA)
    clear HE
    with_reducible refine H1.out.mono ?_
    rintro e w1 ⟨rfl, q1, rfl⟩
    have hA2 := below_drewN hA q1
    clear H1 hA
    cases h1 : sameB es fs with
    | false =>
      clear HP HS
      go_wp2
      go_ret
      exact ⟨by simp [h1], hA2⟩
    | true =>
      go_wp2_with fail
      have H2 := Lib.hid (HP.out _ hA2)
      clear HP
      with_reducible refine H2.out.mono ?_
      rintro e w1 ⟨rfl, q2, rfl⟩
      have hA3 := below_drewN hA2 q2
      rw [World.drewN_drewN] at hA3
      clear H2 hA2
      cases h2 : sameB pr qr with
      | false =>
        clear HS
        go_wp2
        go_ret
        exact ⟨by simp [h1, h2], hA3⟩
      | true =>
        go_wp2_with fail
        have H3 := Lib.hid (HS.out _ hA3)
        clear HS
        with_reducible refine H3.out.mono ?_
        rintro e w1 ⟨rfl, q3, rfl⟩
        have hA4 := below_drewN hA3 q3
        rw [World.drewN_drewN] at hA4
        clear H3 hA3
        cases h3 : samePs ps qs
        all_goals
          go_wp2
          go_ret
          exact ⟨by simp [h1, h2, h3], hA4⟩

end Go.Proofs.Ytlcnonhebppeiaa
