/- The document's example of segments; a map in a box. -/
import Derived.Test.YthkaeimpflggjaaSegY
import Derived.Test.YthkaeimpflggjaaRunS
import Derived.Test.YthkaeimpflggjaaPrsA
import Derived.Test.YthkaeimpflggjaaLaw01
namespace Go.Proofs.Ythkaeimpflggjaa
open Go.RowKit
set_option linter.unusedVariables false

/-- A map in a box. -/
structure BoxS (w wr : World) (bx : Nat) (A2 : Option Addr) (N c2 : Nat) (zs : List Int) (g : Nat) : Prop where
  box : wr.heap[bx]? = some (.cells #[.slice A2 N c2] 59 (0, 0))
  map : SMap wr A2 N zs g
  bel : Below w.heap.size w wr
theorem BoxS.below {w wr w' : World} {bx : Nat} {A2 : Option Addr} {N c2 : Nat} {zs : List Int} {g : Nat} (h : BoxS w wr bx A2 N c2 zs g) (hb : Below wr.heap.size wr w') : BoxS w w' bx A2 N c2 zs g :=
  ⟨kept_block h.box hb, h.map.below hb, h.bel.trans (hb.mono h.bel.size)⟩
theorem BoxS.cell {w wr : World} {bx : Nat} {A2 : Option Addr} {N c2 : Nat} {zs : List Int} {g : Nat} (h : BoxS w wr bx A2 N c2 zs g) : wr.cell? ⟨bx, 0, none⟩ = some (.slice A2 N c2) := cell_of_row _ _ 0 _ _ _ h.box
theorem BoxS.look {w wr : World} {bx : Nat} {A2 : Option Addr} {N c2 : Nat} {zs : List Int} {g : Nat} (h : BoxS w wr bx A2 N c2 zs g) (hN : N ≤ 100000) (code v : Int) (hv : lookS zs N code 0 N = v) (c0 : -2147483648 ≤ code) (c1 : code ≤ 2147483647) :
    Calls Try.prog 30 #[.agg #[.slice A2 N c2], .int .i32 code] wr (Ret wr (.int .u16 v)) := hv ▸ slook_any A2 N c2 zs g code wr h.map (by omega) c0 c1

def ex09 : List Pr := [⟨65, 3⟩, ⟨66, 4⟩]
theorem ex09_g : PrG ex09 := by intro p hp; simp [ex09] at hp; rcases hp with rfl | rfl <;> simp

set_option maxRecDepth 100000 in
set_option maxHeartbeats 2000000 in
theorem awake09_any (w : World) : Calls Try.prog 23 #[] w (True_ w) := by
  have hA : Below w.heap.size w (w.alloc (.cells #[.int .i32 65, .int .u16 3, .int .i32 66, .int .u16 4] 67)) := (Below.refl _ _).alloc (Nat.le_refl _) _
  have hrow : RowS encP 2 (w.alloc (.cells #[.int .i32 65, .int .u16 3, .int .i32 66, .int .u16 4] 67)) (some ⟨w.heap.size, 0, none⟩) 2 ex09 := rowS_vals encP_len w 67 ex09 _ rfl 2 rfl
  have hris : risesF 65534 (-1) ex09 = true := by decide
  obtain ⟨e0, e1, e2, e3, e4, e5⟩ := sOut_right ex09_g hris (by decide)
  have en : (runsF folS ex09).length + 1 = 2 := by decide
  have el := e3 66
  rw [show glyphOf 66 ex09 = 4 by decide] at el
  rw [en] at e2 e5 el
  have HG := Lib.hid (sbuild_any (some ⟨w.heap.size, 0, none⟩) 2 2 ex09 _ hrow (by omega) ex09_g)
  clear hrow hris e0 e3
  generalize sOut ex09 = zs at *
  go_enter Try.func23, Try.ntmps23
  go_wp2_with fail
  with_reducible refine HG.out.mono ?_
  rintro e w1 ⟨A1, n1, c1, rfl, hown1, hb1⟩
  have hl1 := hown1.len
  have hbw := hA.trans (hb1.mono hA.size)
  have HP := Lib.hid (sparse_any A1 n1 c1 zs w1 hown1.row e4 (by omega) hown1.cap)
  clear HG hA hb1 hown1
  go_wp2_with fail
  with_reducible refine HP.out.mono ?_
  rintro e w2 ⟨hb2, ⟨hf, _⟩ | ⟨_, A2, c2, g2, rfl, hown2, hnum2⟩⟩
  · rw [e1] at hf; cases hf
  have hm := SMap.of e4 e1 hown2 hnum2
  rw [e2] at hm ⊢
  have hbw2 := hbw.trans (hb2.mono hbw.size)
  clear HP hown2 hnum2 hb2 hbw e1 e4
  unfold smV
  have hA2 : Below w2.heap.size w2 (w2.alloc (.cells #[.slice A2 2 c2] 59)) := (Below.refl _ _).alloc (Nat.le_refl _) _
  have hs : BoxS w (w2.alloc (.cells #[.slice A2 2 c2] 59)) w2.heap.size A2 2 c2 zs g2 := ⟨heap_alloc_new w2 _, hm.below hA2, hbw2.trans (hA2.mono hbw2.size)⟩
  have kb := hs.cell
  have HGr := Lib.hid (fun W => ssegments_any A2 2 c2 W)
  unfold smV at HGr
  have HL : Hid (∀ W, BoxS w W w2.heap.size A2 2 c2 zs g2 → Calls Try.prog 30 #[.agg #[.slice A2 2 c2], .int .i32 66] W (Ret W (.int .u16 4))) := fun W h => h.look (by omega) 66 4 el (by omega) (by omega)
  clear hm hA2 hbw2 el
  go_wp2_with (first
    | (go_at_call 28; (with_reducible refine (HGr.out _).mono ?_); rintro e wn ⟨rfl, hbn⟩; replace hs := hs.below hbn; replace kb := hs.cell; clear hbn)
    | (go_at_call 30; (with_reducible refine (HL.out _ hs).mono ?_); rintro e wn ⟨rfl, hbn⟩; replace hs := hs.below hbn; replace kb := hs.cell; clear hbn))
  go_ret
  exact ⟨rfl, hs.bel⟩

theorem glyphOf_absent {c : Int} : ∀ {l : List Pr}, (∀ p ∈ l, p.code ≠ c) → glyphOf c l = 0
  | [], _ => rfl
  | p :: r, h => by
    rw [glyphOf, if_neg (h p (by simp))]
    exact glyphOf_absent (fun q hq => h q (by simp [hq]))

end Go.Proofs.Ythkaeimpflggjaa
