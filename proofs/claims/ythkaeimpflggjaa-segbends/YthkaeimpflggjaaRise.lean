/- Pairs that rise by gaps, as the laws of groups lay them: a contract over this seat's translation. -/
import Derived.Test.YthkaeimpflggjaaGrpD
import Derived.Test.YthkaeimpflggjaaRunS
import Derived.Test.YthkaeimpflggjaaPrsA
import Derived.Test.YthkaeimpflggjaaInts
import Derived.Deep.RegionHeld3
import Derived.Deep.DeepCutAuto
namespace Go.Proofs.Ythkaeimpflggjaa
open Go.RowKit
set_option linter.unusedVariables false

/-- Two fresh rows of the same pairs. -/
structure TwoP (w wr : World) (A1 : Option Addr) (c1 : Nat) (A2 : Option Addr) (c2 m : Nat) (l : List Pr) : Prop where
  o1 : OwnS 67 encP 2 wr w.heap.size A1 m c1 l
  o2 : OwnS 117 encQ 2 wr w.heap.size A2 m c2 l
  bel : Below w.heap.size w wr
theorem TwoP.below {w wr w' : World} {A1 A2 : Option Addr} {c1 c2 m : Nat} {l : List Pr} (h : TwoP w wr A1 c1 A2 c2 m l) (hb : Below wr.heap.size wr w') : TwoP w w' A1 c1 A2 c2 m l :=
  ⟨h.o1.below hb, h.o2.below hb, h.bel.trans (hb.mono h.bel.size)⟩

theorem TwoP.ne {w wr : World} {A1 A2 : Option Addr} {c1 c2 m : Nat} {l : List Pr} (h : TwoP w wr A1 c1 A2 c2 m l) : ∀ g, blockOf A2 = some g → some g ≠ blockOf A1 := by
  intro g hg e
  rcases h.o1.shape with ⟨rfl, _⟩ | ⟨g1, cur1, rfl, _, _, hh1, _⟩
  · simp [blockOf] at e
  · rcases h.o2.shape with ⟨rfl, _⟩ | ⟨g2, cur2, rfl, _, _, hh2, _⟩
    · simp [blockOf] at hg
    · simp [blockOf] at hg e
      subst hg
      subst e
      rw [hh1] at hh2
      simp at hh2
theorem TwoP.one {w wr w3 : World} {A1 A2 : Option Addr} {c1 c2 m : Nat} {l : List Pr} (h : TwoP w wr A1 c1 A2 c2 m l) {o : Obj} (hg : ((wr.alloc o).drew).grownBy w3 (blockOf A1)) : OwnS 117 encQ 2 w3 w.heap.size A2 m c2 l ∧ Below w.heap.size w w3 :=
  ⟨((h.o2.alloc o).drew).grown hg h.ne, ((h.bel.alloc h.bel.size o).drew).grown hg (by have := h.bel.size; simp; omega) (fun q e => (h.o1.from_ q e).1)⟩
/-- The first row has got one more, the second one gets it. -/
theorem TwoP.two {w w3 w4 : World} {A3 A2 A4 : Option Addr} {c3 c2 c4 m m' : Nat} {l l' : List Pr} (h1 : OwnS 67 encP 2 w3 w.heap.size A3 m' c3 l') (h2 : OwnS 117 encQ 2 w3 w.heap.size A2 m c2 l) (hb : Below w.heap.size w w3) {o : Obj} (h4 : OwnS 117 encQ 2 w4 w.heap.size A4 m' c4 l') (hg : (w3.alloc o).grownBy w4 (blockOf A2)) : TwoP w w4 A3 c3 A4 c4 m' l' :=
  ⟨(h1.alloc o).grown hg (fun g hg' e => by
    rcases h1.shape with ⟨rfl, _⟩ | ⟨g1, cur1, rfl, _, _, hh1, _⟩
    · simp [blockOf] at hg'
    · rcases h2.shape with ⟨rfl, _⟩ | ⟨g2, cur2, rfl, _, _, hh2, _⟩
      · simp [blockOf] at e
      · simp [blockOf] at hg' e
        subst hg'
        subst e
        rw [hh1] at hh2
        simp at hh2), h4, (hb.alloc hb.size o).grown hg (by have := hb.size; simp; omega) (fun q e => (h2.from_ q e).1)⟩

theorem rowS_at {α : Type} {enc : α → List Value} {k : Nat} (hk : ∀ x, (enc x).length = k) (V : World) (b : Nat) (hb : b = V.heap.size) (t : TypeId) (l : List α) (cs : Array Value) (hcs : cs = (flat enc l).toArray) (n : Nat) (hn : l.length = n) : RowS enc k (V.alloc (.cells cs t)) (some ⟨b, 0, none⟩) n l := by
  subst hb
  exact rowS_vals hk V t l cs hcs n hn
theorem TwoP.one2 {w wr w3 : World} {A1 A2 : Option Addr} {c1 c2 m : Nat} {l : List Pr} (h : TwoP w wr A1 c1 A2 c2 m l) {o o' : Obj} (hg : (((wr.alloc o).alloc o').drew).grownBy w3 (blockOf A1)) : OwnS 117 encQ 2 w3 w.heap.size A2 m c2 l ∧ Below w.heap.size w w3 :=
  ⟨(((h.o2.alloc o).alloc o').drew).grown hg h.ne, (((h.bel.alloc h.bel.size o).alloc (by have := h.bel.size; simp; omega) o').drew).grown hg (by have := h.bel.size; simp; omega) (fun q e => (h.o1.from_ q e).1)⟩
theorem TwoP.row2 {w wr w3 V : World} {A1 A2 : Option Addr} {c1 c2 m b : Nat} {l l2 : List Pr} (h : TwoP w wr A1 c1 A2 c2 m l) (hr : RowS encQ 2 V (some ⟨b, 0, none⟩) 1 l2) (hb : wr.heap.size ≤ b) (hg : V.grownBy w3 (blockOf A1)) : RowS encQ 2 w3 (some ⟨b, 0, none⟩) 1 l2 :=
  hr.grown hg (fun q e e' => by simp [blockOf] at e; subst e; have := (h.o1.from_ b e'.symm).2; omega)
theorem TwoP.two2 {w w3 w4 : World} {A3 A2 A4 : Option Addr} {c3 c2 c4 m m' : Nat} {l l' : List Pr} (h1 : OwnS 67 encP 2 w3 w.heap.size A3 m' c3 l') (h2 : OwnS 117 encQ 2 w3 w.heap.size A2 m c2 l) (hb : Below w.heap.size w w3) (h4 : OwnS 117 encQ 2 w4 w.heap.size A4 m' c4 l') (hg : w3.grownBy w4 (blockOf A2)) : TwoP w w4 A3 c3 A4 c4 m' l' :=
  ⟨h1.grown hg (fun g hg' e => by
    rcases h1.shape with ⟨rfl, _⟩ | ⟨g1, cur1, rfl, _, _, hh1, _⟩
    · simp [blockOf] at hg'
    · rcases h2.shape with ⟨rfl, _⟩ | ⟨g2, cur2, rfl, _, _, hh2, _⟩
      · simp [blockOf] at e
      · simp [blockOf] at hg' e
        subst hg'
        subst e
        rw [hh1] at hh2
        simp at hh2), h4, hb.grown hg hb.size (fun q e => (h2.from_ q e).1)⟩

/-- What it leaves. -/
def RetRise (most : Int) (w : World) (e : Ending) (w' : World) : Prop :=
  ∃ (l : List Pr) (A1 A2 : Option Addr) (c1 c2 m : Nat), e = .returned (.tuple #[.slice A1 m c1, .slice A2 m c2]) ∧ TwoP w w' A1 c1 A2 c2 m l ∧ m ≤ 40 ∧ PrG l ∧ risesF most (-1) l = true

end Go.Proofs.Ythkaeimpflggjaa
