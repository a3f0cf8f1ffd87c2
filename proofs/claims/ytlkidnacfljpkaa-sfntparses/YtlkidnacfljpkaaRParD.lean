/- What the document's Parse of a font tells, and what its loops keep. -/
import Derived.Test.YtlkidnacfljpkaaRParM
import Derived.Test.YtlkidnacfljpkaaLoopsOf
namespace Go.Proofs.Ytlkidnacfljpkaa
open Go.RowKit
set_option linter.unusedVariables false

/-- What it tells. -/
def RetRP (w : World) (zs : List Int) (e : Ending) (w' : World) : Prop :=
  Below w.heap.size w w' ∧
  ((formB zs = false ∧ e = .returned (.tuple #[.slice none 0 0, .int .i64 2])) ∨
   (formB zs = true ∧ ∃ l : List Tab, l.map Tab.pure = (dirL (zs.take 1036)).map (pureOf zs) ∧
     ((summedP zs (dirL (zs.take 1036)) (l.map Tab.pure) = false ∧ e = .returned (.tuple #[.slice none 0 0, .int .i64 3])) ∨
      (summedP zs (dirL (zs.take 1036)) (l.map Tab.pure) = true ∧ ∃ A n c, e = .returned (.tuple #[.slice A n c, .int .i64 0]) ∧ OwnS 36 encT 2 w' w.heap.size A n c l ∧ ∀ t ∈ l, t.ok w'))))

theorem front_no {zs : List Int} (h : n4b zs 0 = false ∨ n2b zs 4 = false ∨ (n4at zs 0 != 65536) = true ∨ decide ((cntN zs : Int) < 1) = true ∨ decide (64 < (cntN zs : Int)) = true ∨ decide ((zs.length : Int) < 12 + 16 * (cntN zs : Int)) = true) (h4 : n2at zs 4 = cntN zs) : formB zs = false := by
  refine formB_not ?_
  rw [dirB_take, h4]
  unfold cntB
  unfold n4b n2b at h
  simp only [decide_eq_false_iff_not, decide_eq_true_iff, bne_iff_ne] at h
  rcases h with h | h | h | h | h | h
  · rw [decide_eq_false (show ¬ (12 + 16 * cntN zs ≤ zs.length) by omega)]; simp
  · rw [decide_eq_false (show ¬ (12 + 16 * cntN zs ≤ zs.length) by omega)]; simp
  · rw [show (n4at zs 0 == 65536) = false by simpa using h]; simp
  · rw [decide_eq_false (show ¬ (1 ≤ (cntN zs : Int) ∧ (cntN zs : Int) ≤ 64) by omega)]; simp
  · rw [decide_eq_false (show ¬ (1 ≤ (cntN zs : Int) ∧ (cntN zs : Int) ≤ 64) by omega)]; simp
  · rw [decide_eq_false (show ¬ (12 + 16 * cntN zs ≤ zs.length) by omega)]; simp

theorem dirB_fit {zs : List Int} {k n : Nat} (hk : cntN zs = k) (k1 : 1 ≤ k) (k64 : k ≤ 64) (hl : zs.length = n) (hkn : 12 + 16 * k ≤ n) (hv : n4at zs 0 = 65536) (h4 : n2at zs 4 = k) : dirB (zs.take 1036) = searchB zs := by
  rw [dirB_take, h4, hk, hv, hl, decide_eq_true hkn]
  unfold cntB
  rw [decide_eq_true (show 1 ≤ (k : Int) ∧ (k : Int) ≤ 64 by omega)]
  simp

/-- Tables that were laid of bytes, over an older world. -/
structure QS (w wr : World) (zs : List Int) (A : Option Addr) (j c : Nat) (l : List Tab) : Prop where
  own : OwnS 36 encT 2 wr w.heap.size A j c l
  pure : l.map Tab.pure = (List.range j).map fun i => pureOf zs (entOf zs i)
  data : ∀ t ∈ l, OwnB wr w.heap.size t.A t.n t.c t.zs ∧ Bytes t.zs ∧ t.n ≤ 100000
  bel : Below w.heap.size w wr

section
variable {w wr w' : World} {zs : List Int} {A : Option Addr} {j c : Nat} {l : List Tab}
theorem QS.below (h : QS w wr zs A j c l) (hb : Below wr.heap.size wr w') : QS w w' zs A j c l := ⟨h.own.below hb, h.pure, fun t ht => ⟨(h.data t ht).1.below hb, (h.data t ht).2⟩, h.bel.trans (hb.mono h.bel.size)⟩
theorem QS.nil (hb : Below w.heap.size w wr) : QS w wr zs none 0 0 [] := ⟨OwnS.nil _ _ _ _ _, rfl, (fun t ht => by cases ht), hb⟩
theorem QS.ok (h : QS w wr zs A j c l) : ∀ t ∈ l, t.ok wr := fun t ht => ⟨(h.data t ht).1.row, (h.data t ht).2.1, by have := (h.data t ht).2.2; omega⟩
theorem QS.push {A' : Option Addr} {c' : Nat} {t : Tab} (h : QS w wr zs A j c l) (ht : OwnB wr w.heap.size t.A t.n t.c t.zs) (hB : Bytes t.zs) (hn : t.n ≤ 100000) (hp : t.pure = pureOf zs (entOf zs j)) (ho : OwnS 36 encT 2 w' w.heap.size A' (j + 1) c' (l ++ [t])) (hg : wr.grownBy w' (blockOf A)) : QS w w' zs A' (j + 1) c' (l ++ [t]) := by
  have keep : ∀ {B : Option Addr} {n c : Nat} {ys : List Int}, OwnB wr w.heap.size B n c ys → OwnB w' w.heap.size B n c ys := fun {B n c ys} hO => hO.grown hg fun g e1 e2 => by
    rcases hO.shape with ⟨rfl, _⟩ | ⟨g1, cur1, rfl, _, _, hh1, _⟩
    · simp [blockOf] at e1
    · simp [blockOf] at e1
      subst e1
      rcases h.own.shape with ⟨rfl, _⟩ | ⟨g2, cur2, rfl, _, _, hh2, _⟩
      · simp [blockOf] at e2
      · simp [blockOf] at e2
        subst e2
        rw [hh1] at hh2
        simp at hh2
  refine ⟨ho, ?_, ?_, h.bel.grown hg h.bel.size (fun k e => (h.own.from_ k e).1)⟩
  · rw [List.map_append, h.pure, List.range_succ, List.map_append]
    simp [hp]
  · intro x hx
    rcases List.mem_append.1 hx with hx | hx
    · exact ⟨keep (h.data x hx).1, (h.data x hx).2⟩
    · simp at hx
      subst hx
      exact ⟨keep ht, hB, hn⟩
end

/-- The bodies of its two loops. -/
noncomputable def rp1Body : Code := (loopsOf (Try.f15.body.getD .skip))[0]?.getD .skip
noncomputable def rp2Body : Code := (loopsOf (Try.f15.body.getD .skip))[1]?.getD .skip

/-- The way out with an error. -/
def RetPN (zs : List Int) (w : World) (Q0 : Exit → Act → World → Prop) : Prop :=
  ∀ (a' : Act) (w' : World), formB zs = false → a'.tmps.getD 2 undef = .slice none 0 0 → a'.tmps.getD 3 undef = .int .i64 2 → a'.defers = [] → Below w.heap.size w w' → Q0 .ret a' w'
def RetPS (zs : List Int) (w : World) (l : List Tab) (Q0 : Exit → Act → World → Prop) : Prop :=
  ∀ (a' : Act) (w' : World), summedP zs (dirL (zs.take 1036)) (l.map Tab.pure) = false → a'.tmps.getD 2 undef = .slice none 0 0 → a'.tmps.getD 3 undef = .int .i64 3 → a'.defers = [] → Below w.heap.size w w' → Q0 .ret a' w'

/-- Two plain results. -/
theorem results_pair {P : Program} {fn : Func} {p q : Tmp} (h : fn.results = #[.tmp p, .tmp q]) (tmps : Array Value) (w : World) {v u : Value} (hp : tmps.getD p undef = v) (hq : tmps.getD q undef = u) : (results fn tmps).run P w = .ok (.tuple #[v, u]) w := by
  have hp' : tmps[p]?.getD undef = v := by simpa using hp
  have hq' : tmps[q]?.getD undef = u := by simpa using hq
  simp [results, h, hp', hq']

end Go.Proofs.Ytlkidnacfljpkaa
