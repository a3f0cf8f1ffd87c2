/- A Reader beside two structs in blocks of their own: what asking it, and storing into one of them, leaves. -/
import Derived.Test.YtlkidnacfljpkaaWord3
namespace Go.Proofs.Ytlkidnacfljpkaa
open Go.RowKit
set_option linter.unusedVariables false

/-- The number of two bytes, of four, from a place on. -/
def n2at (zs : List Int) (i : Nat) : Int := num (zs.drop i) 2
def n4at (zs : List Int) (i : Nat) : Int := num (zs.drop i) 4

theorem rest_at (zs : List Int) (i m : Nat) (h : i + m ≤ zs.length) : rest (zs.drop i) m = zs.drop (i + m) := by
  unfold rest
  rw [if_pos (by rw [List.length_drop]; omega), List.drop_drop]
theorem gone_at (zs : List Int) (a : Int) (i m : Nat) (h : i + m ≤ zs.length) : gone (zs.drop i) a m = a + m := by
  unfold gone
  rw [if_pos (by rw [List.length_drop]; omega)]
theorem badn_at (zs : List Int) (bad : Bool) (i m : Nat) (h : i + m ≤ zs.length) : badn (zs.drop i) bad m = bad := by
  unfold badn
  rw [if_pos (by rw [List.length_drop]; omega)]
theorem drop_bytes {zs : List Int} (h : Bytes zs) (i : Nat) : Bytes (zs.drop i) := fun x hx => h x (List.mem_of_mem_drop hx)

/-- A Reader in block b of which i bytes of zs are gone through, and two structs that are younger than w. -/
structure RS (w wr : World) (B b : Nat) (zs : List Int) (i b1 : Nat) (c1 : Array Value) (b2 : Nat) (c2 : Array Value) (t : TypeId) : Prop where
  rd : Rd wr B b (zs.drop i) i false
  gr : w.grownBy wr (some b)
  k1 : wr.heap[b1]? = some (.cells c1 t (0, 0))
  k2 : wr.heap[b2]? = some (.cells c2 t (0, 0))
  lt : b < w.heap.size
  l1 : w.heap.size ≤ b1
  l2 : w.heap.size ≤ b2
  ne : b1 ≠ b2
  n8 : t ≠ 5

section
variable {w wr w' : World} {B b : Nat} {zs : List Int} {i b1 b2 : Nat} {c1 c2 : Array Value} {t : TypeId}
theorem RS.ask (h : RS w wr B b zs i b1 c1 b2 c2 t) {m : Nat} (hm : i + m ≤ zs.length) (hr : Rd w' B b (rest (zs.drop i) m) (gone (zs.drop i) i m) (badn (zs.drop i) false m)) (hg : wr.grownBy w' (some b)) : RS w w' B b zs (i + m) b1 c1 b2 c2 t := by
  rw [rest_at zs i m hm, gone_at zs i i m hm, badn_at zs false i m hm] at hr
  have h1 := h.l1
  have h2 := h.l2
  have h3 := h.lt
  refine ⟨by simpa using hr, grown_trans h.gr hg, ?_, ?_, h.lt, h.l1, h.l2, h.ne, h.n8⟩
  · rw [hg.block b1 (lt_of_block h.k1) (by intro e; cases e; omega)]; exact h.k1
  · rw [hg.block b2 (lt_of_block h.k2) (by intro e; cases e; omega)]; exact h.k2
theorem RS.set2 (h : RS w wr B b zs i b1 c1 b2 c2 t) (j : Nat) (v : Value) : RS w (wr.setCell ⟨b2, j, none⟩ v) B b zs i b1 c1 b2 (c2.setIfInBounds j v) t := by
  have h2 := h.l2
  have h3 := h.lt
  refine ⟨h.rd.keep (by simp [World.setCell]) (fun g hg _ ho => Below.heap_setCell wr _ v g (by
      rintro rfl
      rcases ho with e | ⟨cur, hc⟩
      · omega
      · have := h.k2
        rw [hc] at this
        simp at this
        exact h.n8 this.2.symm)), ?_, ?_, set_block h.k2 j v, h.lt, h.l1, h.l2, h.ne, h.n8⟩
  · refine ⟨h.gr.os, h.gr.tape, h.gr.output, by simpa [World.setCell] using h.gr.size, fun k hk hne => (Below.heap_setCell wr _ v k (by rintro rfl; omega)).trans (h.gr.block k hk hne)⟩
  · rw [Below.heap_setCell wr _ v b1 h.ne]; exact h.k1
theorem RS.cell1 (h : RS w wr B b zs i b1 c1 b2 c2 t) (j : Nat) (v : Value) (hj : c1[j]? = some v) : wr.cell? ⟨b1, j, none⟩ = some v := (cell_of_row wr _ j _ _ _ h.k1).trans hj
theorem RS.cell2 (h : RS w wr B b zs i b1 c1 b2 c2 t) (j : Nat) (v : Value) (hj : c2[j]? = some v) : wr.cell? ⟨b2, j, none⟩ = some v := (cell_of_row wr _ j _ _ _ h.k2).trans hj
theorem RS.thaw1 (h : RS w wr B b zs i b1 c1 b2 c2 t) (o : Nat) : wr.frozen? ⟨b1, o, none⟩ = false := by simp [World.frozen?, h.k1]
theorem RS.thaw2 (h : RS w wr B b zs i b1 c1 b2 c2 t) (o : Nat) : wr.frozen? ⟨b2, o, none⟩ = false := by simp [World.frozen?, h.k2]
end

/-- A store into what is younger. -/
theorem grown_new {w wr : World} {row : Option Nat} {g : Nat} (hg : w.heap.size ≤ g) (j : Nat) (v : Value) (h : w.grownBy wr row) : w.grownBy (wr.setCell ⟨g, j, none⟩ v) row :=
  ⟨h.os, h.tape, h.output, by simpa [World.setCell] using h.size, fun k hk hne => (Below.heap_setCell wr _ v k (by rintro rfl; omega)).trans (h.block k hk hne)⟩

theorem below_set {w0 w : World} {B g : Nat} (hg : B ≤ g) (j : Nat) (v : Value) (h : Below B w0 w) : Below B w0 (w.setCell ⟨g, j, none⟩ v) := h.setCell (p := ⟨g, j, none⟩) hg v

/-- Two structs made one behind the other, beside a Reader. -/
theorem rs_new (w : World) (c1 c2 : Array Value) (t : TypeId) (B b : Nat) (zs : List Int) (h : Rd w B b zs 0 false) (h8 : t ≠ 5) :
    RS w ((w.alloc (.cells c1 t)).alloc (.cells c2 t)) B b zs 0 w.heap.size c1 (w.heap.size + 1) c2 t := by
  have hA : Below w.heap.size w ((w.alloc (.cells c1 t)).alloc (.cells c2 t)) := ((Below.refl _ _).alloc (Nat.le_refl _) _).alloc (by simp) _
  refine ⟨by simpa using h.below hA, grown_of_below hA _, ?_, ?_, h.lt, Nat.le_refl _, by omega, by omega, h8⟩
  · rw [Below.heap_alloc _ _ _ (by simp)]
    exact heap_alloc_new w _
  · have := heap_alloc_new (w.alloc (.cells c1 t)) (.cells c2 t)
    simpa using this

end Go.Proofs.Ytlkidnacfljpkaa
