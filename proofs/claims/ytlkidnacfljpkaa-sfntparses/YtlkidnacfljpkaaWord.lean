/- What package word answers: bytes.Clone, New, and a Reader's calls, as contracts over this seat's translation. -/
import Derived.Test.YtlkidnacfljpkaaRef2
namespace Go.Proofs.Ytlkidnacfljpkaa
open Go.RowKit
set_option linter.unusedVariables false

theorem clone_any (A : Option Addr) (n c : Nat) (zs : List Int) (w : World) (hr : Row w A n (cellsOf .u8 zs)) (hn : n ≤ 140737488351232) :
    Calls Try.prog 38 #[.slice A n c] w (RetB w zs) := by
  obtain ⟨i0, hi, hz0, hz1, hz2⟩ := info_parts Try.u8info
  have Hn := Lib.hid hr.len
  cases A with
  | none =>
    have h0 : Hid (zs = []) := by
      have := Hn.out
      rcases Nat.eq_zero_or_pos n with h | h
      · exact List.eq_nil_of_length_eq_zero (by omega)
      · obtain ⟨g, off, e, _⟩ := hr.2 h
        cases e
    go_enter Try.func38, Try.ntmps38
    go_wp2
    go_ret
    refine ⟨none, 0, 0, rfl, ?_, Below.refl _ _⟩
    rw [h0.out]
    exact Own.nil _ _ _ _
  | some a =>
    go_enter Try.func38, Try.ntmps38
    go_wp2_with (at_builtin; refine wpList_append_row rfl (.tmp 5) (.tmp 6) _ rfl 5 .u8 w.heap.size i0 1 Try.underlying27 hi hz0 hz1 hz2 (some ⟨w.heap.size, 0, none⟩) 0 0 [] rfl (own_lit w w.heap.size 5 .u8 [] 0 rfl (Nat.le_refl _) (by simp only [maxLen]; omega)) (some a) n c zs rfl (hr.below ((Below.refl _ _).alloc (Nat.le_refl _) _)) (by omega) (by omega) (by simp) ?_)
    intro A2 c2 w' hown hg
    have hb : Below w.heap.size w w' := ((Below.refl _ _).alloc (Nat.le_refl _) _).grown hg (by simp) (fun k hk => by simp [blockOf] at hk; omega)
    clear hg
    go_wp2
    go_ret
    exact ⟨A2, n, c2, rfl, hown, hb⟩

/-- A Reader in block b: the numbers zs are left, a bytes were gone through. It, and the bytes that it reads, lie from block B on. -/
def Rd (w : World) (B b : Nat) (zs : List Int) (a : Int) (bad : Bool) : Prop :=
  ∃ A n c, w.heap[b]? = some (.cells #[.slice A n c, .int .i64 a, .bool bad] 121 (0, 0)) ∧ B ≤ b ∧ Row w A n (cellsOf .u8 zs) ∧ n ≤ c ∧ ∀ g, blockOf A = some g → B ≤ g ∧ ∃ cur, w.heap[g]? = some (.cells cur 5 (0, 0))

/-- Block b holds a Reader. -/
def RdBlock (w : World) (b : Nat) : Prop := ∃ cs, w.heap[b]? = some (.cells cs 121 (0, 0))

theorem Rd.block {w : World} {B b : Nat} {zs : List Int} {a : Int} {bad : Bool} (h : Rd w B b zs a bad) : RdBlock w b := by
  obtain ⟨A, n, c, hb, _⟩ := h
  exact ⟨_, hb⟩

theorem Rd.lt {w : World} {B b : Nat} {zs : List Int} {a : Int} {bad : Bool} (h : Rd w B b zs a bad) : b < w.heap.size := by
  obtain ⟨A, n, c, hb, _⟩ := h
  exact lt_of_block hb

theorem Rd.from_ {w : World} {B b : Nat} {zs : List Int} {a : Int} {bad : Bool} (h : Rd w B b zs a bad) : B ≤ b := by
  obtain ⟨A, n, c, hb, h1, _⟩ := h
  exact h1

theorem Rd.mono {w : World} {B B' b : Nat} {zs : List Int} {a : Int} {bad : Bool} (h : Rd w B b zs a bad) (hB : B' ≤ B) : Rd w B' b zs a bad := by
  obtain ⟨A, n, c, hb, h1, h2, h3, h4⟩ := h
  exact ⟨A, n, c, hb, by omega, h2, h3, fun g hg => ⟨by have := (h4 g hg).1; omega, (h4 g hg).2⟩⟩

theorem u8_ne_rd {w : World} {g b : Nat} {cur cs : Array Value} (h1 : w.heap[g]? = some (.cells cur 5 (0, 0))) (h2 : w.heap[b]? = some (.cells cs 121 (0, 0))) : g ≠ b := by
  rintro rfl
  rw [h1] at h2
  simp at h2

theorem Rd.keep {w w' : World} {B b : Nat} {zs : List Int} {a : Int} {bad : Bool} (h : Rd w B b zs a bad) (hs : w.heap.size ≤ w'.heap.size)
    (hk : ∀ g, g < w.heap.size → B ≤ g → (g = b ∨ ∃ cur, w.heap[g]? = some (.cells cur 5 (0, 0))) → w'.heap[g]? = w.heap[g]?) : Rd w' B b zs a bad := by
  obtain ⟨A, n, c, hb, h1, h2, h3, h4⟩ := h
  refine ⟨A, n, c, by rw [hk b (lt_of_block hb) h1 (.inl rfl)]; exact hb, h1, h2.keep hs (fun g e hg => hk g hg (h4 g e).1 (.inr (h4 g e).2)), h3, fun g e => ⟨(h4 g e).1, ?_⟩⟩
  obtain ⟨cur, hc⟩ := (h4 g e).2
  exact ⟨cur, by rw [hk g (lt_of_block hc) (h4 g e).1 (.inr ⟨cur, hc⟩)]; exact hc⟩

theorem Rd.below {w w' : World} {B b : Nat} {zs : List Int} {a : Int} {bad : Bool} (h : Rd w B b zs a bad) (hb : Below w.heap.size w w') : Rd w' B b zs a bad :=
  h.keep hb.size fun g hg _ _ => hb.block g hg

theorem Rd.drewN {w : World} {B b : Nat} {zs : List Int} {a : Int} {bad : Bool} (h : Rd w B b zs a bad) (q : Nat) : Rd (w.drewN q) B b zs a bad := h

/-- Another Reader has been asked. -/
theorem Rd.other {w w' : World} {B b b' : Nat} {zs : List Int} {a : Int} {bad : Bool} (h : Rd w B b zs a bad) (hg : w.grownBy w' (some b')) (hb' : RdBlock w b') (hne : b ≠ b') : Rd w' B b zs a bad :=
  h.keep hg.size fun g hlt _ ho => hg.block g hlt (by
    rintro ⟨⟩
    rcases ho with rfl | ⟨cur, hc⟩
    · exact hne rfl
    · obtain ⟨cs, h2⟩ := hb'
      exact u8_ne_rd hc h2 rfl)

/-- What New leaves. -/
def RetRd (w : World) (zs : List Int) (e : Ending) (w' : World) : Prop := ∃ b, e = .returned (.pointer (some ⟨b, 0, none⟩)) ∧ Rd w' w.heap.size b zs 0 false ∧ Below w.heap.size w w'

theorem new_any (A : Option Addr) (n c : Nat) (zs : List Int) (w : World) (hr : Row w A n (cellsOf .u8 zs)) (hn : n ≤ 140737488351232) :
    Calls Try.prog 62 #[.slice A n c] w (RetRd w zs) := by
  go_enter Try.func62, Try.ntmps62
  go_wp2_with fail
  refine (clone_any _ _ _ zs _ hr hn).mono ?_
  rintro e w1 ⟨A1, n1, c1, rfl, hown, hb⟩
  go_wp2
  go_ret
  have hs := hb.size
  refine ⟨w1.heap.size, rfl, ⟨A1, n1, c1, heap_alloc_new _ _, hs, hown.row.below ((Below.refl _ _).alloc (Nat.le_refl _) _), hown.cap, fun g hg => ?_⟩, hb.alloc hs _⟩
  rcases hown.shape with ⟨rfl, _⟩ | ⟨g', cur, rfl, h1, h2, h3, _⟩
  · simp [blockOf] at hg
  · simp [blockOf] at hg
    subst hg
    exact ⟨h1, cur, by rw [Below.heap_alloc _ _ _ h2]; exact h3⟩

/-- What asking a Reader leaves: a slice of m cells, and the Reader further on. -/
def RetNext (w : World) (B b : Nat) (ys zs : List Int) (a : Int) (bad : Bool) (e : Ending) (w' : World) : Prop :=
  ∃ A m c, e = .returned (.slice A m c) ∧ Row w' A m (cellsOf .u8 ys) ∧ (∀ g, blockOf A = some g → B ≤ g ∧ ∃ cur, w'.heap[g]? = some (.cells cur 5 (0, 0))) ∧ Rd w' B b zs a bad ∧ w.grownBy w' (some b)

theorem set_block {w : World} {b : Nat} {t : TypeId} {cs : Array Value} (hb : w.heap[b]? = some (.cells cs t (0, 0))) (i : Nat) (u : Value) : (w.setCell ⟨b, i, none⟩ u).heap[b]? = some (.cells (cs.setIfInBounds i u) t (0, 0)) := by
  simp [World.setCell, Array.getElem?_modify, hb]

theorem grown_set {w w' : World} {b : Nat} (h : w.grownBy w' (some b)) (i : Nat) (u : Value) : w.grownBy (w'.setCell ⟨b, i, none⟩ u) (some b) :=
  ⟨h.os, h.tape, h.output, by simpa [World.setCell] using h.size, fun k hk hne => (Below.heap_setCell w' _ u k (by rintro rfl; exact hne rfl)).trans (h.block k hk hne)⟩

/-- A Reader whose block alone was written. -/
theorem rd_next {w w' : World} {B b n c m n' c' : Nat} {A A' : Option Addr} {ys rs : List Int} {a a' : Int} {bad bad' : Bool}
    (hb : w.heap[b]? = some (.cells #[.slice A n c, .int .i64 a, .bool bad] 121 (0, 0))) (h1 : B ≤ b) (h4 : ∀ g, blockOf A = some g → B ≤ g ∧ ∃ cur, w.heap[g]? = some (.cells cur 5 (0, 0)))
    (hg : w.grownBy w' (some b)) (hb' : w'.heap[b]? = some (.cells #[.slice A' n' c', .int .i64 a', .bool bad'] 121 (0, 0)))
    (hA : ∀ g, blockOf A' = some g → blockOf A = some g) (hy : Row w A m (cellsOf .u8 ys)) (hr : Row w A' n' (cellsOf .u8 rs)) (hc : n' ≤ c') :
    RetNext w B b ys rs a' bad' (.returned (.slice A m m)) w' := by
  have k4 : ∀ g, blockOf A = some g → w'.heap[g]? = w.heap[g]? := fun g e => by
    obtain ⟨_, cur, hcur⟩ := h4 g e
    exact hg.block g (lt_of_block hcur) (by rintro ⟨⟩; exact u8_ne_rd hcur hb rfl)
  have k5 : ∀ g, blockOf A = some g → B ≤ g ∧ ∃ cur, w'.heap[g]? = some (.cells cur 5 (0, 0)) := fun g e => by
    obtain ⟨h, cur, hcur⟩ := h4 g e
    exact ⟨h, cur, by rw [k4 g e]; exact hcur⟩
  exact ⟨A, m, m, rfl, hy.keep hg.size (fun g e _ => k4 g e), k5, ⟨A', n', c', hb', h1, hr.keep hg.size (fun g e _ => k4 g (hA g e)), hc, fun g e => k5 g (hA g e)⟩, hg⟩

set_option maxHeartbeats 400000 in
theorem next_ok (B b m : Nat) (zs : List Int) (a : Int) (bad : Bool) (w : World) (h : Rd w B b zs a bad) (hm : m ≤ zs.length) (hl : zs.length ≤ 140737488351232) (ha0 : 0 ≤ a) (ha1 : a ≤ 1000000000000000) :
    Calls Try.prog 85 #[.pointer (some ⟨b, 0, none⟩), .int .i64 m] w (RetNext w B b (zs.take m) (zs.drop m) (a + m) bad) := by
  obtain ⟨A, n, c, hb, h1, h2, h3, h4⟩ := h
  have Hn := Lib.hid h2.len
  have hmn : m ≤ n := by have := Hn.out; omega
  have hnl : n ≤ 140737488351232 := by have := Hn.out; omega
  have c0 : w.cell? ⟨b, 0, none⟩ = some (.slice A n c) := cell_of_row w b 0 _ 121 (0, 0) hb
  have c1 : w.cell? ⟨b, 1, none⟩ = some (.int .i64 a) := cell_of_row w b 1 _ 121 (0, 0) hb
  have f0 : ∀ o, w.frozen? ⟨b, o, none⟩ = false := fun o => by simp [World.frozen?, hb]
  have Hb := Lib.hid hb
  have H4 := Lib.hid h4
  clear hb hm hl h4
  go_enter Try.func85, Try.ntmps85
  go_wp2
  all_goals go_ret
  · have h : c = m := by assumption
    exact rd_next Hb.out h1 H4.out (grown_set (grown_set (World.grownBy.refl w _) _ _) _ _) (set_block (set_block Hb.out 0 _) 1 _) (fun g e => e) (by rw [← cellsOf_take]; exact h2.take hmn)
      (by rw [List.drop_of_length_le (by have := Hn.out; omega), show n - m = 0 by omega]; exact Row.empty _ _) (by omega)
  · exact rd_next Hb.out h1 H4.out (grown_set (grown_set (World.grownBy.refl w _) _ _) _ _) (set_block (set_block Hb.out 0 _) 1 _) (fun g e => by rw [← blockOf_add A m]; exact e) (by rw [← cellsOf_take]; exact h2.take hmn)
      (by rw [← cellsOf_drop]; exact h2.drop m) (by omega)

set_option maxHeartbeats 400000 in
theorem next_bad (B b : Nat) (m : Int) (zs : List Int) (a : Int) (bad : Bool) (w : World) (h : Rd w B b zs a bad) (hm : m < 0 ∨ (zs.length : Int) < m) :
    Calls Try.prog 85 #[.pointer (some ⟨b, 0, none⟩), .int .i64 m] w (RetNext w B b [] [] a true) := by
  obtain ⟨A, n, c, hb, h1, h2, h3, h4⟩ := h
  have Hn := Lib.hid h2.len
  have c0 : w.cell? ⟨b, 0, none⟩ = some (.slice A n c) := cell_of_row w b 0 _ 121 (0, 0) hb
  have c1 : w.cell? ⟨b, 1, none⟩ = some (.int .i64 a) := cell_of_row w b 1 _ 121 (0, 0) hb
  have c2 : w.cell? ⟨b, 2, none⟩ = some (.bool bad) := cell_of_row w b 2 _ 121 (0, 0) hb
  have f0 : ∀ o, w.frozen? ⟨b, o, none⟩ = false := fun o => by simp [World.frozen?, hb]
  have hm' : m < 0 ∨ (n : Int) < m := by have := Hn.out; omega
  have Hb := Lib.hid hb
  clear hb hm h4
  have fin : RetNext w B b [] [] a true (.returned (.slice none 0 0)) ((w.setCell ⟨b, 0, none⟩ (.slice none 0 0)).setCell ⟨b, 2, none⟩ (.bool true)) :=
    ⟨none, 0, 0, rfl, Row.empty _ _, fun g e => by simp [blockOf] at e, ⟨none, 0, 0, set_block (set_block Hb.out 0 _) 2 _, h1, Row.empty _ _, Nat.le_refl _, fun g e => by simp [blockOf] at e⟩, grown_set (grown_set (World.grownBy.refl w _) _ _) _ _⟩
  have Fin := Lib.hid fin
  clear fin
  by_cases h0 : m < 0
  · go_enter Try.func85, Try.ntmps85
    go_wp2
    go_ret
    exact Fin.out
  · have h5 : (n : Int) < m := by omega
    clear hm'
    go_enter Try.func85, Try.ntmps85
    go_wp2
    go_ret
    exact Fin.out

end Go.Proofs.Ytlkidnacfljpkaa
