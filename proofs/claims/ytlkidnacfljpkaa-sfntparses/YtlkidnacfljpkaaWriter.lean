/- What a Writer's calls answer, as contracts over this seat's translation. -/
import Derived.Test.YtlkidnacfljpkaaLaw01
namespace Go.Proofs.Ytlkidnacfljpkaa
open Go.RowKit
set_option linter.unusedVariables false

/-- Of what was there only blocks of S have turned. -/
structure Turned (w w' : World) (S : Nat → Prop) : Prop where
  os : w'.os = w.os
  tape : w'.tape = w.tape
  output : w'.output = w.output
  size : w.heap.size ≤ w'.heap.size
  block : ∀ k, k < w.heap.size → ¬ S k → w'.heap[k]? = w.heap[k]?

theorem Turned.below {w0 w w' : World} {S : Nat → Prop} {B : Nat} (h : Turned w w' S) (hb : Below B w0 w) (hB : B ≤ w.heap.size) (hS : ∀ k, S k → B ≤ k) : Below B w0 w' :=
  hb.trans ⟨h.os, h.tape, h.output, h.size, fun k hk => h.block k (by omega) (fun hs => by have := hS k hs; omega)⟩

theorem Row.turned {w w' : World} {A : Option Addr} {n : Nat} {xs : List Value} {S : Nat → Prop} (h : Row w A n xs) (ht : Turned w w' S) (hA : ∀ g, blockOf A = some g → ¬ S g) : Row w' A n xs :=
  h.keep ht.size fun g e hg => ht.block g hg (hA g e)

/-- A Writer in block b that has the bytes zs; it and they lie from block B on. -/
def Wr (w : World) (B b : Nat) (zs : List Int) : Prop := ∃ A n c, w.heap[b]? = some (.cells #[.slice A n c] 62 (0, 0)) ∧ B ≤ b ∧ OwnB w B A n c zs

/-- The block of a Writer's bytes. -/
def WrOwns (w : World) (b k : Nat) : Prop := ∃ A n c, w.heap[b]? = some (.cells #[.slice A n c] 62 (0, 0)) ∧ blockOf A = some k

/-- What a Writer's call may turn. -/
def WrS (w : World) (b : Nat) (k : Nat) : Prop := k = b ∨ WrOwns w b k

section
variable {w w' : World} {B b : Nat} {zs : List Int}

theorem Wr.from_ (h : Wr w B b zs) : B ≤ b ∧ b < w.heap.size := by
  obtain ⟨A, n, c, hb, h1, _⟩ := h
  exact ⟨h1, lt_of_block hb⟩

theorem Wr.owns (h : Wr w B b zs) : ∀ k, WrS w b k → B ≤ k ∧ k < w.heap.size := by
  obtain ⟨A, n, c, hb, h1, h2⟩ := h
  rintro k (rfl | ⟨A', n', c', hb', hk⟩)
  · exact ⟨h1, lt_of_block hb⟩
  · rw [hb] at hb'
    simp at hb'
    obtain ⟨rfl, rfl, rfl⟩ := hb'
    exact h2.from_ k hk

theorem Wr.keep (h : Wr w B b zs) (hk : ∀ k, WrS w b k → w'.heap[k]? = w.heap[k]?) : Wr w' B b zs := by
  obtain ⟨A, n, c, hb, h1, h2⟩ := h
  exact ⟨A, n, c, by rw [hk b (.inl rfl)]; exact hb, h1, h2.keep fun g e => hk g (.inr ⟨A, n, c, hb, e⟩)⟩

theorem Wr.below (h : Wr w B b zs) (hb : Below w.heap.size w w') : Wr w' B b zs := h.keep fun k hk => hb.block k (h.owns k hk).2

theorem Wr.drewN (h : Wr w B b zs) (q : Nat) : Wr (w.drewN q) B b zs := h

theorem Wr.mono {B' : Nat} (h : Wr w B b zs) (hB : B' ≤ B) : Wr w B' b zs := by
  obtain ⟨A, n, c, hb, h1, h2⟩ := h
  exact ⟨A, n, c, hb, by omega, h2.mono hB⟩
end

/-- What a Writer's call leaves. -/
def RetWr (w : World) (B b : Nat) (zs : List Int) (e : Ending) (w' : World) : Prop := e = .returned (.pointer (some ⟨b, 0, none⟩)) ∧ Wr w' B b zs ∧ Turned w w' (WrS w b)

theorem u8_ne_wr {w : World} {g b : Nat} {cur cs : Array Value} (h1 : w.heap[g]? = some (.cells cur 5 (0, 0))) (h2 : w.heap[b]? = some (.cells cs 62 (0, 0))) : g ≠ b := by
  rintro rfl
  rw [h1] at h2
  simp at h2

set_option maxHeartbeats 400000 in
theorem add_any (B b : Nat) (zs : List Int) (A' : Option Addr) (n' c' : Nat) (ys : List Int) (w : World) (h : Wr w B b zs) (hr : Row w A' n' (cellsOf .u8 ys)) (hl : zs.length + n' ≤ 140737488355328) :
    Calls Try.prog 61 #[.pointer (some ⟨b, 0, none⟩), .slice A' n' c'] w (RetWr w B b (zs ++ ys)) := by
  obtain ⟨i0, hi, hz0, hz1, hz2⟩ := info_parts Try.u8info
  obtain ⟨A, n, c, hb, h1, h2⟩ := h
  have hlt : b < w.heap.size := lt_of_block hb
  have hBw : B ≤ w.heap.size := by omega
  have hn : n + n' ≤ 140737488355328 := by have := h2.len; omega
  have hne : ∀ g, blockOf A = some g → some b ≠ blockOf A := fun g e => by
    rcases h2.shape with ⟨rfl, _⟩ | ⟨g', cur, rfl, _, _, hh, _⟩
    · simp [blockOf]
    · simp only [blockOf, Option.map_some]
      intro he
      cases he
      exact u8_ne_wr hh hb rfl
  have hne' : some b ≠ blockOf A := by
    cases hA : blockOf A with
    | none => simp
    | some g => rw [← hA]; exact hne g hA
  have c0 : w.cell? ⟨b, 0, none⟩ = some (.slice A n c) := cell_of_row w b 0 _ 62 (0, 0) hb
  have Hb := Lib.hid hb
  have Hne := Lib.hid hne'
  clear hb hne hne'
  go_enter Try.func61, Try.ntmps61
  go_wp2_with (at_builtin; refine wpList_append_row rfl (.tmp 11) (.tmp 12) _ rfl 5 .u8 B i0 1 Try.underlying27 hi hz0 hz1 hz2 A n c zs rfl h2 A' n' c' ys rfl hr (by omega) (by omega) hBw ?_)
  intro A2 c2 w1 hown1 hg1
  have hb1 : w1.heap[b]? = some (.cells #[.slice A n c] 62 (0, 0)) := by rw [hg1.block b hlt Hne.out]; exact Hb.out
  have c1 : w1.cell? ⟨b, 0, none⟩ = some (.slice A n c) := cell_of_row w1 b 0 _ 62 (0, 0) hb1
  have f1 : w1.frozen? ⟨b, 0, none⟩ = false := by simp [World.frozen?, hb1]
  have hb2 := Lib.hid (set_block hb1 0 (.slice A2 (n + n') c2))
  have hown2 : Hid (OwnB (w1.setCell ⟨b, 0, none⟩ (.slice A2 (n + n') c2)) B A2 (n + n') c2 (zs ++ ys)) := hown1.keep fun g e => Below.heap_setCell _ _ _ _ (by
    rcases hown1.shape with ⟨rfl, _⟩ | ⟨g', cur, rfl, _, _, hh, _⟩
    · simp [blockOf] at e
    · simp [blockOf] at e
      subst e
      exact u8_ne_wr hh hb1)
  have ht : Hid (Turned w (w1.setCell ⟨b, 0, none⟩ (.slice A2 (n + n') c2)) (WrS w b)) := ⟨hg1.os, hg1.tape, hg1.output, by simpa [World.setCell] using hg1.size, fun k hk hs =>
    (Below.heap_setCell w1 _ _ k (fun e => hs (.inl e))).trans (hg1.block k hk (fun e => hs (.inr ⟨A, n, c, Hb.out, e.symm⟩)))⟩
  clear hb1 hown1 hg1 c0
  go_wp2
  go_ret
  exact ⟨rfl, ⟨A2, n + n', c2, hb2.out, h1, hown2.out⟩, ht.out⟩

theorem wput_any (B b : Nat) (zs : List Int) (A' : Option Addr) (n' c' : Nat) (ys : List Int) (w : World) (h : Wr w B b zs) (hr : Row w A' n' (cellsOf .u8 ys)) (hl : zs.length + n' ≤ 140737488355328) :
    Calls Try.prog 56 #[.pointer (some ⟨b, 0, none⟩), .slice A' n' c'] w (RetWr w B b (zs ++ ys)) := by
  go_enter Try.func56, Try.ntmps56
  go_wp2_with fail
  refine (add_any B b zs A' n' c' ys w h hr hl).mono ?_
  rintro e w1 ⟨rfl, h1⟩
  go_wp2
  go_ret
  exact ⟨rfl, h1⟩

/-- A Writer's call behind a new block. -/
theorem RetWr.alloc {w w' : World} {B b : Nat} {zs : List Int} {o : Obj} {e : Ending} (h0 : Wr w B b zs) {ys : List Int} (h : RetWr (w.alloc o) B b ys e w') : RetWr w B b ys e w' := by
  obtain ⟨rfl, h1, h2⟩ := h
  have hal : ∀ k, k < w.heap.size → (w.alloc o).heap[k]? = w.heap[k]? := fun k hk => Below.heap_alloc w o k hk
  refine ⟨rfl, h1, ⟨h2.os, h2.tape, h2.output, Nat.le_trans (by simp) h2.size, fun k hk hs => (h2.block k (by simp; omega) (fun hs' => hs ?_)).trans (hal k hk)⟩⟩
  rcases hs' with rfl | ⟨A, n, c, hb, e⟩
  · exact .inl rfl
  · exact .inr ⟨A, n, c, by rw [← hal b h0.from_.2]; exact hb, e⟩

theorem b2_small (x : Int) (x0 : 0 ≤ x) (x1 : x < 65536) : b2 x = [x / 256, x % 256] := by unfold b2; rw [show x / 256 % 256 = x / 256 by omega]

theorem wu16_any (B b : Nat) (zs : List Int) (x : Int) (w : World) (h : Wr w B b zs) (hl : zs.length ≤ 140737488351232) (x0 : 0 ≤ x) (x1 : x < 65536) :
    Calls Try.prog 55 #[.pointer (some ⟨b, 0, none⟩), .int .u16 x] w (RetWr w B b (zs ++ b2 x)) := by
  have ha := h.below ((Below.refl w.heap.size w).alloc (Nat.le_refl _) (.cells #[.int .u8 (x / 256), .int .u8 (x % 256)] 5))
  rw [b2_small x x0 x1]
  go_enter Try.func55, Try.ntmps55
  go_wp2_with fail
  refine (add_any B b zs _ _ _ [x / 256, x % 256] _ ha (row_lit w .u8 5 [x / 256, x % 256] 2 rfl) (by omega)).mono ?_
  rintro e w1 hr
  obtain ⟨rfl, h1⟩ := RetWr.alloc h hr
  go_wp2
  go_ret
  exact ⟨rfl, h1⟩

theorem b4_small (x : Int) (x0 : 0 ≤ x) (x1 : x < 4294967296) : b4 x = [x / 16777216, x / 65536 % 256, x / 256 % 256, x % 256] := by
  unfold b4 b2
  simp only [List.cons_append, List.nil_append]
  rw [show x / 65536 / 256 % 256 = x / 16777216 by omega, show x % 65536 / 256 % 256 = x / 256 % 256 by omega, show x % 65536 % 256 = x % 256 by omega]

theorem wu32_any (B b : Nat) (zs : List Int) (x : Int) (w : World) (h : Wr w B b zs) (hl : zs.length ≤ 140737488351232) (x0 : 0 ≤ x) (x1 : x < 4294967296) :
    Calls Try.prog 31 #[.pointer (some ⟨b, 0, none⟩), .int .u32 x] w (RetWr w B b (zs ++ b4 x)) := by
  have ha := h.below ((Below.refl w.heap.size w).alloc (Nat.le_refl _) (.cells #[.int .u8 (x / 16777216), .int .u8 (x / 65536 % 256), .int .u8 (x / 256 % 256), .int .u8 (x % 256)] 5))
  rw [b4_small x x0 x1]
  go_enter Try.func31, Try.ntmps31
  go_wp2_with fail
  refine (add_any B b zs _ _ _ [x / 16777216, x / 65536 % 256, x / 256 % 256, x % 256] _ ha (row_lit w .u8 5 [x / 16777216, x / 65536 % 256, x / 256 % 256, x % 256] 4 rfl) (by omega)).mono ?_
  rintro e w1 hr
  obtain ⟨rfl, h1⟩ := RetWr.alloc h hr
  go_wp2
  go_ret
  exact ⟨rfl, h1⟩

theorem done_any (B b : Nat) (zs : List Int) (w : World) (h : Wr w B b zs) (hl : zs.length ≤ 140737488351232) :
    Calls Try.prog 33 #[.pointer (some ⟨b, 0, none⟩)] w (RetB w zs) := by
  obtain ⟨A, n, c, hb, h1, h2⟩ := h
  have c0 : w.cell? ⟨b, 0, none⟩ = some (.slice A n c) := cell_of_row w b 0 _ 62 (0, 0) hb
  have hn : n ≤ 140737488351232 := by have := h2.len; omega
  clear hb hl
  go_enter Try.func33, Try.ntmps33
  go_wp2_with fail
  refine (clone_any _ _ _ _ _ h2.row hn).mono ?_
  rintro e w1 ⟨A1, n1, c1, rfl, hr⟩
  go_wp2
  go_ret
  exact ⟨A1, n1, c1, rfl, hr⟩

/-- What is older than a Writer stands as it was. -/
theorem Wr.older {w1 wa wb : World} {B0 B b : Nat} {zs : List Int} (h : Wr wa B b zs) (hk : Below B0 w1 wa) (hB : B0 ≤ B) (ht : Turned wa wb (WrS wa b)) : Below B0 w1 wb :=
  ht.below hk (by have := h.from_; omega) (fun k hs => by have := (h.owns k hs).1; omega)

/-- A new Writer. -/
theorem wr_new (w : World) : Wr (w.alloc (.cells #[.slice none 0 0] 62)) w.heap.size w.heap.size [] :=
  ⟨none, 0, 0, heap_alloc_new _ _, Nat.le_refl _, Own.nil _ _ _ _⟩

end Go.Proofs.Ytlkidnacfljpkaa
