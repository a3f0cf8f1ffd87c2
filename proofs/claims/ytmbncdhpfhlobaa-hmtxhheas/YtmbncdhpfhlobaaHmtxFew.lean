/- What layer 7's own helpers answer: few, awake. -/
import Derived.Test.YtmbncdhpfhlobaaHmtxB
import Derived.Test.YtmbncdhpfhlobaaLaw01
import Derived.Lib.MinMax
namespace Go.Proofs.Ytmbncdhpfhlobaa
open Go.RowKit
set_option linter.unusedVariables false

/-- What few leaves: the first ones, and the same as the document has them. -/
def RetFew (w : World) (l : List Mt) (e : Ending) (w' : World) : Prop :=
  ∃ A n c A' c', e = .returned (.tuple #[.slice A n c, .slice A' n c']) ∧ OwnS 41 encM 2 w' w.heap.size A n c l ∧ OwnS 48 encR 2 w' w.heap.size A' n c' l ∧ Below w.heap.size w w'

theorem OwnS.ne {α β : Type} {t t' : TypeId} {enc : α → List Value} {enc' : β → List Value} {k k' : Nat} {w : World} {B B' : Nat} {A A' : Option Addr} {n c n' c' : Nat} {l : List α} {l' : List β} (h : OwnS t enc k w B A n c l) (h' : OwnS t' enc' k' w B' A' n' c' l') (ht : t ≠ t') : ∀ g, blockOf A = some g → some g ≠ blockOf A' := by
  intro g hg e
  rcases h.shape with ⟨rfl, _⟩ | ⟨g1, cur, rfl, _, _, hh, _⟩
  · simp [blockOf] at hg
  · rcases h'.shape with ⟨rfl, _⟩ | ⟨g2, cur', rfl, _, _, hh', _⟩
    · simp [blockOf] at e
    · simp [blockOf] at hg e
      subst hg e
      rw [hh] at hh'
      simp at hh'
      exact ht hh'.2

theorem okM_take {l : List Mt} (h : OkM l) (k : Nat) : OkM (l.take k) := fun m hm => h m (List.mem_of_mem_take hm)

set_option maxRecDepth 100000 in
set_option maxHeartbeats 1000000 in
theorem few7_any (A : Option Addr) (n c : Nat) (l0 : List Mt) (w : World) (hr0 : RowS encM 2 w A n l0) (hok : OkM l0) (hn : n ≤ 9223372036854775807) (hcap : n ≤ c) :
    Calls Try.prog 14 #[.slice A n c] w (RetFew w (l0.take 60)) := by
  obtain ⟨i0, hi, hz0, hz1, hz2⟩ := info_parts Try.mtinfo
  obtain ⟨j0, hj, hy0, hy1, hy2⟩ := info_parts Try.rminfo
  obtain ⟨m, hm, hm1, hm2, hm3⟩ : ∃ m : Nat, min (n : Int) 60 = (m : Int) ∧ m ≤ 60 ∧ m ≤ n ∧ (m = 60 ∨ m = n) := ⟨min n 60, by omega, by omega, by omega, by omega⟩
  have hmc : m ≤ c := by omega
  have hr := hr0.take encM_len hm2
  have hlm : l0.take 60 = l0.take m := by
    rcases hm3 with h | h
    · rw [h]
    · have := hr0.len
      rw [List.take_of_length_le (by omega), List.take_of_length_le (by omega)]
  rw [hlm]
  have Hok := Lib.hid (okM_take hok m)
  generalize l0.take m = l at *
  clear hr0 hok hlm hm3
  have Hl := Lib.hid hr.len
  have ho0 : OwnS 41 encM 2 (w.alloc (.cells #[] 41)) w.heap.size (some ⟨w.heap.size, 0, none⟩) 0 0 [] := ownS_lit w w.heap.size 41 encM 2 encM_len [] _ rfl 0 rfl (Nat.le_refl _) (by simp only [maxLen]; omega)
  have hba : Below w.heap.size w (w.alloc (.cells #[] 41)) := (Below.refl _ _).alloc (Nat.le_refl _) _
  have hr1 := hr.below hba
  clear hr
  go_enter Try.func14, Try.ntmps14
  go_wp2_with (at_builtin; refine wpList_append_rowS rfl (.tmp 7) (.tmp 12) _ rfl 41 encM 2 encM_len (by omega) encM_one w.heap.size i0 _ 4 Try.underlying22 hi hz0 hz1 rfl hz2 _ 0 0 [] rfl ho0 A m c l rfl hr1 (by omega) (by omega) (by simp) ?_)
  intro A1 c1 w1 hown1 hg1
  have hb1 : Below w.heap.size w w1 := hba.grown hg1 (by simp) (fun q e => by simp [blockOf] at e; omega)
  clear hg1 ho0 hba hr1 hm
  go_wp2
  go_loopw [4, 16] (fun v i wr => ∃ (k : Nat) (A2 : Option Addr) (c2 : Nat), k ≤ m ∧ i = .int .i64 k ∧ v = .slice A2 k c2 ∧ OwnS 48 encR 2 wr w.heap.size A2 k c2 (l.take k) ∧ OwnS 41 encM 2 wr w.heap.size A1 m c1 l ∧ Below w.heap.size w wr) (fun _ i _ => m - (intOf i).toNat)
  case atStart => exact ⟨0, none, 0, Nat.zero_le _, rfl, rfl, OwnS.nil _ _ _ _ _, hown1, hb1⟩
  case round =>
    clear hown1 hb1
    obtain ⟨k, A2, c2, hk, rfl, rfl, hown, hown1, hbel⟩ := hrel
    by_cases hlt : k < m
    · obtain ⟨x, hx⟩ := getM (l := l) (j := k) (by have := Hl.out; omega)
      obtain ⟨g, off, rfl, hg, hc0, hc1⟩ := atM (hown1.row encM_len) hx
      obtain ⟨x0, x1, x2, x3⟩ := Hok.out x (List.mem_of_getElem? hx)
      have hsz := hbel.size
      have HT : Hid (l.take (k + 1) = l.take k ++ [x]) := by rw [List.take_add_one, hx]; exact rfl
      clear hx
      obtain ⟨a, b⟩ := x
      simp only at hc0 hc1 x0 x1 x2 x3
      have hal : Below wr.heap.size wr ((wr.alloc (.cells #[.int .u16 a, .int .i16 b] 41)).alloc (.cells #[.int .i64 a, .int .i64 b] 48)) := ((Below.refl _ _).alloc (Nat.le_refl _) _).alloc (by simp) _
      have hro := rowS_vals encR_len (wr.alloc (.cells #[.int .u16 a, .int .i16 b] 41)) 48 [(a, b)] #[.int .i64 a, .int .i64 b] rfl 1 rfl
      rw [show (wr.alloc (.cells #[.int .u16 a, .int .i16 b] 41)).heap.size = wr.heap.size + 1 by simp] at hro
      have hownA := hown.below hal
      have hown1A := hown1.below hal
      have hbelA := hbel.trans (hal.mono hsz)
      have HN := Lib.hid (hown1A.ne hownA (by decide))
      have hbA := hbelA.size
      clear hown hown1 hbel hal
      go_wp2_with (at_builtin; refine wpList_append_rowS rfl (.tmp 20) (.tmp 28) _ rfl 48 encR 2 encR_len (by omega) encR_one w.heap.size j0 _ 16 Try.underlying24 hj hy0 hy1 rfl hy2 A2 k c2 _ rfl hownA (some ⟨wr.heap.size + 1, 0, none⟩) 1 1 [(a, b)] rfl hro (by omega) (by omega) (by simp; omega) ?_)
      intro A3 c3 w3 hown3 hg3
      rw [← HT.out] at hown3
      have hbel3 : Below w.heap.size w w3 := hbelA.grown hg3 hbA (fun r e => (hownA.from_ r e).1)
      have hown13 := hown1A.grown hg3 HN.out
      clear hg3 hownA hown1A hro hbelA hc0 hc1
      go_wp2
      go_roundw
      case rel => exact ⟨k + 1, A3, c3, by omega, by go_num, rfl, hown3, hown13, hbel3⟩
      case measure => simp [intOf]; omega
    · obtain rfl : k = m := by omega
      have HE : Hid (l.take k = l) := List.take_of_length_le (by have := Hl.out; omega)
      rw [HE.out] at hown
      go_wp2
      go_ret2
      exact ⟨A1, k, c1, A2, c2, rfl, hown1, hown, hbel⟩

theorem awake7_any (w : World) : Calls Try.prog 13 #[] w (True_ w) := by
  have HB : Hid (bytesK [(5, 1), (5, 2)] (longL [(5, 1), (5, 2)]) 2 = [0, 5, 0, 1, 0, 2]) := by show bytesK [(5, 1), (5, 2)] (longL [(5, 1), (5, 2)]) 2 = [0, 5, 0, 1, 0, 2]; decide
  have HL : Hid (longL [(5, 1), (5, 2)] = 1) := by show longL [(5, 1), (5, 2)] = 1; decide
  have hro := rowS_vals encM_len w 41 [((5 : Int), (1 : Int)), (5, 2)] #[.int .u16 5, .int .i16 1, .int .u16 5, .int .i16 2] rfl 2 rfl
  go_enter Try.func13, Try.ntmps13
  go_wp2_with fail
  refine (hbuild_any _ _ _ [(5, 1), (5, 2)] _ hro (by omega) (by intro m hm; simp at hm; rcases hm with rfl | rfl <;> simp)).mono ?_
  rintro e w1 ⟨A, n, c, rfl, ho, hb⟩
  have ha : Below w.heap.size w (w.alloc (.cells #[.int .u16 5, .int .i16 1, .int .u16 5, .int .i16 2] 41)) := (Below.refl _ _).alloc (Nat.le_refl _) _
  have hb1 : Below w.heap.size w w1 := ha.trans (hb.mono (by simp))
  rw [HL.out]
  rw [show ([(5, 1), (5, 2)] : List Mt).length = 2 from rfl, HB.out] at ho
  have hn : n = 6 := ho.len.symm
  subst hn
  have hrow := ho.row.below ((Below.refl w1.heap.size w1).alloc (Nat.le_refl _) (.cells (cellsOf .u8 [0, 5, 0, 1, 0, 2]).toArray 5))
  clear ho hb ha hro
  go_wp2_with fail
  refine (same_any _ _ _ _ _ _ _ [0, 5, 0, 1, 0, 2] _ hrow (row_lit w1 .u8 5 [0, 5, 0, 1, 0, 2] 6 rfl) (by omega) (by omega)).mono ?_
  rintro e w2 ⟨rfl, q, rfl⟩
  rw [sameB_refl]
  go_wp2
  go_ret
  exact ⟨rfl, below_drewN (hb1.alloc hb1.size _) q⟩

end Go.Proofs.Ytmbncdhpfhlobaa
