/- What package tally answers (Pad, words, Sum, Adjust), as contracts over this seat's translation. -/
import Derived.Test.YtlkidnacfljpkaaRange
import Derived.Test.YtlkidnacfljpkaaLaw01
import Derived.Laws.CopyOwn
namespace Go.Proofs.Ytlkidnacfljpkaa
open Go.RowKit Go.Shelf
set_option linter.unusedVariables false

/-- The run of a copy of a slice that is read onto a fresh one that is no shorter. -/
theorem run_copy_front {P : Program} (w : World) (T t : TypeId) (k : IntKind) (ty B : Nat) (hu : P.underlying T = some (.slice t)) (hsz : (P.info? t).map (·.size) = some 1)
    (A : Option Addr) (n c : Nat) (zs : List Int) (hown : Own t k w B A n c zs) (A' : Option Addr) (n' c' : Nat) (ys : List Int) (hr : Row w A' n' (cellsOf k ys)) (hn : n' ≤ n) :
    ∃ w', (Builtin.copy_ #[T, T] ty #[.slice A n c, .slice A' n' c']).run P w = .ok (goInt n') w' ∧ Own t k w' B A n c (ys ++ zs.drop n') ∧ w.grownBy w' (blockOf A) := by
  have hyl := hr.len
  have hzl := hown.len
  by_cases h0 : n' = 0
  · subst h0
    obtain rfl : ys = [] := List.eq_nil_of_length_eq_zero hyl
    exact ⟨w, run_copy_none (P := P) w T T ty t A A' n c 0 c' hu hsz (by simp), by simpa using hown, World.grownBy.refl w _⟩
  · rcases hown.shape with ⟨_, _, rfl, _⟩ | ⟨g, cur, rfl, hBg, hg, hh, hnc, hcm, hcs, htk⟩
    · omega
    · obtain ⟨g', off', rfl, hg', hc'⟩ := hr.2 (by omega)
      have hrun := run_copy_row (P := P) w T T ty t g 0 n c ⟨g', off', none⟩ n' c' cur t (cellsOf k ys) hu hsz hh (by rw [cellsOf_length, hyl]; exact (Nat.min_eq_left hn).symm) (fun j v hv => by rw [Addr.add_lit]; exact hc' j v hv) (by rw [cellsOf_length]; omega) (cellsOf_one _ _)
      rw [show (cellsOf k ys).length = n' by rw [cellsOf_length]; exact hyl] at hrun
      refine ⟨_, hrun, ⟨by rw [cellsOf_length, List.length_append, List.length_drop]; omega, .inr ⟨g, c, _, rfl, hBg, setRow_heap w g cur _ t _ hh, hnc, hcm, ?_, ?_⟩⟩, ⟨rfl, rfl, rfl, by simp, fun i _ hi => setRow_other w g i _ (fun e => hi (by simp [blockOf, e]))⟩⟩
      · simp only [List.take_zero, List.nil_append, List.size_toArray, List.length_append, cellsOf_length, List.length_drop, Array.length_toList, Nat.zero_add]
        omega
      · simp only [List.take_zero, List.nil_append, Nat.zero_add, Nat.mul_one]
        rw [← cellsOf_append, ← cellsOf_drop, ← htk, List.take_append, cellsOf_length, List.take_of_length_le (by rw [cellsOf_length]; omega), List.drop_take, hyl]

theorem wpList_copy_front {P : Program} {w : World} {ops : Array Oper} {rest : List Oper} {o : Oper} {a : Act} {Q : Exit → Act → World → Prop} (hgd : o.guard = none) (d s : Operand) (T : TypeId)
    (ho : o.op = .call { callee := .builtin .copy, args := #[d, s], argTypes := #[T, T] }) (t : TypeId) (k : IntKind) (B : Nat) (hu : P.underlying T = some (.slice t)) (hsz : (P.info? t).map (·.size) = some 1)
    (A : Option Addr) (n c : Nat) (zs : List Int) (hd : a.eval d = .slice A n c) (hown : Own t k w B A n c zs) (A' : Option Addr) (n' c' : Nat) (ys : List Int) (hs : a.eval s = .slice A' n' c') (hr : Row w A' n' (cellsOf k ys)) (hn : n' ≤ n)
    (h : ∀ w', Own t k w' B A n c (ys ++ zs.drop n') → w.grownBy w' (blockOf A) → wpList P ops Q rest (a.put o.dst (goInt n')) w') : wpList P ops Q (o :: rest) a w := by
  refine wpList_plain hgd fun K hK => ?_
  obtain ⟨w', hrun, h1, h2⟩ := run_copy_front (P := P) w T t k o.type B hu hsz A n c zs hown A' n' c' ys hr hn
  unfold Oper.wp
  simp [execOp, ho, resolve, invoke, builtin, hd, hs, hrun, Result.andThen]
  exact hK _ _ (h w' h1 h2)

/-- 'make([]T, n)' for numbers. -/
theorem wpList_make_nums {P : Program} {w : World} {ops : Array Oper} {rest : List Oper} {o : Oper} {a : Act} {Q : Exit → Act → World → Prop} (hg : o.guard = none) (l c : Operand) (T : TypeId) (hop : o.op = Op.makeSlice T l c)
    (t : TypeId) (k : IntKind) (B : Nat) (i : TypeInfo) (b : Nat) (h1 : P.underlying T = some (.slice t)) (h2 : P.info? t = some i) (h3 : i.zero = some (.int k 0)) (h4 : i.size = 1) (h5 : i.bytes = b)
    (L C : Int) (n : Nat) (hl : a.eval l = .int .i64 L) (hc : a.eval c = .int .i64 C) (hL : L = (n : Int)) (hC : C = (n : Int)) (b2 : b * n ≤ 281474976710656) (b3 : n ≤ 9223372036854775807) (b4 : B ≤ w.heap.size)
    (hK : ∀ w', Own t k w' B (some ⟨w.heap.size, 0, none⟩) n n (List.replicate n 0) → w.grownBy w' none → wpList P ops Q rest (a.put o.dst (.slice (some ⟨w.heap.size, 0, none⟩) n n)) w') : wpList P ops Q (o :: rest) a w := by
  refine wpList_make_full w hg l c T hop B t i (.int k 0) 1 h1 h2 h3 h4 .i64 .i64 L C n hl hc hL hC (by rw [h5]; exact b2) (by simp only [maxLen]; exact b3) b4 fun w' ho hgr => hK w' ?_ hgr
  rw [show (Value.int k 0).cells = #[.int k 0] from rfl, toList_madeCells_one, Nat.mul_one] at ho
  simpa [Own, cellsOf] using ho

/-- Noughts up to a multiple of four. -/
def padN (n : Nat) : Nat := (n + 3) / 4 * 4
def pad (zs : List Int) : List Int := zs ++ List.replicate (padN zs.length - zs.length) 0

theorem Try.u8size : (Try.prog.info? 5).map (·.size) = some 1 := by kernel_rfl

set_option maxHeartbeats 400000 in
theorem pad_any (A : Option Addr) (n c : Nat) (zs : List Int) (w : World) (hr : Row w A n (cellsOf .u8 zs)) (hn : n ≤ 140737488351000) : Calls Try.prog 58 #[.slice A n c] w (RetB w (pad zs)) := by
  obtain ⟨i0, hi, hz0, hz1, hz2⟩ := info_parts Try.u8info
  have Hl := Lib.hid hr.len
  have hp0 : n ≤ padN n := by unfold padN; omega
  have hp1 : padN n ≤ 140737488351232 := by unfold padN; omega
  have Hp : Hid (((n : Int) + 4 - 1) / 4 * 4 = (padN n : Int)) := by show _ = _; unfold padN; omega
  go_enter Try.func58, Try.ntmps58
  go_wp2_with (first
    | (at_make; refine wpList_make_nums rfl (.tmp 9) (.tmp 9) _ rfl 5 .u8 w.heap.size i0 1 Try.underlying27 hi hz0 hz1 hz2 _ _ (padN n) rfl rfl Hp.out Hp.out (by omega) (by omega) (Nat.le_refl _) ?_; intro w1 hown1 hg1)
    | (with_reducible refine wpList_copy_front rfl (.tmp 11) (.tmp 12) _ rfl 5 .u8 w.heap.size Try.underlying27 Try.u8size _ _ _ _ rfl hown1 A n c zs rfl (hr.grown hg1 (fun g e => by simp)) hp0 ?_; intro w2 hown2 hg2))
  go_ret
  have hb1 : Below w.heap.size w w1 := below_of_grown hg1 (Nat.le_refl _) (fun k e => by cases e)
  have hb2 : Below w.heap.size w w2 := hb1.grown hg2 hb1.size (fun k e => by simp [blockOf] at e; omega)
  refine ⟨_, _, _, rfl, ?_, hb2⟩
  have e : pad zs = zs ++ (List.replicate (padN n) 0).drop n := by unfold pad; rw [List.drop_replicate, Hl.out]
  rw [e]
  exact hown2

end Go.Proofs.Ytlkidnacfljpkaa
