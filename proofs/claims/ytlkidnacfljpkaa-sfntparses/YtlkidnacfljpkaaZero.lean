/- What tally.Zeroed answers, as a contract over this seat's translation. -/
import Derived.Test.YtlkidnacfljpkaaLaw02
namespace Go.Proofs.Ytlkidnacfljpkaa
open Go.RowKit
set_option linter.unusedVariables false

/-- Noughts from a place to another one. -/
def zeroedL (zs : List Int) (a m : Nat) : List Int := zs.take a ++ (List.replicate m 0 ++ zs.drop (a + m))

theorem zeroCells_one (z : Value) (m : Nat) : (Builtin.zeroCells #[z] m).toList = List.replicate m z := by
  unfold Builtin.zeroCells
  apply List.ext_getElem
  · simp
  · intro i h1 h2
    simp [Nat.mod_one]

/-- The run of 'clear' at a part of a fresh slice of bytes. -/
theorem run_clear_part (w : World) (ty B : Nat) (A : Option Addr) (n c : Nat) (zs : List Int) (hown : OwnB w B A n c zs) (a m c' : Nat) (h : a + m ≤ n) (D : Option Addr) (hD : 0 < m → D = A.map (·.add a)) :
    ∃ w', (Builtin.clear_ #[27] ty #[.slice D m c']).run Try.prog w = .ok (.tuple #[]) w' ∧ OwnB w' B A n c (zeroedL zs a m) ∧ w.grownBy w' (blockOf A) := by
  by_cases hm : m = 0
  · subst hm
    refine ⟨w, ?_, by simpa [zeroedL] using hown, World.grownBy.refl w _⟩
    cases D <;> simp [Builtin.clear_, run_underlying Try.underlying27]
  · have hl := hown.len
    rcases hown.shape with ⟨_, _, rfl, _⟩ | ⟨g, cur, rfl, hBg, hg, hh, hnc, hcm, hcs, htk⟩
    · omega
    · rw [hD (by omega)]
      have hst := run_storeCells_at Try.prog g a 5 (List.replicate m (.int .u8 0)) 0 cur w hh (by simp; omega) (fun v hv => by rw [List.eq_of_mem_replicate hv]; rfl)
      obtain ⟨m', rfl⟩ : ∃ m', m = m' + 1 := ⟨m - 1, by omega⟩
      simp only [Nat.add_zero, List.length_replicate] at hst
      refine ⟨w.setRow g (cur.toList.take a ++ List.replicate (m' + 1) (Value.int .u8 0) ++ cur.toList.drop (a + (m' + 1))).toArray, ?_, ⟨by rw [cellsOf_length, zeroedL]; simp; omega, .inr ⟨g, c, _, rfl, hBg, setRow_heap w g cur _ 5 _ hh, hnc, hcm, ?_, ?_⟩⟩, ⟨rfl, rfl, rfl, by simp, fun i _ hi => setRow_other w g i _ (fun e => hi (by simp [blockOf, e]))⟩⟩
      · simp only [Option.map_some, Addr.add_lit, Nat.zero_add]
        simp [Builtin.clear_, run_underlying Try.underlying27, Try.zeroValue5, zeroCells_one, Value.cells, hst]
      · simp; omega
      · simp only [Nat.mul_one]
        rw [List.append_assoc, List.take_append, List.take_append]
        simp only [List.length_take, List.length_replicate, Array.length_toList]
        rw [List.take_take, Nat.min_eq_right (by omega), Nat.min_eq_left (by omega), List.take_of_length_le (l := List.replicate (m' + 1) (Value.int .u8 0)) (by rw [List.length_replicate]; omega)]
        rw [show List.take a cur.toList = (cellsOf .u8 zs).take a by rw [← htk, List.take_take, Nat.min_eq_left (by omega)]]
        rw [show List.take (n - a - (m' + 1)) (List.drop (a + (m' + 1)) cur.toList) = (cellsOf .u8 zs).drop (a + (m' + 1)) by rw [← htk, List.drop_take]; congr 1; omega]
        simp [cellsOf, zeroedL]

theorem wpList_clear_part {w : World} {ops : Array Oper} {rest : List Oper} {o : Oper} {a : Act} {Q : Exit → Act → World → Prop} (hgd : o.guard = none) (x : Operand)
    (ho : o.op = .call { callee := .builtin .clear, args := #[x], argTypes := #[27] }) (B : Nat) (A : Option Addr) (n c : Nat) (zs : List Int) (hown : OwnB w B A n c zs) (f m c' : Nat) (hf : f + m ≤ n) (D : Option Addr) (hx : a.eval x = .slice D m c') (hD : 0 < m → D = A.map (·.add f))
    (h : ∀ w', OwnB w' B A n c (zeroedL zs f m) → w.grownBy w' (blockOf A) → wpList Try.prog ops Q rest (a.put o.dst (.tuple #[])) w') : wpList Try.prog ops Q (o :: rest) a w := by
  refine wpList_plain hgd fun K hK => ?_
  obtain ⟨w', hrun, h1, h2⟩ := run_clear_part w o.type B A n c zs hown f m c' hf D hD
  unfold Oper.wp
  simp [execOp, ho, resolve, invoke, builtin, hx, hrun, Result.andThen]
  exact hK _ _ (h w' h1 h2)

theorem ret2_int {a a' b b' : Int} (h : a = a') (h' : b = b') : Ending.returned (.tuple #[.int .i64 a, .int .i64 b]) = .returned (.tuple #[.int .i64 a', .int .i64 b']) := by rw [h, h']

/-- Which places are meant. -/
def spanF (size at_ : Int) : Int := if at_ < 0 then 0 else min at_ size
def spanN (at_ n : Int) : Int := if at_ < 0 then max (max n 0 + at_) 0 else max n 0
def spanT (size at_ n : Int) : Int := spanF size at_ + min (spanN at_ n) (size - spanF size at_)

theorem span_any (size at_ n : Int) (w : World) (h0 : 0 ≤ size) (h1 : size ≤ 140737488351232) (a0 : -9223372036854775808 ≤ at_) (a1 : at_ ≤ 9223372036854775807) (n0 : -9223372036854775808 ≤ n) (n1 : n ≤ 9223372036854775807) :
    Calls Try.prog 92 #[.int .i64 size, .int .i64 at_, .int .i64 n] w fun e w' => e = .returned (.tuple #[.int .i64 (spanF size at_), .int .i64 (spanT size at_ n)]) ∧ w = w' := by
  by_cases hat : at_ < 0
  all_goals
    go_enter Try.func92, Try.ntmps92
    go_wp2
    all_goals
      go_ret2
      refine ⟨ret2_int ?_ ?_, rfl⟩
      all_goals
        simp only [spanT, spanF, spanN, hat, if_true]
        (try simp only [Int.min_def, Int.max_def] at *)
        (repeat' split at *)
        all_goals omega

theorem span_in (n : Nat) (a m : Int) : ∃ f k : Nat, spanF n a = f ∧ spanT n a m = (f : Int) + k ∧ f + k ≤ n := by
  have h1 : 0 ≤ spanF n a ∧ spanF n a ≤ n := by unfold spanF; split <;> omega
  have h2 : 0 ≤ spanN a m := by unfold spanN; split <;> omega
  have h3 : spanT n a m = spanF n a + min (spanN a m) (n - spanF n a) := rfl
  refine ⟨(spanF n a).toNat, (min (spanN a m) (n - spanF n a)).toNat, ?_, ?_, ?_⟩ <;> omega

set_option maxHeartbeats 400000 in
theorem zeroed_any (A : Option Addr) (n c : Nat) (zs : List Int) (a m : Int) (f k : Nat) (w : World) (hr : Row w A n (cellsOf .u8 zs)) (hn : n ≤ 140737488351232) (a0 : -9223372036854775808 ≤ a) (a1 : a ≤ 9223372036854775807) (m0 : -9223372036854775808 ≤ m) (m1 : m ≤ 9223372036854775807)
    (hF : spanF n a = f) (hT : spanT n a m = (f : Int) + k) (hfk : f + k ≤ n) : Calls Try.prog 83 #[.slice A n c, .int .i64 a, .int .i64 m] w (RetB w (zeroedL zs f k)) := by
  have HF := Lib.hid hF
  have HT := Lib.hid hT
  clear hF hT
  go_enter Try.func83, Try.ntmps83
  go_wp2_with fail
  refine (clone_any _ _ _ zs _ hr hn).mono ?_
  rintro e w1 ⟨A1, n1, c1, rfl, hown, hb⟩
  obtain rfl : n1 = n := by have := hown.len; have := hr.len; omega
  have hcap := hown.cap
  go_wp2_with fail
  refine (span_any _ _ _ _ (by omega) (by omega) a0 a1 m0 m1).mono ?_
  rintro e w' ⟨rfl, rfl⟩
  rw [HF.out, HT.out]
  clear hr a0 a1 m0 m1
  have hs := hb.size
  by_cases hcf : c1 = f
  · obtain rfl : k = 0 := by omega
    obtain ⟨w2, hrun, hown2, hg2⟩ := run_clear_part w1 0 w.heap.size A1 n1 c1 zs hown f 0 0 hfk A1 (fun h => by omega)
    have hb2 : Below w.heap.size w w2 := hb.grown hg2 hs (fun q e => (hown.from_ q e).1)
    go_wp2
    go_ret
    exact ⟨A1, n1, c1, by simp [hcf], hown2, hb2⟩
  · obtain ⟨w2, hrun, hown2, hg2⟩ := run_clear_part w1 0 w.heap.size A1 n1 c1 zs hown f k (c1 - f) hfk (A1.map (·.add f)) (fun _ => rfl)
    have hb2 : Below w.heap.size w w2 := hb.grown hg2 hs (fun q e => (hown.from_ q e).1)
    go_wp2
    go_ret
    exact ⟨A1, n1, c1, rfl, hown2, hb2⟩

end Go.Proofs.Ytlkidnacfljpkaa
