/- What package dot answers (Round, Apply, Move, Scale, Unit), and the document's own answers, as contracts over this seat's translation. -/
import Derived.Test.YtpkejjbjhibbkaaMem
import Derived.BigQuiet
import Derived.StillTailTactics
namespace Go.Proofs.Ytpkejjbjhibbkaa
open Go.RowKit
set_option linter.unusedVariables false

/-- To the nearest of 16384ths, the half up. -/
def rnd (n : Int) : Int := (n + 8192) / 16384

theorem round_any (n : Int) (w : World) (h0 : -4611686018427387904 ≤ n) (h1 : n ≤ 4611686018427387904) :
    Calls Try.prog 32 #[.int .i64 n] w fun e w' => e = .returned (.int .i64 (rnd n)) ∧ w' = w := by
  go_enter Try.func32, Try.ntmps32
  go_wp2
  go_ret
  exact ⟨rfl, rfl⟩

/-- A point as a value. -/
abbrev ptV (x y : Int) (on : Bool) : Value := .agg #[.int .i64 x, .int .i64 y, .bool on]
abbrev mxV (a b c d : Int) : Value := .agg #[.int .i16 a, .int .i16 b, .int .i16 c, .int .i16 d]

theorem move_any (x y : Int) (on : Bool) (dx dy : Int) (w : World) (hx : -1000000000000000000 ≤ x) (hx' : x ≤ 1000000000000000000) (hy : -1000000000000000000 ≤ y) (hy' : y ≤ 1000000000000000000)
    (hdx : -1000000000000000000 ≤ dx) (hdx' : dx ≤ 1000000000000000000) (hdy : -1000000000000000000 ≤ dy) (hdy' : dy ≤ 1000000000000000000) :
    Calls Try.prog 36 #[ptV x y on, .int .i64 dx, .int .i64 dy] w fun e w' => e = .returned (ptV (x + dx) (y + dy) on) ∧ Below w.heap.size w w' := by
  go_enter Try.func36, Try.ntmps36
  go_wp2
  refine bodyPost_ret (v := ptV (x + dx) (y + dy) on) (by simp [results, Try.results36, go_sem]) rfl ⟨rfl, ?_⟩
  exact ((Below.refl _ _).alloc (Nat.le_refl _) _).alloc (by simp) _

/-- A region that draws its order, all of which only reads and asks but for its end. -/
theorem region_tail {P : Program} {id : Nat} {Q : Exit → Act → World → Prop} {a : Act} {w : World} {l : List Oper} (n : Nat) (hm : P.follows .mixedOrders = true) (hB : Region.lexTailB .any l.toArray n = true)
    (h : wpStill P l.toArray w.drew (fun a' => wpList P l.toArray Q (l.drop n) a' w.drew) (l.take n) a) : (Code.region id l.toArray true).wp P Q a w := wp_region_still_tail n hm hB h

theorem mul_bd (a x : Int) (a0 : -32768 ≤ a) (a1 : a ≤ 32767) (x0 : -2199023255552 ≤ x) (x1 : x ≤ 2199023255552) : -72057594037927936 ≤ a * x ∧ a * x ≤ 72057594037927936 := by
  have h1 : a.natAbs ≤ 32768 := by omega
  have h2 : x.natAbs ≤ 2199023255552 := by omega
  have h3 : (a * x).natAbs ≤ 72057594037927936 := by
    rw [Int.natAbs_mul]
    exact Nat.mul_le_mul h1 h2
  omega

set_option maxHeartbeats 1000000 in
set_option maxRecDepth 100000 in
theorem apply_any (a b c d x y : Int) (on : Bool) (w : World) (a0 : -32768 ≤ a) (a1 : a ≤ 32767) (b0 : -32768 ≤ b) (b1 : b ≤ 32767) (c0 : -32768 ≤ c) (c1 : c ≤ 32767) (d0 : -32768 ≤ d) (d1 : d ≤ 32767)
    (x0 : -2199023255552 ≤ x) (x1 : x ≤ 2199023255552) (y0 : -2199023255552 ≤ y) (y1 : y ≤ 2199023255552) :
    Calls Try.prog 35 #[mxV a b c d, ptV x y on] w fun e w' => e = .returned (ptV (rnd (a * x + c * y)) (rnd (b * x + d * y)) on) ∧ Below w.heap.size w w' := by
  obtain ⟨p0, p1⟩ := mul_bd a x a0 a1 x0 x1
  obtain ⟨q0, q1⟩ := mul_bd c y c0 c1 y0 y1
  obtain ⟨r0, r1⟩ := mul_bd b x b0 b1 x0 x1
  obtain ⟨s0, s1⟩ := mul_bd d y d0 d1 y0 y1
  have e1 : IntKind.i64.wrap (a * x) = a * x := IntWalk.i64_in _ (by omega)
  have e2 : IntKind.i64.wrap (c * y) = c * y := IntWalk.i64_in _ (by omega)
  have e3 : IntKind.i64.wrap (b * x) = b * x := IntWalk.i64_in _ (by omega)
  have e4 : IntKind.i64.wrap (d * y) = d * y := IntWalk.i64_in _ (by omega)
  have e5 : IntKind.i64.wrap (a * x + c * y) = a * x + c * y := IntWalk.i64_in _ (by omega)
  have e6 : IntKind.i64.wrap (b * x + d * y) = b * x + d * y := IntWalk.i64_in _ (by omega)
  have f1 : IntKind.i64.wrap a = a := IntWalk.i64_in _ (by omega)
  have f2 : IntKind.i64.wrap b = b := IntWalk.i64_in _ (by omega)
  have f3 : IntKind.i64.wrap c = c := IntWalk.i64_in _ (by omega)
  have f4 : IntKind.i64.wrap d = d := IntWalk.i64_in _ (by omega)
  have k1 := fun W => round_any (a * x + c * y) W (by omega) (by omega)
  have k2 := fun W => round_any (b * x + d * y) W (by omega) (by omega)
  have K1 := Lib.hid k1
  have K2 := Lib.hid k2
  clear k1 k2
  go_enter Try.func35, Try.ntmps35
  go_wp2_with fail
  refine region_tail 31 (by kernel_rfl) (by kernel_rfl) ?_
  simp only [List.take_succ_cons, List.take_zero, List.drop_succ_cons, List.drop_zero]
  repeat still_step
  still_call (K1.out _)
  repeat still_step
  still_call (K2.out _)
  repeat still_step
  refine wpStill_nil ?_
  go_wp2
  refine bodyPost_ret (v := ptV (rnd (a * x + c * y)) (rnd (b * x + d * y)) on) (by simp [results, Try.results35, go_sem]) rfl ⟨rfl, ?_⟩
  exact ((((Below.refl _ _).alloc (Nat.le_refl _) _).alloc (by simp) _).alloc (by simp; omega) _).drew

end Go.Proofs.Ytpkejjbjhibbkaa
