/- compo: glyphs made of parts: plain lists. -/
import Derived.Test.YtlcnonhebppeiaaSimM
import Derived.Laws.BitsAllLaws
namespace Go.Proofs.Ytlcnonhebppeiaa
open Go.RowKit
set_option linter.unusedVariables false

theorem ofInt_w16 (n : Nat) (h : n < 65536) : (BitVec.ofInt 16 (n : Int)).toNat = n := by
  rw [BitVec.toNat_ofInt]
  omega
theorem wrap_w16 (n : Nat) (h : n < 65536) : IntKind.u16.wrap (n : Int) = (n : Int) := by
  have e : (n : Int) % 2 ^ 16 = n := Int.emod_eq_of_lt (by omega) (by omega)
  simp only [IntKind.wrap, IntKind.bits, IntKind.signed, e]
  simp
theorem and_w16 {n m : Nat} (hn : n < 65536) (hm : m < 65536) : bits .and .u16 (n : Int) (m : Int) = ((n &&& m : Nat) : Int) := by
  show IntKind.u16.wrap ((BitVec.ofInt 16 (n : Int) &&& BitVec.ofInt 16 (m : Int)).toNat : Int) = _
  rw [BitVec.toNat_and, ofInt_w16 n hn, ofInt_w16 m hm]
  exact wrap_w16 _ (Nat.lt_of_le_of_lt Nat.and_le_left hn)
theorem andNot_w16 {n m : Nat} (hn : n < 65536) (hm : m < 65536) : bits .andNot .u16 (n : Int) (m : Int) = ((n &&& (65535 - m) : Nat) : Int) := by
  show IntKind.u16.wrap ((BitVec.ofInt 16 (n : Int) &&& ~~~BitVec.ofInt 16 (m : Int)).toNat : Int) = _
  rw [BitVec.toNat_and, BitVec.toNat_not, ofInt_w16 n hn, ofInt_w16 m hm]
  exact wrap_w16 _ (Nat.lt_of_le_of_lt Nat.and_le_left hn)
theorem and_pow (n i : Nat) : n &&& 2 ^ i = if n / 2 ^ i % 2 = 1 then 2 ^ i else 0 := by
  apply Nat.eq_of_testBit_eq
  intro j
  rw [Nat.testBit_and, Nat.testBit_two_pow]
  have ht : n.testBit i = decide (n / 2 ^ i % 2 = 1) := Nat.testBit_eq_decide_div_mod_eq
  by_cases hij : i = j
  · subst hij
    rw [ht]
    split
    · rename_i h; rw [decide_eq_true h, Nat.testBit_two_pow]; rfl
    · rename_i h; rw [decide_eq_false h, Nat.zero_testBit]; rfl
  · rw [decide_eq_false hij, Bool.and_false]
    split
    · rw [Nat.testBit_two_pow, decide_eq_false hij]
    · rw [Nat.zero_testBit]
theorem fb_nat (n k : Nat) : fb (n : Int) (k : Int) = decide (n / k % 2 = 1) := by
  unfold fb
  congr 1
  rw [← Int.natCast_ediv]
  exact propext ⟨fun h => by omega, fun h => by omega⟩
theorem and_bit {n : Nat} (hn : n < 65536) (i : Nat) (hi : i < 16) : (bits .and .u16 (n : Int) ((2 ^ i : Nat) : Int) != 0) = fb (n : Int) ((2 ^ i : Nat) : Int) := by
  have h2 : 2 ^ i < 65536 := by
    have : 2 ^ i < 2 ^ 16 := Nat.pow_lt_pow_right (by omega) hi
    simpa using this
  have hp : 0 < 2 ^ i := Nat.two_pow_pos i
  rw [and_w16 hn h2, fb_nat, and_pow]
  split
  · rename_i h
    rw [decide_eq_true h, bne_iff_ne]
    omega
  · rename_i h; rw [decide_eq_false h]; simp
theorem nat_of {f : Int} (h0 : 0 ≤ f) (h1 : f ≤ 65535) : ∃ n : Nat, f = (n : Int) ∧ n < 65536 := ⟨f.toNat, by omega, by omega⟩
theorem w_and1 {f : Int} (h0 : 0 ≤ f) (h1 : f ≤ 65535) : (bits .and .u16 f 1 != 0) = fb f 1 := by
  obtain ⟨n, rfl, hn⟩ := nat_of h0 h1
  exact and_bit hn 0 (by omega)
theorem w_and2 {f : Int} (h0 : 0 ≤ f) (h1 : f ≤ 65535) : (bits .and .u16 f 2 != 0) = fb f 2 := by
  obtain ⟨n, rfl, hn⟩ := nat_of h0 h1
  exact and_bit hn 1 (by omega)
theorem w_and256 {f : Int} (h0 : 0 ≤ f) (h1 : f ≤ 65535) : (bits .and .u16 f 256 != 0) = fb f 256 := by
  obtain ⟨n, rfl, hn⟩ := nat_of h0 h1
  exact and_bit hn 8 (by omega)
theorem w_and32 {f : Int} (h0 : 0 ≤ f) (h1 : f ≤ 65535) : (bits .and .u16 f 32 != 0) = fb f 32 := by
  obtain ⟨n, rfl, hn⟩ := nat_of h0 h1
  exact and_bit hn 5 (by omega)

/-- The three kinds' bits. -/
def knd (f : Int) : Int := (if fb f 8 then 8 else 0) + (if fb f 64 then 64 else 0) + (if fb f 128 then 128 else 0)
theorem w_and200 {f : Int} (h0 : 0 ≤ f) (h1 : f ≤ 65535) : bits .and .u16 f 200 = knd f := by
  obtain ⟨n, rfl, hn⟩ := nat_of h0 h1
  have e := and_w16 hn (show 200 < 65536 by omega)
  rw [show (200 : Nat) = 2 ^ 3 ||| (2 ^ 6 ||| 2 ^ 7) by decide, Nat.and_or_distrib_left, Nat.and_or_distrib_left, and_pow, and_pow, and_pow] at e
  unfold knd
  rw [show (8 : Int) = ((8 : Nat) : Int) by rfl, show (64 : Int) = ((64 : Nat) : Int) by rfl, show (128 : Int) = ((128 : Nat) : Int) by rfl, fb_nat, fb_nat, fb_nat]
  refine Eq.trans e ?_
  by_cases a : n / 8 % 2 = 1 <;> by_cases b : n / 64 % 2 = 1 <;> by_cases c : n / 128 % 2 = 1 <;> simp [a, b, c]
theorem w_known {f : Int} (h0 : 0 ≤ f) (h1 : f ≤ 65535) : (bits .andNot .u16 f 6095 != 0) = (fb f 16 || fb f 32 || fb f 2048 || decide (8192 ≤ f)) := by
  obtain ⟨n, rfl, hn⟩ := nat_of h0 h1
  have e := andNot_w16 hn (show 6095 < 65536 by omega)
  rw [show (65535 - 6095 : Nat) = 2 ^ 4 ||| (2 ^ 5 ||| (2 ^ 11 ||| (2 ^ 13 ||| (2 ^ 14 ||| 2 ^ 15)))) by decide] at e
  simp only [Nat.and_or_distrib_left, and_pow] at e
  have e' : bits .andNot .u16 (n : Int) 6095 = _ := e
  rw [e', show (16 : Int) = ((16 : Nat) : Int) by rfl, show (32 : Int) = ((32 : Nat) : Int) by rfl, show (2048 : Int) = ((2048 : Nat) : Int) by rfl, fb_nat, fb_nat, fb_nat]
  have hd : decide ((8192 : Int) ≤ (n : Int)) = (decide (n / 2 ^ 13 % 2 = 1) || decide (n / 2 ^ 14 % 2 = 1) || decide (n / 2 ^ 15 % 2 = 1)) := by
    rw [Bool.eq_iff_iff]
    simp only [Bool.or_eq_true, decide_eq_true_eq]
    omega
  rw [hd]
  by_cases a : n / 2 ^ 4 % 2 = 1 <;> by_cases b : n / 2 ^ 5 % 2 = 1 <;> by_cases c : n / 2 ^ 11 % 2 = 1 <;> by_cases d : n / 2 ^ 13 % 2 = 1 <;> by_cases g : n / 2 ^ 14 % 2 = 1 <;> by_cases h : n / 2 ^ 15 % 2 = 1 <;> simp_all
theorem w_or32 {f : Int} (h0 : 0 ≤ f) (h1 : f ≤ 65535) (hb : fb f 32 = false) : bits .or .u16 f 32 = f + 32 := by
  obtain ⟨n, rfl, hn⟩ := nat_of h0 h1
  show IntKind.u16.wrap ((BitVec.ofInt 16 (n : Int) ||| BitVec.ofInt 16 ((32 : Nat) : Int)).toNat : Int) = _
  rw [BitVec.toNat_or, ofInt_w16 n hn, ofInt_w16 32 (by omega)]
  have hz : n &&& 32 = 0 := by
    have := and_pow n 5
    rw [show (32 : Int) = ((32 : Nat) : Int) by rfl, fb_nat] at hb
    simp only [decide_eq_false_iff_not] at hb
    rw [if_neg (by simpa using hb)] at this
    simpa using this
  have ho : n ||| 32 = n + 32 := by
    have h := BitVec.add_eq_or_of_and_eq_zero (BitVec.ofNat 32 n) (BitVec.ofNat 32 32) (by
      apply BitVec.eq_of_toNat_eq
      rw [BitVec.toNat_and, BitVec.toNat_ofNat, BitVec.toNat_ofNat, Nat.mod_eq_of_lt (by omega), Nat.mod_eq_of_lt (by omega), hz]
      rfl)
    have h2 := congrArg BitVec.toNat h
    rw [BitVec.toNat_add, BitVec.toNat_or, BitVec.toNat_ofNat, BitVec.toNat_ofNat, Nat.mod_eq_of_lt (by omega), Nat.mod_eq_of_lt (by omega), Nat.mod_eq_of_lt (by omega)] at h2
    exact h2.symm
  rw [ho, wrap_w16 _ (by
    have := and_pow n 5
    rw [show (2 : Nat) ^ 5 = 32 by rfl, hz] at this
    split at this
    · omega
    · omega)]
  rfl

/-- A part: which flags, which glyph, where, how. -/
structure Pt where
  f : Int
  i : Int
  x : Int
  y : Int
  xx : Int
  xy : Int
  yx : Int
  yy : Int
/-- A glyph that is made of others. -/
structure Cg where
  x0 : Int
  x1 : Int
  x2 : Int
  x3 : Int
  ps : List Pt
  pr : List Int
def byteB (n : Int) : Bool := decide (-128 ≤ n) && decide (n ≤ 127)
def straight (p : Pt) : Bool := decide (p.xy = 0) && decide (p.yx = 0)
def unitB (p : Pt) : Bool := decide ([p.xx, p.xy, p.yx, p.yy] = [16384, 0, 0, 16384])
/-- Do the numbers fit the kind? -/
def matB (k : Int) (p : Pt) : Bool := if k = 8 then straight p && decide (p.xx = p.yy) else if k = 64 then straight p else if k = 128 then true else unitB p
def twoK (f : Int) : Bool := (fb f 8 && fb f 64) || (fb f 8 && fb f 128) || (fb f 64 && fb f 128)
def strange (f : Int) : Bool := fb f 16 || fb f 32 || fb f 2048 || decide (8192 ≤ f)
def ptRight (p : Pt) : Bool := !strange p.f && fb p.f 2 && !twoK p.f && matB (knd p.f) p && (fb p.f 1 || (byteB p.x && byteB p.y))
structure Pt.ok (p : Pt) : Prop where
  f : 0 ≤ p.f ∧ p.f ≤ 65535
  i : 0 ≤ p.i ∧ p.i ≤ 65535
  x : -32768 ≤ p.x ∧ p.x ≤ 32767
  y : -32768 ≤ p.y ∧ p.y ≤ 32767
  xx : -32768 ≤ p.xx ∧ p.xx ≤ 32767
  xy : -32768 ≤ p.xy ∧ p.xy ≤ 32767
  yx : -32768 ≤ p.yx ∧ p.yx ≤ 32767
  yy : -32768 ≤ p.yy ∧ p.yy ≤ 32767
structure Cg.ok (g : Cg) : Prop where
  bx : ∀ x ∈ [g.x0, g.x1, g.x2, g.x3], -32768 ≤ x ∧ x ≤ 32767
  ps : ∀ p ∈ g.ps, p.ok
  pr : Bytes g.pr
theorem knd_in (f : Int) : knd f ∈ ([0, 8, 64, 72, 128, 136, 192, 200] : List Int) := by
  unfold knd
  cases fb f 8 <;> cases fb f 64 <;> cases fb f 128 <;> decide
/-- How many bits of 200 are set. -/
def onesK (k : Int) : Int := if k = 0 then 0 else if k = 8 ∨ k = 64 ∨ k = 128 then 1 else if k = 200 then 3 else 2
theorem twoK_ones (f : Int) : decide (1 < onesK (knd f)) = twoK f := by
  unfold knd twoK
  cases fb f 8 <;> cases fb f 64 <;> cases fb f 128 <;> decide

/-- Has the last one a program? -/
def codeB (ps : List Pt) : Bool := match ps.getLast? with
  | some p => fb p.f 256
  | none => false
def partsOk (ps : List Pt) (k : Nat) : Bool := (List.range k).all fun i => match ps[i]? with
  | some p => ptRight p && !(decide (i + 1 < ps.length) && fb p.f 256)
  | none => false
def cRight (g : Cg) : Bool := decide (1 ≤ g.ps.length) && decide (g.ps.length ≤ 200) && decide (g.pr.length ≤ 65535) && partsOk g.ps g.ps.length && (codeB g.ps || decide (g.pr.length = 0))
theorem partsOk_succ (ps : List Pt) (k : Nat) : partsOk ps (k + 1) = (partsOk ps k && match ps[k]? with
  | some p => ptRight p && !(decide (k + 1 < ps.length) && fb p.f 256)
  | none => false) := by simp [partsOk, List.range_succ]
theorem partsOk_not {ps : List Pt} {k n : Nat} {p : Pt} (hp : ps[k]? = some p) (h : (ptRight p && !(decide (k + 1 < ps.length) && fb p.f 256)) = false) (hn : k < n) : partsOk ps n = false := by
  unfold partsOk
  rw [List.all_eq_false]
  refine ⟨k, List.mem_range.2 hn, ?_⟩
  rw [hp]
  simp only [h]
  decide
end Go.Proofs.Ytlcnonhebppeiaa
