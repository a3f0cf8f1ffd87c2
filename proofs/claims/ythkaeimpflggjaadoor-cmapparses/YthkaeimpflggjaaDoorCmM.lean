/- The table cmap: plain lists. -/
import Derived.Test.YthkaeimpflggjaaDoorGrpM
import Derived.Test.YthkaeimpflggjaaDoorSegM
namespace Go.Proofs.YthkaeimpflggjaaDoor
set_option linter.unusedVariables false

def cN (zs : List Int) : Nat := (n2at zs 2).toNat
def cFront (zs : List Int) : Bool := decide (4 ≤ zs.length) && decide (n2at zs 0 = 0) && decide (4 + 8 * cN zs ≤ zs.length)
/-- Is record i one of this platform and encoding? -/
def cIs (zs : List Int) (a b : Int) (i : Nat) : Bool := decide (n2at zs (4 + 8 * i) = a ∧ n2at zs (6 + 8 * i) = b)
def cVal (zs : List Int) (i : Nat) : Int := n4at zs (8 + 8 * i)
/-- Where the first one's table begins, of the first k records. -/
def cFst (zs : List Int) (a b : Int) : Nat → Option Int
  | 0 => none
  | k + 1 => match cFst zs a b k with
    | some v => some v
    | none => if cIs zs a b k then some (cVal zs k) else none
theorem cFst_step {zs : List Int} {a b : Int} {k : Nat} {v : Int} (h : cFst zs a b k = some v) : cFst zs a b (k + 1) = some v := by rw [cFst, h]
theorem cFst_new {zs : List Int} {a b : Int} {k : Nat} (h : cFst zs a b k = none) (hi : cIs zs a b k = true) : cFst zs a b (k + 1) = some (cVal zs k) := by rw [cFst, h, hi]; rfl
theorem cFst_other {zs : List Int} {a b : Int} {k : Nat} (hi : cIs zs a b k = false) : cFst zs a b (k + 1) = cFst zs a b k := by
  rw [cFst, hi]
  cases cFst zs a b k <;> rfl
theorem cFst_keep {zs : List Int} {a b : Int} {k : Nat} {v : Int} (h : cFst zs a b k = some v) : ∀ m : Nat, cFst zs a b (k + m) = some v
  | 0 => h
  | m + 1 => cFst_step (cFst_keep h m)
theorem cFst_none {zs : List Int} {a b : Int} : ∀ {k : Nat}, cFst zs a b k = none → ∀ i, i < k → cIs zs a b i = false
  | k + 1, h, i, hi => by
    rw [cFst] at h
    cases hk : cFst zs a b k with
    | some v => rw [hk] at h; cases h
    | none =>
      rw [hk] at h
      simp only at h
      rcases Nat.lt_or_ge i k with h1 | h1
      · exact cFst_none hk i h1
      · obtain rfl : i = k := by omega
        cases hc : cIs zs a b i with
        | false => rfl
        | true => rw [hc] at h; cases h
theorem cFst_of_none {zs : List Int} {a b : Int} : ∀ {k : Nat}, (∀ i, i < k → cIs zs a b i = false) → cFst zs a b k = none
  | 0, _ => rfl
  | k + 1, h => by rw [cFst_other (h k (by omega)), cFst_of_none (fun i hi => h i (by omega))]
theorem cFst_at {zs : List Int} {a b : Int} {i n : Nat} (hn : i < n) (h : ∀ j, j < i → cIs zs a b j = false) (hi : cIs zs a b i = true) : cFst zs a b n = some (cVal zs i) := by
  have := cFst_keep (cFst_new (cFst_of_none h) hi) (n - (i + 1))
  rwa [show i + 1 + (n - (i + 1)) = n by omega] at this

/-- Which record counts: is it wide, where does its table begin. -/
def cPick (zs : List Int) : Option (Bool × Int) :=
  match cFst zs 3 10 (cN zs) with
  | some v => some (true, v)
  | none => match cFst zs 0 4 (cN zs) with
    | some v => some (true, v)
    | none => match cFst zs 3 1 (cN zs) with
      | some v => some (false, v)
      | none => match cFst zs 0 3 (cN zs) with
        | some v => some (false, v)
        | none => none
/-- The table that counts, if it is one. -/
def cOk (zs : List Int) (wd : Bool) (v : Int) : Bool := decide (v ≤ zs.length) && (if wd then gRight (zs.drop v.toNat) else sRight (zs.drop v.toNat))
def cFind (zs : List Int) : Option (Bool × Nat) :=
  if cFront zs then match cPick zs with
    | some (wd, v) => if cOk zs wd v then some (wd, v.toNat) else none
    | none => none
  else none

/-- The numbers of records that were cut out. -/
theorem n2at_part {zs : List Int} {a m i : Nat} (h : i + 2 ≤ m) : n2at ((zs.take (a + m)).drop a) i = n2at zs (a + i) := by
  rw [show a + i = i + a by omega]
  rw [← n2at_takeG zs (a + m) (i + a) (by omega)]
  unfold n2at
  rw [List.drop_drop, Nat.add_comm a i]
theorem n4at_part {zs : List Int} {a m i : Nat} (h : i + 4 ≤ m) : n4at ((zs.take (a + m)).drop a) i = n4at zs (a + i) := by
  rw [show a + i = i + a by omega]
  rw [← n4at_takeG zs (a + m) (i + a) (by omega)]
  unfold n4at
  rw [List.drop_drop, Nat.add_comm a i]

end Go.Proofs.YthkaeimpflggjaaDoor
