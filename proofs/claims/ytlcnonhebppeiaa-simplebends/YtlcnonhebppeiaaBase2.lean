/- What the laws of this seat lean on: SimM Structs Ints Grow Cells SimA SimB. -/
import Derived.ChangeSame
import Derived.Deep.Slices
import Derived.OwnWalk
import Derived.ProofKit
import Derived.Laws.MakeOwn
import Derived.BigQuiet
import Derived.Shelf.SlSortCmp.QuietGrown
import Derived.Deep.RegionHeld3
import Derived.Deep.QuietTactic
import Derived.Deep.DeepCutAuto
import Derived.Test.YtlcnonhebppeiaaBase1

/- simple: outlines of points: plain lists. -/
namespace Go.Proofs.Ytlcnonhebppeiaa
open Go.RowKit
set_option linter.unusedVariables false

/-- A bit of a byte. -/
def fb (f k : Int) : Bool := decide (f / k % 2 = 1)

theorem fin_of {P : Int → Prop} (h : ∀ n : Fin 256, P (n.val : Int)) {f : Int} (h0 : 0 ≤ f) (h1 : f ≤ 255) : P f := by
  have := h ⟨f.toNat, by omega⟩
  simp only at this
  rwa [show ((f.toNat : Nat) : Int) = f by omega] at this

theorem and1 {f : Int} (h0 : 0 ≤ f) (h1 : f ≤ 255) : (bits .and .u8 f 1 != 0) = fb f 1 := fin_of (P := fun f => (bits .and .u8 f 1 != 0) = fb f 1) (by decide +kernel) h0 h1
theorem and2 {f : Int} (h0 : 0 ≤ f) (h1 : f ≤ 255) : (bits .and .u8 f 2 != 0) = fb f 2 := fin_of (P := fun f => (bits .and .u8 f 2 != 0) = fb f 2) (by decide +kernel) h0 h1
theorem and4 {f : Int} (h0 : 0 ≤ f) (h1 : f ≤ 255) : (bits .and .u8 f 4 != 0) = fb f 4 := fin_of (P := fun f => (bits .and .u8 f 4 != 0) = fb f 4) (by decide +kernel) h0 h1
theorem and8 {f : Int} (h0 : 0 ≤ f) (h1 : f ≤ 255) : (bits .and .u8 f 8 != 0) = fb f 8 := fin_of (P := fun f => (bits .and .u8 f 8 != 0) = fb f 8) (by decide +kernel) h0 h1
theorem and16 {f : Int} (h0 : 0 ≤ f) (h1 : f ≤ 255) : (bits .and .u8 f 16 != 0) = fb f 16 := fin_of (P := fun f => (bits .and .u8 f 16 != 0) = fb f 16) (by decide +kernel) h0 h1
theorem and32 {f : Int} (h0 : 0 ≤ f) (h1 : f ≤ 255) : (bits .and .u8 f 32 != 0) = fb f 32 := fin_of (P := fun f => (bits .and .u8 f 32 != 0) = fb f 32) (by decide +kernel) h0 h1
theorem and128 {f : Int} (h0 : 0 ≤ f) (h1 : f ≤ 255) : (bits .and .u8 f 128 != 0) = fb f 128 := fin_of (P := fun f => (bits .and .u8 f 128 != 0) = fb f 128) (by decide +kernel) h0 h1

/-- A place: X, Y, on the curve? -/
abbrev Sp := Int × Int × Bool

/-- An outline. -/
structure Gl where
  x0 : Int
  x1 : Int
  x2 : Int
  x3 : Int
  es : List Int
  pr : List Int
  ps : List Sp
def Gl.box (g : Gl) : List Int := [g.x0, g.x1, g.x2, g.x3]

/-- Does it fit into two bytes with a sign? -/
def fitsB (n : Int) : Bool := decide (-32768 ≤ n) && decide (n ≤ 32767)
theorem fitsB_true {n : Int} (h : fitsB n = true) : -32768 ≤ n ∧ n ≤ 32767 := by unfold fitsB at h; simpa using h
theorem fitsB_of {n : Int} (h0 : -32768 ≤ n) (h1 : n ≤ 32767) : fitsB n = true := by unfold fitsB; simp [h0, h1]
theorem fitsB_false {n : Int} (h : fitsB n = false) : n < -32768 ∨ 32767 < n := by unfold fitsB at h; simp at h; omega

/-- Do the Ends rise? -/
def riseA (l : List Int) (i : Nat) : Bool := decide (i = 0) || decide (l.getD (i - 1) 0 < l.getD i 0)
def riseN (l : List Int) (k : Nat) : Bool := (List.range k).all (riseA l)
theorem riseN_succ (l : List Int) (k : Nat) : riseN l (k + 1) = (riseN l k && riseA l k) := by simp [riseN, List.range_succ]
theorem riseN_not {l : List Int} {k n : Nat} (h : riseA l k = false) (hn : k < n) : riseN l n = false := by
  unfold riseN
  rw [List.all_eq_false]
  exact ⟨k, List.mem_range.2 hn, by rw [h]; simp⟩
theorem riseN_at {l : List Int} {n k : Nat} (h : riseN l n = true) (hk : k < n) : riseA l k = true := by
  unfold riseN at h
  rw [List.all_eq_true] at h
  exact h k (List.mem_range.2 hk)
theorem riseN_mono {l : List Int} {n k : Nat} (h : riseN l n = true) (hk : k ≤ n) : riseN l k = true := by
  unfold riseN at *
  rw [List.all_eq_true] at *
  exact fun x hx => h x (List.mem_range.2 (by have := List.mem_range.1 hx; omega))

/-- How many points the Ends ask for. -/
def cntE (l : List Int) : Nat := if l.length = 0 then 0 else (l.getD (l.length - 1) 0).toNat + 1

/-- How far a number is from the one ahead. -/
def chA (xs : List Int) (i : Nat) : Int := xs.getD i 0 - (if i = 0 then 0 else xs.getD (i - 1) 0)
def chK (xs : List Int) (k : Nat) : List Int := (List.range k).map (chA xs)
def chs (xs : List Int) : List Int := chK xs xs.length
theorem chK_len (xs : List Int) (k : Nat) : (chK xs k).length = k := by simp [chK]
theorem chs_len (xs : List Int) : (chs xs).length = xs.length := chK_len _ _
theorem chK_get (xs : List Int) {k i : Nat} (h : i < k) : (chK xs k)[i]? = some (chA xs i) := by simp [chK, h]
theorem chs_get (xs : List Int) {i : Nat} (h : i < xs.length) : (chs xs)[i]? = some (chA xs i) := chK_get xs h
theorem chK_succ (xs : List Int) (k : Nat) : chK xs (k + 1) = chK xs k ++ [chA xs k] := by simp [chK, List.range_succ]
theorem chK_set (xs : List Int) (k n : Nat) (h : k < n) : (chK xs k ++ List.replicate (n - k) 0).set k (chA xs k) = chK xs (k + 1) ++ List.replicate (n - (k + 1)) 0 := by
  rw [List.set_append_right _ _ (by rw [chK_len]; exact Nat.le_refl _), chK_len, Nat.sub_self, chK_succ, List.append_assoc, show n - k = (n - (k + 1)) + 1 by omega, List.replicate_succ]
  rfl

def xsOf (l : List Sp) : List Int := l.map (·.1)
def ysOf (l : List Sp) : List Int := l.map (·.2.1)
theorem xsOf_len (l : List Sp) : (xsOf l).length = l.length := by simp [xsOf]
theorem ysOf_len (l : List Sp) : (ysOf l).length = l.length := by simp [ysOf]
theorem xsOf_get {l : List Sp} {i : Nat} {p : Sp} (h : l[i]? = some p) : (xsOf l).getD i 0 = p.1 := by simp [xsOf, h]
theorem ysOf_get {l : List Sp} {i : Nat} {p : Sp} (h : l[i]? = some p) : (ysOf l).getD i 0 = p.2.1 := by simp [ysOf, h]

def fitL (l : List Int) : Bool := l.all fitsB
def oRight (g : Gl) : Bool := decide (g.es.length ≤ 32767) && decide (g.pr.length ≤ 65535) && riseN g.es g.es.length && decide (g.ps.length = cntE g.es) && fitL (chs (xsOf g.ps)) && fitL (chs (ysOf g.ps))

/-- A row of numbers alike, at most so many. -/
def runF (f : Int) : Nat → List Int → Nat
  | 0, _ => 0
  | _ + 1, [] => 0
  | c + 1, x :: r => if x = f then runF f c r + 1 else 0
theorem runF_le (f : Int) : ∀ (c : Nat) (l : List Int), runF f c l ≤ c ∧ runF f c l ≤ l.length
  | 0, _ => ⟨Nat.le_refl _, Nat.zero_le _⟩
  | _ + 1, [] => ⟨Nat.zero_le _, Nat.le_refl _⟩
  | c + 1, x :: r => by
    have := runF_le f c r
    unfold runF
    split
    · simp only [List.length_cons]; omega
    · simp
theorem runF_take (f : Int) : ∀ (c : Nat) (l : List Int), l.take (runF f c l) = List.replicate (runF f c l) f
  | 0, _ => by simp [runF]
  | _ + 1, [] => by simp [runF]
  | c + 1, x :: r => by
    have := runF_take f c r
    unfold runF
    split
    · rename_i h
      rw [List.take_succ_cons, this, List.replicate_succ, h]
    · simp
theorem runF_of (f : Int) : ∀ (c : Nat) (l : List Int) (n : Nat), n ≤ c → n ≤ l.length → (∀ i, i < n → l.getD i 0 = f) → (n = c ∨ n = l.length ∨ l.getD n 0 ≠ f) → runF f c l = n
  | 0, l, n, h1, _, _, _ => by simp [runF]; omega
  | c + 1, [], n, _, h2, _, _ => by simp at h2; simp [runF, h2]
  | c + 1, x :: r, 0, _, _, _, h4 => by
    unfold runF
    rw [if_neg]
    intro hx
    rcases h4 with h | h | h
    · omega
    · simp at h
    · exact h (by simpa using hx)
  | c + 1, x :: r, n + 1, h1, h2, h3, h4 => by
    unfold runF
    have h0 := h3 0 (by omega)
    simp at h0
    rw [if_pos h0, runF_of f c r n (by omega) (by simp at h2; omega) (fun i hi => by have := h3 (i + 1) (by omega); simpa using this) (by simp at h4 ⊢; omega)]

def rowOf (l : List Int) : Nat := runF (l.headD 0) 256 l
theorem rowOf_le (l : List Int) : rowOf l ≤ 256 ∧ rowOf l ≤ l.length := runF_le _ _ _
theorem rowOf_pos {l : List Int} (h : l ≠ []) : 1 ≤ rowOf l := by
  cases l with
  | nil => exact absurd rfl h
  | cons x r => unfold rowOf runF; simp
theorem rowOf_take (l : List Int) : l.take (rowOf l) = List.replicate (rowOf l) (l.headD 0) := runF_take _ _ _
theorem rowOf_of {l : List Int} {n : Nat} (h1 : n ≤ 256) (h2 : n ≤ l.length) (h3 : ∀ i, i < n → l.getD i 0 = l.headD 0) (h4 : n = 256 ∨ n = l.length ∨ l.getD n 0 ≠ l.headD 0) : rowOf l = n := runF_of _ _ _ _ h1 h2 h3 h4

/-- Flags, each row of one alike once. -/
def rleHead (l : List Int) : List Int := if rowOf l = 1 then [l.headD 0] else [l.headD 0 + 8, (rowOf l : Int) - 1]
def rleF : Nat → List Int → List Int
  | 0, _ => []
  | _ + 1, [] => []
  | m + 1, f :: r => rleHead (f :: r) ++ rleF m ((f :: r).drop (rowOf (f :: r)))
def rle (l : List Int) : List Int := rleF l.length l
theorem rleF_fuel : ∀ (m : Nat) (l : List Int), l.length ≤ m → rleF m l = rle l := by
  have key : ∀ (k : Nat) (l : List Int) (m m' : Nat), l.length ≤ k → l.length ≤ m → l.length ≤ m' → rleF m l = rleF m' l := by
    intro k
    induction k with
    | zero =>
      intro l m m' h _ _
      obtain rfl : l = [] := List.eq_nil_of_length_eq_zero (by omega)
      cases m <;> cases m' <;> rfl
    | succ k ih =>
      intro l m m' h h1 h2
      cases l with
      | nil => cases m <;> cases m' <;> rfl
      | cons f r =>
        cases m with
        | zero => simp at h1
        | succ m =>
          cases m' with
          | zero => simp at h2
          | succ m' =>
            have hp := rowOf_pos (l := f :: r) (by simp)
            simp only [List.length_cons] at h h1 h2
            unfold rleF
            rw [ih ((f :: r).drop (rowOf (f :: r))) m m' (by rw [List.length_drop, List.length_cons]; omega) (by rw [List.length_drop, List.length_cons]; omega) (by rw [List.length_drop, List.length_cons]; omega)]
  exact fun m l h => key l.length l m l.length (Nat.le_refl _) h (Nat.le_refl _)
theorem rle_nil : rle [] = [] := rfl
theorem rle_step {l : List Int} (h : l ≠ []) : rle l = rleHead l ++ rle (l.drop (rowOf l)) := by
  cases l with
  | nil => exact absurd rfl h
  | cons f r =>
    have hp := rowOf_pos (l := f :: r) (by simp)
    unfold rle
    rw [List.length_cons]
    conv => lhs; unfold rleF
    rw [rleF_fuel r.length _ (by rw [List.length_drop, List.length_cons]; omega)]
    rfl
theorem rleHead_len (l : List Int) : 1 ≤ (rleHead l).length ∧ (rleHead l).length ≤ 2 := by unfold rleHead; split <;> simp
theorem rleF_len : ∀ (m : Nat) (l : List Int), (rleF m l).length ≤ 2 * m
  | 0, _ => by simp [rleF]
  | _ + 1, [] => by simp [rleF]
  | m + 1, f :: r => by
    have := rleF_len m ((f :: r).drop (rowOf (f :: r)))
    have := rleHead_len (f :: r)
    unfold rleF
    rw [List.length_append]
    omega
theorem rle_len (l : List Int) : (rle l).length ≤ 2 * l.length := rleF_len _ _

/-- The bytes of a change. -/
def cb (d : Int) : List Int := if d = 0 then [] else if -255 ≤ d ∧ d ≤ 255 then [max d (-d)] else b2 (d % 65536)
def cbs (l : List Int) : List Int := l.flatMap cb
theorem cb_len (d : Int) : (cb d).length ≤ 2 := by unfold cb; split; simp; split <;> simp [b2]
theorem cbs_len : ∀ l : List Int, (cbs l).length ≤ 2 * l.length
  | [] => by simp [cbs]
  | d :: r => by
    have := cbs_len r
    have := cb_len d
    unfold cbs at *
    rw [List.flatMap_cons, List.length_append, List.length_cons]
    omega
theorem cbs_snoc {l : List Int} {k : Nat} {d : Int} (h : l[k]? = some d) : cbs (l.take (k + 1)) = cbs (l.take k) ++ cb d := by
  unfold cbs
  rw [List.take_add_one, h]
  simp
theorem cbs_cut (l : List Int) {k : Nat} {d : Int} (h : l[k]? = some d) : cbs l = cbs (l.take k) ++ (cb d ++ cbs (l.drop (k + 1))) := by
  have hk := (List.getElem?_eq_some_iff.1 h)
  obtain ⟨hk, rfl⟩ := hk
  conv => lhs; rw [← List.take_append_drop k l, List.drop_eq_getElem_cons hk]
  unfold cbs
  rw [List.flatMap_append, List.flatMap_cons]

/-- What a flag says of a change. -/
def bitsV (d sh pl : Int) : Int := if d = 0 then pl else if -255 ≤ d ∧ d ≤ 255 then (if 0 < d then sh + pl else sh) else 0
def flagOf (dx dy : Int) (on : Bool) : Int := bitsV dx 2 16 + bitsV dy 4 32 + (if on then 1 else 0)
def flA (l : List Sp) (i : Nat) : Int := flagOf (chA (xsOf l) i) (chA (ysOf l) i) (l.getD i (0, 0, false)).2.2
def flK (l : List Sp) (k : Nat) : List Int := (List.range k).map (flA l)
def fls (l : List Sp) : List Int := flK l l.length
theorem flK_len (l : List Sp) (k : Nat) : (flK l k).length = k := by simp [flK]
theorem flK_succ (l : List Sp) (k : Nat) : flK l (k + 1) = flK l k ++ [flA l k] := by simp [flK, List.range_succ]
theorem flK_get (l : List Sp) {k i : Nat} (h : i < k) : (flK l k)[i]? = some (flA l i) := by simp [flK, h]
theorem flK_set (l : List Sp) (k n : Nat) (h : k < n) : (flK l k ++ List.replicate (n - k) 0).set k (flA l k) = flK l (k + 1) ++ List.replicate (n - (k + 1)) 0 := by
  rw [List.set_append_right _ _ (by rw [flK_len]; exact Nat.le_refl _), flK_len, Nat.sub_self, flK_succ, List.append_assoc, show n - k = (n - (k + 1)) + 1 by omega, List.replicate_succ]
  rfl

/-- Which flags there are: none has 8, 64 or 128. -/
def flagsAll : List Int := [0, 2, 16, 18].flatMap fun a => [0, 4, 32, 36].flatMap fun b => [0, 1].map fun c => a + b + c
theorem bitsV_cases (d sh pl : Int) : bitsV d sh pl = pl ∨ bitsV d sh pl = sh + pl ∨ bitsV d sh pl = sh ∨ bitsV d sh pl = 0 := by unfold bitsV; split; simp; split; split <;> simp; simp
theorem flagOf_in (dx dy : Int) (on : Bool) : flagOf dx dy on ∈ flagsAll := by
  unfold flagOf
  rcases bitsV_cases dx 2 16 with h | h | h | h <;> rcases bitsV_cases dy 4 32 with h' | h' | h' | h' <;> rw [h, h'] <;> cases on <;> decide
theorem flA_in (l : List Sp) (i : Nat) : flA l i ∈ flagsAll := flagOf_in _ _ _
theorem fls_in (l : List Sp) : ∀ f ∈ fls l, f ∈ flagsAll := by
  intro f hf
  simp only [fls, flK, List.mem_map] at hf
  obtain ⟨i, _, rfl⟩ := hf
  exact flA_in l i
theorem flagsAll_lt {f : Int} (h : f ∈ flagsAll) : 0 ≤ f ∧ f < 64 := by
  have : ∀ f ∈ flagsAll, 0 ≤ f ∧ f < 64 := by decide
  exact this f h
theorem flagsAll_or8 {f : Int} (h : f ∈ flagsAll) : bits .or .u8 f 8 = f + 8 := by
  have : ∀ f ∈ flagsAll, bits .or .u8 f 8 = f + 8 := by decide +kernel
  exact this f h
theorem bits_or (dx dy : Int) : bits .or .u8 (bitsV dx 2 16) (bitsV dy 4 32) = bitsV dx 2 16 + bitsV dy 4 32 := by
  rcases bitsV_cases dx 2 16 with h | h | h | h <;> rcases bitsV_cases dy 4 32 with h' | h' | h' | h' <;> rw [h, h'] <;> decide +kernel
theorem bits_or1 (dx dy : Int) : bits .or .u8 (bitsV dx 2 16 + bitsV dy 4 32) 1 = bitsV dx 2 16 + bitsV dy 4 32 + 1 := by
  rcases bitsV_cases dx 2 16 with h | h | h | h <;> rcases bitsV_cases dy 4 32 with h' | h' | h' | h' <;> rw [h, h'] <;> decide +kernel
theorem bitsV_lt (dx dy : Int) : 0 ≤ bitsV dx 2 16 + bitsV dy 4 32 ∧ bitsV dx 2 16 + bitsV dy 4 32 < 63 ∧ 0 ≤ bitsV dx 2 16 ∧ bitsV dx 2 16 < 63 ∧ 0 ≤ bitsV dy 4 32 ∧ bitsV dy 4 32 < 63 := by
  rcases bitsV_cases dx 2 16 with h | h | h | h <;> rcases bitsV_cases dy 4 32 with h' | h' | h' | h' <;> rw [h, h'] <;> decide

/-- The bytes of an outline. -/
def boxB (l : List Int) : List Int := l.flatMap fun x => b2 (x % 65536)
def endB (l : List Int) : List Int := l.flatMap b2
def oFront (g : Gl) : List Int := b2 g.es.length ++ boxB g.box ++ endB g.es ++ b2 g.pr.length ++ g.pr
def oB (g : Gl) : List Int := oFront g ++ rle (fls g.ps) ++ cbs (chs (xsOf g.ps)) ++ cbs (chs (ysOf g.ps))
theorem endB_len : ∀ l : List Int, (endB l).length = 2 * l.length
  | [] => rfl
  | x :: r => by unfold endB; rw [List.flatMap_cons, List.length_append]; have := endB_len r; unfold endB at this; rw [this]; simp [b2]; omega
theorem endB_snoc {l : List Int} {k : Nat} {x : Int} (h : l[k]? = some x) : endB (l.take (k + 1)) = endB (l.take k) ++ b2 x := by
  unfold endB
  rw [List.take_add_one, h]
  simp
theorem boxB_len : ∀ l : List Int, (boxB l).length = 2 * l.length
  | [] => rfl
  | x :: r => by unfold boxB; rw [List.flatMap_cons, List.length_append]; have := boxB_len r; unfold boxB at this; rw [this]; simp [b2]; omega
theorem boxB_snoc {l : List Int} {k : Nat} {x : Int} (h : l[k]? = some x) : boxB (l.take (k + 1)) = boxB (l.take k) ++ b2 (x % 65536) := by
  unfold boxB
  rw [List.take_add_one, h]
  simp
theorem oFront_len (g : Gl) : (oFront g).length = 12 + 2 * g.es.length + g.pr.length := by
  unfold oFront
  simp only [List.length_append, endB_len, boxB_len, Gl.box, List.length_cons, List.length_nil]
  simp [b2]
  omega

/-- A byte at a place; 0 where there is none. -/
def n1at (zs : List Int) (i : Nat) : Int := num (zs.drop i) 1
theorem n1at_get {zs : List Int} {i : Nat} {x : Int} (h : zs[i]? = some x) : n1at zs i = x := by
  obtain ⟨hk, rfl⟩ := List.getElem?_eq_some_iff.1 h
  unfold n1at num told
  rw [if_pos (by rw [List.length_drop]; omega), List.drop_eq_getElem_cons hk]
  show 0 * 256 + _ = _
  omega
theorem n1at_lt {zs : List Int} (hB : Bytes zs) (i : Nat) : 0 ≤ n1at zs i ∧ n1at zs i ≤ 255 := by
  have := num_lt (drop_bytes hB i) 1 1 (by omega)
  simp only [Int.pow_succ, Int.pow_zero, Int.one_mul] at this
  unfold n1at
  omega

/-- The flags that are read: those so far, and the place behind. -/
structure FS where
  fl : List Int
  at_ : Nat
def fMore (zs : List Int) (i : Nat) : Nat := if fb (n1at zs i) 8 then (n1at zs (i + 1)).toNat else 0
def fSize (zs : List Int) (i : Nat) : Nat := if fb (n1at zs i) 8 then 2 else 1
def fOk (zs : List Int) (n : Nat) (s : FS) : Bool := !fb (n1at zs s.at_) 128 && decide (s.fl.length + 1 + fMore zs s.at_ ≤ n)
def fNext (zs : List Int) (s : FS) : FS := ⟨s.fl ++ List.replicate (fMore zs s.at_ + 1) (n1at zs s.at_), s.at_ + fSize zs s.at_⟩
theorem fNext_len (zs : List Int) (s : FS) : (fNext zs s).fl.length = s.fl.length + fMore zs s.at_ + 1 := by simp [fNext]; omega
def fRun (zs : List Int) (n : Nat) : Nat → FS → Option FS
  | 0, s => some s
  | m + 1, s => if s.fl.length < n then (if fOk zs n s then fRun zs n m (fNext zs s) else none) else some s
theorem fRun_fuel (zs : List Int) (n : Nat) : ∀ (k : Nat) (s : FS) (m m' : Nat), n - s.fl.length ≤ k → n - s.fl.length ≤ m → n - s.fl.length ≤ m' → fRun zs n m s = fRun zs n m' s := by
  intro k
  induction k with
  | zero =>
    intro s m m' h _ _
    have : ¬ s.fl.length < n := by omega
    cases m <;> cases m' <;> simp [fRun, this]
  | succ k ih =>
    intro s m m' h h1 h2
    by_cases hl : s.fl.length < n
    · obtain ⟨m, rfl⟩ : ∃ j, m = j + 1 := ⟨m - 1, by omega⟩
      obtain ⟨m', rfl⟩ : ∃ j, m' = j + 1 := ⟨m' - 1, by omega⟩
      unfold fRun
      rw [if_pos hl, if_pos hl]
      have hz := fNext_len zs s
      rw [ih (fNext zs s) m m' (by omega) (by omega) (by omega)]
    · cases m <;> cases m' <;> simp [fRun, hl]
/-- All that is left to read, from a state on. -/
def fAll (zs : List Int) (n : Nat) (s : FS) : Option FS := fRun zs n n s
theorem fAll_done {zs : List Int} {n : Nat} {s : FS} (h : n ≤ s.fl.length) : fAll zs n s = some s := by
  unfold fAll
  cases n <;> simp [fRun]
  omega
theorem fAll_step {zs : List Int} {n : Nat} {s : FS} (h : s.fl.length < n) (hk : fOk zs n s = true) : fAll zs n s = fAll zs n (fNext zs s) := by
  unfold fAll
  obtain ⟨m, rfl⟩ : ∃ j, n = j + 1 := ⟨n - 1, by omega⟩
  have hz := fNext_len zs s
  conv => lhs; unfold fRun
  rw [if_pos h, if_pos hk]
  exact fRun_fuel zs _ (m + 1) _ _ _ (by omega) (by omega) (by omega)
theorem fAll_not {zs : List Int} {n : Nat} {s : FS} (h : s.fl.length < n) (hk : fOk zs n s = false) : fAll zs n s = none := by
  unfold fAll
  obtain ⟨m, rfl⟩ : ∃ j, n = j + 1 := ⟨n - 1, by omega⟩
  unfold fRun
  rw [if_pos h, hk]
  rfl
/-- What is read has just so many, and lies behind. -/
theorem fAll_some {zs : List Int} {n : Nat} : ∀ (k : Nat) (s t : FS), n - s.fl.length ≤ k → s.fl.length ≤ n → fAll zs n s = some t → t.fl.length = n ∧ s.at_ ≤ t.at_ := by
  intro k
  induction k with
  | zero =>
    intro s t h hs ht
    rw [fAll_done (by omega)] at ht
    cases ht
    exact ⟨by omega, Nat.le_refl _⟩
  | succ k ih =>
    intro s t h hs ht
    by_cases hl : s.fl.length < n
    · cases hk : fOk zs n s with
      | false => rw [fAll_not hl hk] at ht; cases ht
      | true =>
        rw [fAll_step hl hk] at ht
        have hz := fNext_len zs s
        have hle : s.fl.length + 1 + fMore zs s.at_ ≤ n := by unfold fOk at hk; simp at hk; omega
        have h1 := ih (fNext zs s) t (by omega) (by omega) ht
        refine ⟨h1.1, Nat.le_trans ?_ h1.2⟩
        show s.at_ ≤ s.at_ + _
        omega
    · rw [fAll_done (by omega)] at ht
      cases ht
      exact ⟨by omega, Nat.le_refl _⟩

/-- A change as a flag tells it: how many bytes it has, and what it is. -/
def cw (sh pl f : Int) : Nat := if fb f sh then 1 else if fb f pl then 0 else 2
def cv (zs : List Int) (sh pl f : Int) (i : Nat) : Int := if fb f sh then (if fb f pl then n1at zs i else - n1at zs i) else if fb f pl then 0 else sgn (n2at zs i)
def pkAt (zs : List Int) (sh pl : Int) (fl : List Int) (a : Nat) : Nat → Nat × Int
  | 0 => (a, 0)
  | k + 1 => ((pkAt zs sh pl fl a k).1 + cw sh pl (fl.getD k 0), (pkAt zs sh pl fl a k).2 + cv zs sh pl (fl.getD k 0) (pkAt zs sh pl fl a k).1)
def pkOk (zs : List Int) (sh pl : Int) (fl : List Int) (a k : Nat) : Bool := (List.range k).all fun i => fitsB (pkAt zs sh pl fl a (i + 1)).2
def pkVs (zs : List Int) (sh pl : Int) (fl : List Int) (a k : Nat) : List Int := (List.range k).map fun i => (pkAt zs sh pl fl a (i + 1)).2
section
variable (zs : List Int) (sh pl : Int) (fl : List Int) (a : Nat)
theorem pkVs_len (k : Nat) : (pkVs zs sh pl fl a k).length = k := by simp [pkVs]
theorem pkVs_succ (k : Nat) : pkVs zs sh pl fl a (k + 1) = pkVs zs sh pl fl a k ++ [(pkAt zs sh pl fl a (k + 1)).2] := by simp [pkVs, List.range_succ]
theorem pkVs_get {k i : Nat} (h : i < k) : (pkVs zs sh pl fl a k)[i]? = some (pkAt zs sh pl fl a (i + 1)).2 := by simp [pkVs, h]
theorem pkVs_set (k n : Nat) (h : k < n) : (pkVs zs sh pl fl a k ++ List.replicate (n - k) 0).set k (pkAt zs sh pl fl a (k + 1)).2 = pkVs zs sh pl fl a (k + 1) ++ List.replicate (n - (k + 1)) 0 := by
  rw [List.set_append_right _ _ (by rw [pkVs_len]; exact Nat.le_refl _), pkVs_len, Nat.sub_self, pkVs_succ, List.append_assoc, show n - k = (n - (k + 1)) + 1 by omega, List.replicate_succ]
  rfl
theorem pkOk_succ (k : Nat) : pkOk zs sh pl fl a (k + 1) = (pkOk zs sh pl fl a k && fitsB (pkAt zs sh pl fl a (k + 1)).2) := by simp [pkOk, List.range_succ]
variable {zs sh pl fl a}
theorem pkOk_not {k n : Nat} (h : fitsB (pkAt zs sh pl fl a (k + 1)).2 = false) (hn : k < n) : pkOk zs sh pl fl a n = false := by
  unfold pkOk
  rw [List.all_eq_false]
  exact ⟨k, List.mem_range.2 hn, by rw [h]; simp⟩
theorem pkOk_at {n k : Nat} (h : pkOk zs sh pl fl a n = true) (hk : k ≤ n) : -32768 ≤ (pkAt zs sh pl fl a k).2 ∧ (pkAt zs sh pl fl a k).2 ≤ 32767 := by
  cases k with
  | zero => simp [pkAt]
  | succ k =>
    unfold pkOk at h
    rw [List.all_eq_true] at h
    exact fitsB_true (h k (List.mem_range.2 (by omega)))
theorem pkAt_mono (k : Nat) : ∀ m, (pkAt zs sh pl fl a k).1 ≤ (pkAt zs sh pl fl a (k + m)).1
  | 0 => Nat.le_refl _
  | m + 1 => Nat.le_trans (pkAt_mono k m) (by rw [show k + (m + 1) = (k + m) + 1 by omega]; show _ ≤ _ + _; omega)
end

/-- What bytes are as an outline. -/
def oEs (zs : List Int) (n : Nat) : List Int := (List.range n).map fun i => n2at zs (10 + 2 * i)
def oSz (zs : List Int) (n : Nat) : Nat := (n2at zs (10 + 2 * n)).toNat
def oA (zs : List Int) (n : Nat) : Nat := 12 + 2 * n + oSz zs n
def oFs (zs : List Int) (n : Nat) : Option FS := fAll zs (cntE (oEs zs n)) ⟨[], oA zs n⟩
def oXe (zs : List Int) (s : FS) : Nat := (pkAt zs 2 16 s.fl s.at_ s.fl.length).1
def oEnd (zs : List Int) (s : FS) : Nat := (pkAt zs 4 32 s.fl (oXe zs s) s.fl.length).1
def oPs (zs : List Int) (s : FS) (k : Nat) : List Sp := (List.range k).map fun i => ((pkAt zs 2 16 s.fl s.at_ (i + 1)).2, (pkAt zs 4 32 s.fl (oXe zs s) (i + 1)).2, fb (s.fl.getD i 0) 1)
def oGl (zs : List Int) (n : Nat) (s : FS) : Gl := ⟨sgn (n2at zs 2), sgn (n2at zs 4), sgn (n2at zs 6), sgn (n2at zs 8), oEs zs n, (zs.drop (12 + 2 * n)).take (oSz zs n), oPs zs s s.fl.length⟩
def oPk (zs : List Int) (s : FS) : Bool := pkOk zs 2 16 s.fl s.at_ s.fl.length && pkOk zs 4 32 s.fl (oXe zs s) s.fl.length
def oPut (zs : List Int) (n : Nat) (s : FS) : Option (Gl × Nat) := if oPk zs s && decide (oEnd zs s ≤ zs.length) then some (oGl zs n s, oEnd zs s) else none
def oTake (zs : List Int) (n : Nat) : Option FS → Option (Gl × Nat)
  | none => none
  | some s => oPut zs n s
def oNum (zs : List Int) (n : Nat) : Option (Gl × Nat) := if riseN (oEs zs n) n then oTake zs n (oFs zs n) else none
def oParse (zs : List Int) : Option (Gl × Nat) := if 32767 < n2at zs 0 then none else oNum zs (n2at zs 0).toNat

theorem oEs_len (zs : List Int) (n : Nat) : (oEs zs n).length = n := by simp [oEs]
theorem oEs_get (zs : List Int) {n i : Nat} (h : i < n) : (oEs zs n)[i]? = some (n2at zs (10 + 2 * i)) := by simp [oEs, h]
theorem oEs_getD (zs : List Int) {n i : Nat} (h : i < n) : (oEs zs n).getD i 0 = n2at zs (10 + 2 * i) := by simp [oEs, h]
theorem oEs_succ (zs : List Int) (n : Nat) : oEs zs (n + 1) = oEs zs n ++ [n2at zs (10 + 2 * n)] := by simp [oEs, List.range_succ]
theorem oEs_set (zs : List Int) (k n : Nat) (h : k < n) : (oEs zs k ++ List.replicate (n - k) 0).set k (n2at zs (10 + 2 * k)) = oEs zs (k + 1) ++ List.replicate (n - (k + 1)) 0 := by
  rw [List.set_append_right _ _ (by rw [oEs_len]; exact Nat.le_refl _), oEs_len, Nat.sub_self, oEs_succ, List.append_assoc, show n - k = (n - (k + 1)) + 1 by omega, List.replicate_succ]
  rfl
theorem oEs_riseA (zs : List Int) {n k : Nat} (h : k < n) : riseA (oEs zs n) k = (decide (k = 0) || decide (n2at zs (10 + 2 * (k - 1)) < n2at zs (10 + 2 * k))) := by
  unfold riseA
  rw [oEs_getD zs h, oEs_getD zs (show k - 1 < n by omega)]
theorem oPs_len (zs : List Int) (s : FS) (k : Nat) : (oPs zs s k).length = k := by simp [oPs]
theorem oPs_succ (zs : List Int) (s : FS) (k : Nat) : oPs zs s (k + 1) = oPs zs s k ++ [((pkAt zs 2 16 s.fl s.at_ (k + 1)).2, (pkAt zs 4 32 s.fl (oXe zs s) (k + 1)).2, fb (s.fl.getD k 0) 1)] := by simp [oPs, List.range_succ]
theorem oPs_set (zs : List Int) (s : FS) (k n : Nat) (h : k < n) : (oPs zs s k ++ List.replicate (n - k) ((0, 0, false) : Sp)).set k ((pkAt zs 2 16 s.fl s.at_ (k + 1)).2, (pkAt zs 4 32 s.fl (oXe zs s) (k + 1)).2, fb (s.fl.getD k 0) 1) = oPs zs s (k + 1) ++ List.replicate (n - (k + 1)) (0, 0, false) := by
  rw [List.set_append_right _ _ (by rw [oPs_len]; exact Nat.le_refl _), oPs_len, Nat.sub_self, oPs_succ, List.append_assoc, show n - k = (n - (k + 1)) + 1 by omega, List.replicate_succ]
  rfl
theorem oXe_le (zs : List Int) (s : FS) : s.at_ ≤ oXe zs s ∧ oXe zs s ≤ oEnd zs s := by
  constructor
  · have := pkAt_mono (zs := zs) (sh := 2) (pl := 16) (fl := s.fl) (a := s.at_) 0 s.fl.length
    rw [Nat.zero_add] at this
    exact this
  · have := pkAt_mono (zs := zs) (sh := 4) (pl := 32) (fl := s.fl) (a := oXe zs s) 0 s.fl.length
    rw [Nat.zero_add] at this
    exact this

end Go.Proofs.Ytlcnonhebppeiaa

/- Words for slices of structs: rows of elements of k cells, fresh ones, what appends and stores leave, and what comes in. -/
namespace Go.Proofs.Ytlcnonhebppeiaa
open Go.RowKit Go.ChangeShapes Go.WideShapes
set_option linter.unusedVariables false

/-- The cells of all elements, one behind the other. -/
def flat {α : Type} (enc : α → List Value) (l : List α) : List Value := l.flatMap enc

section
variable {α : Type} {enc : α → List Value} {k : Nat} (hk : ∀ x, (enc x).length = k)
include hk
theorem flat_length (l : List α) : (flat enc l).length = l.length * k := by
  unfold flat
  induction l with
  | nil => simp
  | cons x l ih => rw [List.flatMap_cons, List.length_append, ih, hk, List.length_cons, Nat.succ_mul]; omega
theorem flat_get {l : List α} {j : Nat} {x : α} (h : l[j]? = some x) {i : Nat} (hi : i < k) : (flat enc l)[j * k + i]? = (enc x)[i]? := by
  induction l generalizing j with
  | nil => simp at h
  | cons y l ih =>
    unfold flat at *
    rw [List.flatMap_cons]
    cases j with
    | zero =>
      simp at h
      subst h
      rw [Nat.zero_mul, Nat.zero_add, List.getElem?_append_left (by rw [hk]; exact hi)]
    | succ j =>
      rw [List.getElem?_append_right (by rw [hk, Nat.succ_mul]; omega), hk, Nat.succ_mul, show j * k + k + i - k = j * k + i by omega]
      exact ih (by simpa using h)
theorem flat_take (l : List α) (n : Nat) : (flat enc l).take (n * k) = flat enc (l.take n) := by
  induction l generalizing n with
  | nil => simp [flat]
  | cons y l ih =>
    cases n with
    | zero => simp [flat]
    | succ n =>
      unfold flat at *
      rw [List.flatMap_cons, List.take_succ_cons, List.flatMap_cons, List.take_append, hk, List.take_of_length_le (by rw [hk, Nat.succ_mul]; omega), Nat.succ_mul, show n * k + k - k = n * k by omega, ih]
theorem flat_drop (l : List α) (n : Nat) : (flat enc l).drop (n * k) = flat enc (l.drop n) := by
  induction l generalizing n with
  | nil => simp [flat]
  | cons y l ih =>
    cases n with
    | zero => simp [flat]
    | succ n =>
      unfold flat at *
      rw [List.flatMap_cons, List.drop_succ_cons, List.drop_append, hk, List.drop_of_length_le (by rw [hk, Nat.succ_mul]; omega), List.nil_append, Nat.succ_mul, show n * k + k - k = n * k by omega, ih]
end
theorem flat_append {α : Type} (enc : α → List Value) (a b : List α) : flat enc a ++ flat enc b = flat enc (a ++ b) := by simp [flat]
theorem flat_nil {α : Type} (enc : α → List Value) : flat enc ([] : List α) = [] := rfl
theorem flat_one {α : Type} (enc : α → List Value) (x : α) : flat enc [x] = enc x := by simp [flat]

/-- A slice of n elements of k cells each, that begins at A, shows the elements l. -/
def RowS {α : Type} (enc : α → List Value) (k : Nat) (w : World) (A : Option Addr) (n : Nat) (l : List α) : Prop := l.length = n ∧ Row w A (n * k) (flat enc l)

section
variable {α : Type} {enc : α → List Value} {k : Nat} {w w' : World} {A : Option Addr} {n : Nat} {l : List α}
theorem RowS.len (h : RowS enc k w A n l) : l.length = n := h.1
theorem RowS.empty (w : World) (A : Option Addr) : RowS enc k w A 0 [] := ⟨rfl, by rw [Nat.zero_mul]; exact Row.empty w A⟩
theorem RowS.below (h : RowS enc k w A n l) (hb : Below w.heap.size w w') : RowS enc k w' A n l := ⟨h.1, h.2.below hb⟩
theorem RowS.drewN (h : RowS enc k w A n l) (q : Nat) : RowS enc k (w.drewN q) A n l := h
theorem RowS.drew (h : RowS enc k w A n l) : RowS enc k w.drew A n l := h
theorem RowS.grown {row : Option Nat} (h : RowS enc k w A n l) (hb : w.grownBy w' row) (hne : ∀ g, blockOf A = some g → some g ≠ row) : RowS enc k w' A n l := ⟨h.1, h.2.grown hb hne⟩
theorem RowS.keep (h : RowS enc k w A n l) (hs : w.heap.size ≤ w'.heap.size) (hk : ∀ g, blockOf A = some g → g < w.heap.size → w'.heap[g]? = w.heap[g]?) : RowS enc k w' A n l := ⟨h.1, h.2.keep hs hk⟩
theorem RowS.take (hk : ∀ x, (enc x).length = k) (h : RowS enc k w A n l) {m : Nat} (hm : m ≤ n) : RowS enc k w A m (l.take m) :=
  ⟨by rw [List.length_take, h.1]; omega, by rw [← flat_take hk]; exact h.2.take (Nat.mul_le_mul_right k hm)⟩
/-- The cells of element j. -/
theorem RowS.at (hk : ∀ x, (enc x).length = k) (hk0 : 0 < k) (h : RowS enc k w A n l) {j : Nat} {x : α} (hj : l[j]? = some x) :
    ∃ g off, A = some ⟨g, off, none⟩ ∧ g < w.heap.size ∧ ∀ i u, (enc x)[i]? = some u → w.cell? ⟨g, off + j * k + i, none⟩ = some u := by
  have hl := (List.getElem?_eq_some_iff.1 hj).1
  have hn : 0 < n * k := Nat.mul_pos (by have := h.1; omega) hk0
  obtain ⟨g, off, e, hg, hc⟩ := h.2.2 hn
  refine ⟨g, off, e, hg, fun i u hu => ?_⟩
  rw [Nat.add_assoc]
  refine hc _ u ?_
  have hi : i < k := by have := (List.getElem?_eq_some_iff.1 hu).1; rw [hk] at this; exact this
  rw [flat_get hk hj hi]
  exact hu
end

/-- A slice of elements in memory that was made from block B on: nil, or at the head of a block of its own. -/
def OwnS {α : Type} (t : TypeId) (enc : α → List Value) (k : Nat) (w : World) (B : Nat) (A : Option Addr) (n c : Nat) (l : List α) : Prop := l.length = n ∧ w.ownsRow B t k (.slice A n c) n (flat enc l)

section
variable {α : Type} {t : TypeId} {enc : α → List Value} {k : Nat} {w w' : World} {B : Nat} {A : Option Addr} {n c : Nat} {l : List α}

theorem OwnS.len (h : OwnS t enc k w B A n c l) : l.length = n := h.1

theorem OwnS.shape (h : OwnS t enc k w B A n c l) :
    (A = none ∧ l = [] ∧ n = 0 ∧ c = 0) ∨ ∃ g cur, A = some ⟨g, 0, none⟩ ∧ B ≤ g ∧ g < w.heap.size ∧ w.heap[g]? = some (.cells cur t (0, 0)) ∧ n ≤ c ∧ c ≤ maxLen ∧ cur.size = c * k ∧ cur.toList.take (n * k) = flat enc l := by
  obtain ⟨hl, h⟩ := h
  rcases h.2 with ⟨e, h0⟩ | ⟨g, cap, cur, e, hB, hh, h1, h2, h3, h4⟩
  · injection e with e1 _ e3
    exact .inl ⟨e1, List.eq_nil_of_length_eq_zero (by omega), h0, e3⟩
  · injection e with e1 _ e3
    subst e1 e3
    exact .inr ⟨g, cur, rfl, hB, lt_of_block hh, hh, h1, h2, h3, h4⟩

theorem OwnS.nil (t : TypeId) (enc : α → List Value) (k : Nat) (w : World) (B : Nat) : OwnS t enc k w B none 0 0 [] := ⟨rfl, World.ownsRow_nil _ _ _ _⟩

theorem OwnS.cap (h : OwnS t enc k w B A n c l) : n ≤ c := by
  rcases h.shape with ⟨_, _, rfl, _⟩ | ⟨_, _, _, _, _, _, h1, _⟩
  · simp
  · exact h1

theorem OwnS.row (hk : ∀ x, (enc x).length = k) (h : OwnS t enc k w B A n c l) : RowS enc k w A n l := by
  refine ⟨h.1, by rw [flat_length hk, h.1], fun hn => ?_⟩
  rcases h.shape with ⟨_, _, rfl, _⟩ | ⟨g, cur, rfl, _, hg, hh, _, _, _, h4⟩
  · rw [Nat.zero_mul] at hn; omega
  · refine ⟨g, 0, rfl, hg, fun j u hu => ?_⟩
    rw [Nat.zero_add, cell_of_row w g j cur t (0, 0) hh]
    rw [← h4, List.getElem?_take] at hu
    split at hu
    · simpa using hu
    · cases hu

theorem OwnS.from_ (h : OwnS t enc k w B A n c l) : ∀ g, blockOf A = some g → B ≤ g ∧ g < w.heap.size := by
  intro g hg
  rcases h.shape with ⟨rfl, _⟩ | ⟨g', cur, rfl, h1, h2, _⟩
  · simp [blockOf] at hg
  · simp [blockOf] at hg
    subst hg
    exact ⟨h1, h2⟩

theorem OwnS.keep (h : OwnS t enc k w B A n c l) (hk : ∀ g, blockOf A = some g → w'.heap[g]? = w.heap[g]?) : OwnS t enc k w' B A n c l := by
  refine ⟨h.1, h.2.1, ?_⟩
  rcases h.2.2 with h2 | ⟨g, cap, cur, e, hB, hh, r⟩
  · exact .inl h2
  · refine .inr ⟨g, cap, cur, e, hB, ?_, r⟩
    injection e with e1
    rw [hk g (by rw [e1]; rfl)]
    exact hh

theorem OwnS.grown {row : Option Nat} (h : OwnS t enc k w B A n c l) (hb : w.grownBy w' row) (hne : ∀ g, blockOf A = some g → some g ≠ row) : OwnS t enc k w' B A n c l :=
  h.keep fun g e => hb.block g (h.from_ g e).2 (hne g e)
theorem OwnS.below (h : OwnS t enc k w B A n c l) (hb : Below w.heap.size w w') : OwnS t enc k w' B A n c l := h.keep fun g e => hb.block g (h.from_ g e).2
theorem OwnS.drewN (h : OwnS t enc k w B A n c l) (q : Nat) : OwnS t enc k (w.drewN q) B A n c l := h
theorem OwnS.drew (h : OwnS t enc k w B A n c l) : OwnS t enc k w.drew B A n c l := h
theorem OwnS.alloc (h : OwnS t enc k w B A n c l) (o : Obj) : OwnS t enc k (w.alloc o) B A n c l := h.below ((Below.refl _ _).alloc (Nat.le_refl _) o)
theorem OwnS.mono {B' : Nat} (h : OwnS t enc k w B A n c l) (hB : B' ≤ B) : OwnS t enc k w B' A n c l := by
  refine ⟨h.1, h.2.1, ?_⟩
  rcases h.2.2 with h2 | ⟨g, cap, cur, e, hg, r⟩
  · exact .inl h2
  · exact .inr ⟨g, cap, cur, e, by omega, r⟩

theorem ownS_shape {v : Value} (hl : l.length = n) (h : w.ownsRow B t k v n (flat enc l)) : ∃ A c, v = .slice A n c ∧ OwnS t enc k w B A n c l := by
  rcases h.2 with ⟨e, h0⟩ | ⟨g, cap, cur, e, r⟩
  · subst h0 e
    exact ⟨none, 0, rfl, hl, h⟩
  · subst e
    exact ⟨_, cap, rfl, hl, h⟩

/-- Fresh elements, written out. -/
theorem ownS_lit (w : World) (B : Nat) (t : TypeId) (enc : α → List Value) (k : Nat) (hk : ∀ x, (enc x).length = k) (l : List α) (cs : Array Value) (hcs : cs = (flat enc l).toArray) (n : Nat) (hn : l.length = n) (hB : B ≤ w.heap.size) (hm : n ≤ maxLen) : OwnS t enc k (w.alloc (.cells cs t)) B (some ⟨w.heap.size, 0, none⟩) n n l := by
  subst hcs
  have := World.ownsRow_lit (base := B) (e := t) (size := k) w (flat enc l).toArray n hB hm (by simp [flat_length hk]; rw [hn])
  exact ⟨hn, by simpa using this⟩

/-- A store of one cell into a fresh row. -/
theorem ownS_setCell {g : Nat} (h : OwnS t enc k w B (some ⟨g, 0, none⟩) n c l) {j : Nat} {u : Value} {l' : List α} (hl : l'.length = l.length) (hf : flat enc l' = (flat enc l).set j u) : OwnS t enc k (w.setCell ⟨g, j, none⟩ u) B (some ⟨g, 0, none⟩) n c l' := by
  rcases h.shape with ⟨e, _⟩ | ⟨g', cur, e, hB, hg, hh, h1, h2, h3, h4⟩
  · cases e
  · simp only [Option.some.injEq, Addr.mk.injEq, and_true] at e
    subst e
    refine ⟨by rw [hl]; exact h.1, by rw [hf, List.length_set]; exact h.2.1, .inr ⟨g, c, cur.setIfInBounds j u, rfl, hB, ?_, h1, h2, by simpa using h3, ?_⟩⟩
    · simp [World.setCell, Array.getElem?_modify, hh]
    · rw [hf, ← h4]
      simp [List.take_set]
end

/-- What a call that answers fresh elements and turns nothing old leaves. -/
def RetS {α : Type} (t : TypeId) (enc : α → List Value) (k : Nat) (w : World) (l : List α) (e : Ending) (w' : World) : Prop := ∃ A n c, e = .returned (.slice A n c) ∧ OwnS t enc k w' w.heap.size A n c l ∧ Below w.heap.size w w'

/-- The run of an append of elements that are read onto a fresh slice: the source nil or not. -/
theorem run_append_rowS {P : Program} {α : Type} (w : World) (t : TypeId) (enc : α → List Value) (k : Nat) (hk : ∀ x, (enc x).length = k) (hk0 : 0 < k) (h1 : ∀ x, ∀ u ∈ enc x, u.oneCell' = true) (base T ty : Nat) (i : TypeInfo) (z : Value) (b : Nat) (ht : P.underlying T = some (.slice t)) (hi : P.info? t = some i) (hz : i.zero = some z) (hs : i.size = k) (hzs : z.cells.size = k) (hby : i.bytes = b)
    (A : Option Addr) (n c : Nat) (l : List α) (hown : OwnS t enc k w base A n c l) (A' : Option Addr) (n' c' : Nat) (l' : List α) (hr : RowS enc k w A' n' l')
    (hb : (n + n') * b ≤ 140737488355328) (hm : n + n' ≤ 140737488355328) (hbase : base ≤ w.heap.size) :
    ∃ A2 c2 w', (Builtin.append_ #[T, T] ty #[.slice A n c, .slice A' n' c']).run P w = .ok (.slice A2 (n + n') c2) w' ∧ OwnS t enc k w' base A2 (n + n') c2 (l ++ l') ∧ w.grownBy w' (blockOf A) := by
  have hbo : (Value.slice A n c).ownBlock = blockOf A := by
    rcases hown.shape with ⟨rfl, _⟩ | ⟨g, cur, rfl, _⟩ <;> rfl
  have hyl := hr.len
  by_cases hy : n' = 0
  · obtain rfl : l' = [] := List.eq_nil_of_length_eq_zero (by omega)
    subst hy
    refine ⟨A, c, w, ?_, by simpa using hown, World.grownBy.refl w _⟩
    rcases hown.shape with ⟨rfl, rfl, rfl, rfl⟩ | ⟨g, cur, rfl, _, _, _, hle, _⟩
    · cases A' <;> simp [Builtin.append_, run_underlying ht, sizeOf, typeInfo, hi, Builtin.lenOf, Builtin.firstCells, loadCells, loadCellsFrom]
    · cases A' <;> simp [Builtin.append_, run_underlying ht, sizeOf, typeInfo, hi, Builtin.lenOf, Builtin.firstCells, loadCells, loadCellsFrom, hle, storeCells]
  · obtain ⟨g, off, rfl, hg, hc⟩ := hr.2.2 (Nat.mul_pos (by omega) hk0)
    obtain ⟨v', w', hrun, h2, h3, _⟩ := run_append_own (P := P) w base T ty t i z k b ht hi hz hs hby hzs hk0 (.slice A n c) n (flat enc l) hown.2 ⟨g, off, none⟩ n' c' (flat enc l') (by rw [flat_length hk, hyl])
      (fun j u hu => by rw [Addr.add_lit]; exact hc j u hu) (fun u hu => by unfold flat at hu; obtain ⟨x, _, hx⟩ := List.mem_flatMap.1 hu; exact h1 x u hx) (by simp only [maxLen]; omega) hb hbase
    rw [flat_append] at h2
    obtain ⟨A2, c2, rfl, h2'⟩ := ownS_shape (by rw [List.length_append, hown.len, hyl]) h2
    exact ⟨A2, c2, w', hrun, h2', by rw [← hbo]; exact h3⟩

/-- The same at an operation of the walk. -/
theorem wpList_append_rowS {P : Program} {α : Type} {w : World} {ops : Array Oper} {rest : List Oper} {o : Oper} {a : Act} {Q : Exit → Act → World → Prop} (hgd : o.guard = none) (s x : Operand) (T : TypeId)
    (ho : o.op = .call { callee := .builtin .append, args := #[s, x], argTypes := #[T, T] }) (t : TypeId) (enc : α → List Value) (k : Nat) (hk : ∀ x, (enc x).length = k) (hk0 : 0 < k) (h1 : ∀ x, ∀ u ∈ enc x, u.oneCell' = true)
    (base : Nat) (i : TypeInfo) (z : Value) (b : Nat) (ht : P.underlying T = some (.slice t)) (hi : P.info? t = some i) (hz : i.zero = some z) (hs : i.size = k) (hzs : z.cells.size = k) (hby : i.bytes = b)
    (A : Option Addr) (n c : Nat) (l : List α) (hes : a.eval s = .slice A n c) (hown : OwnS t enc k w base A n c l) (A' : Option Addr) (n' c' : Nat) (l' : List α) (hex : a.eval x = .slice A' n' c') (hr : RowS enc k w A' n' l')
    (hb : (n + n') * b ≤ 140737488355328) (hm : n + n' ≤ 140737488355328) (hbase : base ≤ w.heap.size)
    (h : ∀ A2 c2 w', OwnS t enc k w' base A2 (n + n') c2 (l ++ l') → w.grownBy w' (blockOf A) → wpList P ops Q rest (a.put o.dst (.slice A2 (n + n') c2)) w') : wpList P ops Q (o :: rest) a w := by
  refine wpList_plain hgd fun _ hK => ?_
  obtain ⟨A2, c2, w', hrun, h2, h3⟩ := run_append_rowS (P := P) w t enc k hk hk0 h1 base T o.type i z b ht hi hz hs hzs hby A n c l hown A' n' c' l' hr hb hm hbase
  unfold Oper.wp execOp
  simp only [ho, resolve, invoke, builtin, Sem.run_bind, Sem.run_pure, Result.andThen_ok, List.map_toArray, List.map_cons, List.map_nil, hes, hex, hrun]
  exact hK _ _ (h A2 c2 w' h2 h3)

/-- Elements written out in a block of their own. -/
theorem rowS_vals {α : Type} {enc : α → List Value} {k : Nat} (hk : ∀ x, (enc x).length = k) (w : World) (t : TypeId) (l : List α) (cs : Array Value) (hcs : cs = (flat enc l).toArray) (n : Nat) (hn : l.length = n) : RowS enc k (w.alloc (.cells cs t)) (some ⟨w.heap.size, 0, none⟩) n l := by
  subst hcs
  refine ⟨hn, by rw [flat_length hk, hn], fun _ => ⟨w.heap.size, 0, rfl, by simp, fun j u hu => ?_⟩⟩
  rw [Nat.zero_add, cell_of_row _ _ j _ t (0, 0) (heap_alloc_new w _)]
  simpa using hu

/-- A list out of its elements. -/
theorem list_of {α : Type} {p : Nat → α → Prop} (n : Nat) (h : ∀ i, i < n → ∃ x, p i x) : ∃ l : List α, l.length = n ∧ ∀ i x, l[i]? = some x → p i x := by
  induction n with
  | zero => exact ⟨[], rfl, fun i x hx => by simp at hx⟩
  | succ n ih =>
    obtain ⟨l, hl, hp⟩ := ih fun i hi => h i (by omega)
    obtain ⟨x, hx⟩ := h n (by omega)
    refine ⟨l ++ [x], by simp [hl], fun i y hy => ?_⟩
    rw [List.getElem?_append] at hy
    split at hy
    · exact hp i y hy
    · rename_i hi
      have : i - l.length = 0 := by
        rcases Nat.eq_zero_or_pos (i - l.length) with h0 | h0
        · exact h0
        · rw [List.getElem?_eq_none (by simp; omega)] at hy; cases hy
      rw [this] at hy
      simp at hy
      subst hy
      rw [show i = n by omega]
      exact hx

/-- A slice that comes in: each element's cells, and how they read. -/
theorem open_sliceK {H : Type} {enc : TypeId × Value → H} {P : Program} {w : World} {t e : TypeId} {k : Nat} (ht : P.underlying t = some (.slice e)) (hk : P.cellsOf e = k) {a : Option Addr} {len cap : Nat} {d : DataW H} {p : List MemPlace}
    (h : DataW.Trod enc P w 0 (fun _ => true) true t (.slice a len cap) d p) :
    (a = none ∧ len = 0 ∧ cap = 0) ∨ ∃ x, a = some x ∧ len ≤ cap ∧ cap ≤ maxLen ∧ ∀ i, i < len → ∃ (cs : List Value) (m : Nat) (y : DataW H × List MemPlace), cs.length = k ∧ (∀ j, j < k → w.cell? (x.add (i * k + j)) = cs[j]?) ∧ DataW.trod enc P w 0 (fun _ => true) true m e cs = some y := by
  obtain ⟨fuel, hf⟩ := h
  rcases DataW.trod_slice ht hf with ⟨hcs, _⟩ | ⟨x, l, c, elems, rest, n, _, hcs, _, _, hl, hm, hel, hi, _, _⟩
  · simp [Value.cells] at hcs
    exact .inl ⟨hcs.1, hcs.2.1, hcs.2.2⟩
  · simp [Value.cells] at hcs
    obtain ⟨rfl, rfl, rfl⟩ := hcs
    refine .inr ⟨x, rfl, hl, hm, fun i hlt => ?_⟩
    have h1 := hi i hlt
    rw [hk] at h1
    rw [List.getElem?_eq_getElem (by omega)] at h1
    cases hc : w.cells? 0 (x.add (i * k)) k with
    | none => rw [hc] at h1; simp at h1
    | some cs =>
      rw [hc] at h1
      obtain ⟨_, hcl, hat⟩ := World.cells?_some hc
      exact ⟨cs, n, _, hcl, fun j hj => by rw [← Go.Deep.add_add]; exact hat j hj, h1⟩

/-- Such a slice, once each element is known, is a row. -/
theorem rowS_in {α : Type} {enc : α → List Value} {k : Nat} (hk : ∀ x, (enc x).length = k) {w : World} {x : Addr} {len : Nat} (l : List α) (hl : l.length = len) (hc : ∀ i y, l[i]? = some y → ∀ j u, (enc y)[j]? = some u → w.cell? (x.add (i * k + j)) = some u) : RowS enc k w (some x) len l := by
  refine ⟨hl, by rw [flat_length hk, hl], fun hn => ?_⟩
  have hk0 : 0 < k := Nat.pos_of_mul_pos_left hn
  have hl0 : 0 < len := Nat.pos_of_mul_pos_right hn
  have key : ∀ q u, (flat enc l)[q]? = some u → w.cell? (x.add q) = some u := by
    intro q u hu
    have hq := (List.getElem?_eq_some_iff.1 hu).1
    rw [flat_length hk] at hq
    have hqk : q / k < l.length := Nat.div_lt_of_lt_mul (by rw [Nat.mul_comm]; exact hq)
    have hy : l[q / k]? = some l[q / k] := List.getElem?_eq_getElem hqk
    have he : q / k * k + q % k = q := by rw [Nat.mul_comm]; exact Nat.div_add_mod q k
    have h2 := flat_get hk hy (Nat.mod_lt q hk0)
    rw [he] at h2
    have := hc _ _ hy (q % k) u (by rw [← h2]; exact hu)
    rwa [he] at this
  have h0 : ∃ u, (flat enc l)[0]? = some u := ⟨_, List.getElem?_eq_getElem (by rw [flat_length hk, hl]; exact Nat.mul_pos hl0 hk0)⟩
  obtain ⟨u0, h0⟩ := h0
  have hx := key 0 u0 h0
  have hsp : x.spot = none := by
    cases hs : x.spot with
    | none => rfl
    | some s =>
      rw [show x.add 0 = x by unfold Addr.add; simp] at hx
      unfold World.cell? at hx
      split at hx <;> simp [hs] at hx
  obtain ⟨g, off, sp⟩ := x
  simp only at hsp
  subst hsp
  refine ⟨g, off, rfl, ?_, fun j u hu => by have := key j u hu; rwa [Addr.add_lit] at this⟩
  rw [Addr.add_lit] at hx
  exact World.block_lt_of_cell? w _ hx

theorem madeCells_flat {α : Type} {enc : α → List Value} {k : Nat} (hk : ∀ x, (enc x).length = k) (hk0 : 0 < k) (z : Array Value) (x0 : α) (hz : z.toList = enc x0) (n : Nat) : (madeCells z (n * k)).toList = flat enc (List.replicate n x0) := by
  have hzs : z.size = k := by rw [← hk x0, ← hz, Array.length_toList]
  apply List.ext_getElem?
  intro q
  by_cases hq : q < n * k
  · have hqk : q / k < n := Nat.div_lt_of_lt_mul (by rw [Nat.mul_comm]; exact hq)
    have he : q / k * k + q % k = q := by rw [Nat.mul_comm]; exact Nat.div_add_mod q k
    have h1 := flat_get hk (l := List.replicate n x0) (j := q / k) (x := x0) (by simp [hqk]) (Nat.mod_lt q hk0)
    rw [he] at h1
    rw [h1, ← hz]
    have hm : q % z.size < z.size := Nat.mod_lt _ (by omega)
    simp only [madeCells, Array.toList_map, Array.toList_range, List.getElem?_map, List.getElem?_range hq, Option.map_some, Array.getElem?_toList]
    rw [getElem!_pos z _ hm, ← hzs, Array.getElem?_eq_getElem hm]
  · rw [List.getElem?_eq_none (by simp [madeCells]; omega), List.getElem?_eq_none (by rw [flat_length hk, List.length_replicate]; omega)]

/-- 'make([]T, n)' for structs. -/
theorem wpList_make_S {P : Program} {α : Type} {w : World} {ops : Array Oper} {rest : List Oper} {o : Oper} {a : Act} {Q : Exit → Act → World → Prop} (hg : o.guard = none) (l c : Operand) (T : TypeId) (hop : o.op = Op.makeSlice T l c)
    (t : TypeId) (enc : α → List Value) (k : Nat) (hk : ∀ x, (enc x).length = k) (hk0 : 0 < k) (B : Nat) (i : TypeInfo) (z : Value) (x0 : α) (b : Nat) (h1 : P.underlying T = some (.slice t)) (h2 : P.info? t = some i) (h3 : i.zero = some z) (h4 : i.size = k) (hz : z.cells.toList = enc x0) (h5 : i.bytes = b)
    (L C : Int) (n : Nat) (hl : a.eval l = .int .i64 L) (hc : a.eval c = .int .i64 C) (hL : L = (n : Int)) (hC : C = (n : Int)) (b2 : b * n ≤ 281474976710656) (b3 : n ≤ 9223372036854775807) (b4 : B ≤ w.heap.size)
    (hK : ∀ w', OwnS t enc k w' B (some ⟨w.heap.size, 0, none⟩) n n (List.replicate n x0) → w.grownBy w' none → wpList P ops Q rest (a.put o.dst (.slice (some ⟨w.heap.size, 0, none⟩) n n)) w') : wpList P ops Q (o :: rest) a w := by
  refine wpList_make_full w hg l c T hop B t i z k h1 h2 h3 h4 .i64 .i64 L C n hl hc hL hC (by rw [h5]; exact b2) (by simp only [maxLen]; exact b3) b4 fun w' ho hgr => hK w' ⟨by simp, ?_⟩ hgr
  rw [madeCells_flat hk hk0 _ x0 hz] at ho
  exact ho

/-- One element of a fresh row turned, cell by cell. -/
theorem flat_set {α : Type} {enc : α → List Value} {k : Nat} (hk : ∀ x, (enc x).length = k) (l : List α) (i : Nat) (x : α) (hi : i < l.length) : flat enc (l.set i x) = (flat enc l).take (i * k) ++ (enc x ++ (flat enc l).drop ((i + 1) * k)) := by
  rw [flat_take hk, flat_drop hk, List.set_eq_take_append_cons_drop, if_pos hi]
  simp [flat]

/-- Cells written one behind the other. -/
def setFrom (xs : List Value) (j : Nat) : List Value → List Value
  | [] => xs
  | v :: vs => setFrom (xs.set j v) (j + 1) vs
def setCells (w : World) (g j : Nat) : List Value → World
  | [] => w
  | v :: vs => setCells (w.setCell ⟨g, j, none⟩ v) g (j + 1) vs

theorem setFrom_eq (vs : List Value) : ∀ (xs : List Value) (j : Nat), j + vs.length ≤ xs.length → setFrom xs j vs = xs.take j ++ (vs ++ xs.drop (j + vs.length)) := by
  induction vs with
  | nil => intro xs j _; simp [setFrom]
  | cons v vs ih =>
    intro xs j hj
    simp only [List.length_cons] at hj
    rw [setFrom, ih _ _ (by rw [List.length_set]; omega), List.take_set, List.drop_set_of_lt (by omega), List.set_eq_take_append_cons_drop, if_pos (by rw [List.length_take]; omega), List.take_take, Nat.min_eq_left (by omega), List.drop_take, show j + 1 - (j + 1) = 0 by omega]
    simp only [List.take_zero, List.length_cons, List.append_assoc, List.cons_append, List.nil_append]
    rw [show j + 1 + vs.length = j + (vs.length + 1) by omega]

theorem ownsRow_setCells {t : TypeId} {k g n c B : Nat} (vs : List Value) : ∀ (w : World) (xs : List Value) (j : Nat), w.ownsRow B t k (.slice (some ⟨g, 0, none⟩) n c) n xs → (setCells w g j vs).ownsRow B t k (.slice (some ⟨g, 0, none⟩) n c) n (setFrom xs j vs) := by
  induction vs with
  | nil => intro w xs j h; exact h
  | cons v vs ih =>
    intro w xs j h
    refine ih _ _ _ ?_
    rcases h.2 with ⟨e, _⟩ | ⟨g', cap, cur, e, hB, hh, h1, h2, h3, h4⟩
    · cases e
    · injection e with e1 _ e3
      simp only [Option.some.injEq, Addr.mk.injEq, and_true] at e1
      subst e1 e3
      refine ⟨by rw [List.length_set]; exact h.1, .inr ⟨g, c, cur.setIfInBounds j v, rfl, hB, ?_, h1, h2, by simpa using h3, ?_⟩⟩
      · simp [World.setCell, Array.getElem?_modify, hh]
      · rw [← h4]
        simp [List.take_set]

section
variable {α : Type} {t : TypeId} {enc : α → List Value} {k : Nat} {w : World} {B g n c : Nat} {l : List α}
/-- A store of one element into a fresh row. -/
theorem ownS_store (hk : ∀ x, (enc x).length = k) (h : OwnS t enc k w B (some ⟨g, 0, none⟩) n c l) {i : Nat} (hi : i < n) (x : α) : OwnS t enc k (setCells w g (i * k) (enc x)) B (some ⟨g, 0, none⟩) n c (l.set i x) := by
  refine ⟨by rw [List.length_set]; exact h.1, ?_⟩
  have h1 := ownsRow_setCells (enc x) w (flat enc l) (i * k) h.2
  have hl := h.1
  have hik : (i + 1) * k ≤ n * k := Nat.mul_le_mul_right k (by omega)
  rw [Nat.succ_mul] at hik
  rw [setFrom_eq _ _ _ (by rw [hk, flat_length hk, hl]; exact hik), hk, ← Nat.succ_mul, ← flat_set hk l i x (by omega)] at h1
  exact h1
theorem OwnS.thaw (h : OwnS t enc k w B (some ⟨g, 0, none⟩) n c l) (o : Nat) : w.frozen? ⟨g, o, none⟩ = false := by
  rcases h.shape with ⟨e, _⟩ | ⟨g', cur, e, _, _, hh, _⟩
  · cases e
  · simp only [Option.some.injEq, Addr.mk.injEq, and_true] at e
    subst e
    simp [World.frozen?, hh]
end
theorem setCells_below {w0 : World} {B g : Nat} (hg : B ≤ g) (vs : List Value) : ∀ (w : World) (j : Nat), Below B w0 w → Below B w0 (setCells w g j vs) := by
  induction vs with
  | nil => intro w j h; exact h
  | cons v vs ih => intro w j h; exact ih _ _ (h.setCell (p := ⟨g, j, none⟩) hg v)
theorem setCells_block {g q : Nat} (hq : q ≠ g) (vs : List Value) : ∀ (w : World) (j : Nat), (setCells w g j vs).heap[q]? = w.heap[q]? := by
  induction vs with
  | nil => intro w j; rfl
  | cons v vs ih => intro w j; exact (ih _ _).trans (Below.heap_setCell w _ v q hq)
theorem setCells_size (g : Nat) (vs : List Value) : ∀ (w : World) (j : Nat), (setCells w g j vs).heap.size = w.heap.size := by
  induction vs with
  | nil => intro w j; rfl
  | cons v vs ih => intro w j; exact (ih _ _).trans (by simp [World.setCell])

/-- The append of elements, as one step of a region that draws its order. -/
theorem step_append_rowS {P : Program} {α : Type} {w : World} {ops : Array Oper} {o : Oper} {a : Act} {K : Act → World → Prop} {Q : Exit → Act → World → Prop} {E : Prop} (hgd : o.guard = none) (s x : Operand) (T : TypeId)
    (ho : o.op = .call { callee := .builtin .append, args := #[s, x], argTypes := #[T, T] }) (t : TypeId) (enc : α → List Value) (k : Nat) (hk : ∀ x, (enc x).length = k) (hk0 : 0 < k) (h1 : ∀ x, ∀ u ∈ enc x, u.oneCell' = true)
    (base : Nat) (i : TypeInfo) (z : Value) (b : Nat) (ht : P.underlying T = some (.slice t)) (hi : P.info? t = some i) (hz : i.zero = some z) (hs : i.size = k) (hzs : z.cells.size = k) (hby : i.bytes = b)
    (A : Option Addr) (n c : Nat) (l : List α) (hes : a.eval s = .slice A n c) (hown : OwnS t enc k w base A n c l) (A' : Option Addr) (n' c' : Nat) (l' : List α) (hex : a.eval x = .slice A' n' c') (hr : RowS enc k w A' n' l')
    (hb : (n + n') * b ≤ 140737488355328) (hm : n + n' ≤ 140737488355328) (hbase : base ≤ w.heap.size)
    (h : ∀ A2 c2 w', OwnS t enc k w' base A2 (n + n') c2 (l ++ l') → w.grownBy w' (blockOf A) → K (a.put o.dst (.slice A2 (n + n') c2)) w') : if Region.wanted o (yielded ops a.tmps) = true then Oper.wp P o a w K Q else E := by
  have hw : Region.wanted o (yielded ops a.tmps) = true := by simp [Region.wanted, hgd]
  rw [if_pos hw]
  obtain ⟨A2, c2, w', hrun, h2, h3⟩ := run_append_rowS (P := P) w t enc k hk hk0 h1 base T o.type i z b ht hi hz hs hzs hby A n c l hown A' n' c' l' hr hb hm hbase
  unfold Oper.wp execOp
  simp only [ho, resolve, invoke, builtin, Sem.run_bind, Sem.run_pure, Result.andThen_ok, List.map_toArray, List.map_cons, List.map_nil, hes, hex, hrun]
  exact h A2 c2 w' h2 h3

end Go.Proofs.Ytlcnonhebppeiaa

/- Words for slices of numbers of any kind: what comes in, make, a store, slices.Equal of ints. -/
namespace Go.Proofs.Ytlcnonhebppeiaa
open Go.RowKit Go.ChangeShapes Go.WideShapes Go.ChangeAt
set_option linter.unusedVariables false

/-- All are numbers of the kind. -/
def Wf (k : IntKind) (zs : List Int) : Prop := ∀ x ∈ zs, (Lit.int k x).wf = true

set_option maxRecDepth 100000 in
theorem open_nums {T e : TypeId} {k : IntKind} (hT : Try.prog.underlying T = some (.slice e)) (he : Try.prog.underlying e = some (.int k)) (h1 : Try.prog.cellsOf e = 1) {H : Type} {enc : TypeId × Value → H} {W : World} {base : Nat} {v : Value} {d : DataW H} {p : List MemPlace} (hv : Value.okWide Try.prog W .any base T v) (h : DataW.Trod enc Try.prog W 0 (fun _ => true) true T v d p) :
    ∃ A n c zs, v = .slice A n c ∧ Row W A n (cellsOf k zs) ∧ Wf k zs ∧ n ≤ 9223372036854775807 ∧ n ≤ c := by
  obtain ⟨a, len, cap, rfl⟩ := okWide_slice hT hv
  obtain ⟨fuel, hf⟩ := h
  have key : ∃ zs, (a = none ∧ len = 0 ∧ cap = 0 ∧ zs = []) ∨ ∃ x, a = some x ∧ len ≤ cap ∧ cap ≤ maxLen ∧ zs.length = cap ∧ (∀ i, i < zs.length → W.cell? (x.add i) = some (.int k (zs.getD i 0))) ∧ ∀ n ∈ zs, (Lit.int k n).wf = true := by
    rcases open_ints hT he h1 hf with ⟨hcs, _⟩ | ⟨x, l, c, zs, hcs, _, hl, hm, hz, _, hcell, hwz⟩
    · simp [Value.cells] at hcs
      obtain ⟨rfl, rfl, rfl⟩ := hcs
      exact ⟨[], .inl ⟨rfl, rfl, rfl, rfl⟩⟩
    · simp [Value.cells] at hcs
      obtain ⟨rfl, rfl, rfl⟩ := hcs
      exact ⟨zs, .inr ⟨_, rfl, hl, hm, by simpa using hz, hcell, hwz⟩⟩
  obtain ⟨zs, w0⟩ := key
  refine ⟨a, len, cap, zs.take len, rfl, (row_of w0).1, (row_of w0).2.2, (row_of w0).2.1, ?_⟩
  rcases w0 with ⟨_, h1, h2, _⟩ | ⟨_, _, h, _⟩
  · omega
  · exact h

theorem cellsOf_set (k : IntKind) (zs : List Int) (j : Nat) (x : Int) : cellsOf k (zs.set j x) = (cellsOf k zs).set j (.int k x) := by simp [cellsOf, List.map_set]

section
variable {t : TypeId} {k : IntKind} {w : World} {B g n c : Nat} {zs : List Int}

theorem Own.thaw (h : Own t k w B (some ⟨g, 0, none⟩) n c zs) (o : Nat) : w.frozen? ⟨g, o, none⟩ = false := by
  rcases h.shape with ⟨e, _⟩ | ⟨g', cur, e, _, _, hh, _⟩
  · cases e
  · simp only [Option.some.injEq, Addr.mk.injEq, and_true] at e
    subst e
    simp [World.frozen?, hh]

theorem Own.block (h : Own t k w B (some ⟨g, 0, none⟩) n c zs) : ∃ cur, w.heap[g]? = some (.cells cur t (0, 0)) := by
  rcases h.shape with ⟨e, _⟩ | ⟨g', cur, e, _, _, hh, _⟩
  · cases e
  · simp only [Option.some.injEq, Addr.mk.injEq, and_true] at e
    subst e
    exact ⟨cur, hh⟩

/-- A store into a fresh row of numbers. -/
theorem Own.set (h : Own t k w B (some ⟨g, 0, none⟩) n c zs) (j : Nat) (x : Int) : Own t k (w.setCell ⟨g, j, none⟩ (.int k x)) B (some ⟨g, 0, none⟩) n c (zs.set j x) := by
  rcases h.shape with ⟨e, _⟩ | ⟨g', cur, e, hB, hg, hh, h1, h2, h3, h4⟩
  · cases e
  · simp only [Option.some.injEq, Addr.mk.injEq, and_true] at e
    subst e
    have hl := h.len
    refine ⟨by rw [cellsOf_length, List.length_set, hl]; omega, .inr ⟨g, c, cur.setIfInBounds j (.int k x), rfl, hB, ?_, h1, h2, by simpa using h3, ?_⟩⟩
    · simp [World.setCell, Array.getElem?_modify, hh]
    · rw [cellsOf_set, ← h4, Nat.mul_one]
      simp [List.take_set]
end

/-- 'make([]T, n, m)' for numbers. -/
theorem wpList_make_ints {P : Program} {w : World} {ops : Array Oper} {rest : List Oper} {o : Oper} {a : Act} {Q : Exit → Act → World → Prop} (hg : o.guard = none) (l c : Operand) (T : TypeId) (hop : o.op = Op.makeSlice T l c)
    (t : TypeId) (k : IntKind) (B : Nat) (i : TypeInfo) (b : Nat) (h1 : P.underlying T = some (.slice t)) (h2 : P.info? t = some i) (h3 : i.zero = some (.int k 0)) (h4 : i.size = 1) (h5 : i.bytes = b)
    (L C : Int) (n m : Nat) (hl : a.eval l = .int .i64 L) (hc : a.eval c = .int .i64 C) (hL : L = (n : Int)) (hC : C = (m : Int)) (hnm : n ≤ m) (b2 : b * m ≤ 281474976710656) (b3 : m ≤ 9223372036854775807) (b4 : B ≤ w.heap.size)
    (hK : ∀ w', Own t k w' B (some ⟨w.heap.size, 0, none⟩) n m (List.replicate n 0) → w.grownBy w' none → wpList P ops Q rest (a.put o.dst (.slice (some ⟨w.heap.size, 0, none⟩) n m)) w') : wpList P ops Q (o :: rest) a w := by
  refine wpList_plain hg fun K hK' => ?_
  subst hL hC h5
  have hb' : (i.bytes : Int) * (m : Int) ≤ 281474976710656 := by
    have h : ((i.bytes * m : Nat) : Int) ≤ 281474976710656 := by omega
    rwa [Int.natCast_mul] at h
  have hr := run_make (P := P) w T t i (.int k 0) h1 h2 h3 .i64 .i64 n m (by omega) (by omega) hb' (by omega)
  simp only [Int.toNat_natCast, h4, Nat.mul_one] at hr
  unfold Oper.wp
  simp [execOp, hop, hl, hc, hr, Result.andThen]
  refine hK' _ _ (hK _ ?_ (World.grownBy_alloc w _ none))
  refine ⟨by rw [cellsOf_length, List.length_replicate]; omega, .inr ⟨w.heap.size, m, _, rfl, b4, heap_alloc_new w _, hnm, by simp only [maxLen]; omega, by rw [size_madeCells, Nat.mul_one], ?_⟩⟩
  rw [Nat.mul_one]
  apply List.ext_getElem?
  intro j
  by_cases hj : j < n
  · simp [madeCells, cellsOf, hj, Nat.mod_one, Value.cells, show j < m by omega]
  · simp [List.getElem?_take, hj, cellsOf]

theorem Try.i64info : (Try.prog.info? 3).map (fun i => (i.zero, i.size, i.bytes)) = some (some (.int .i64 0), 1, 8) := by kernel_rfl

/-- What a call that tells fresh numbers, or that there are none, leaves. -/
def RetPl (w : World) (ok : Bool) (zs : List Int) (bad good : Value) (e : Ending) (w' : World) : Prop :=
  Below w.heap.size w w' ∧ ((ok = false ∧ e = .returned (.tuple #[.slice none 0 0, bad])) ∨ (ok = true ∧ ∃ A n c, e = .returned (.tuple #[.slice A n c, good]) ∧ Own 3 .i64 w' w.heap.size A n c zs))

end Go.Proofs.Ytlcnonhebppeiaa

/- A region that draws its order, whose operations read and whose calls make memory of their own and answer values: walked once. -/
namespace Go.Proofs.Ytlcnonhebppeiaa
open Go.RowKit
set_option linter.unusedVariables false

/-- w with blocks behind it, at another place of the tape. -/
def gw (w : World) (n : Nat) (os : Array Obj) : World := { w with heap := w.heap ++ os, drawn := n }

theorem gw_size (w : World) (n : Nat) (os : Array Obj) : w.heap.size ≤ (gw w n os).heap.size := by simp [gw]

theorem gw_below (w : World) (n : Nat) (os : Array Obj) : Below w.heap.size w (gw w n os) :=
  ⟨rfl, rfl, rfl, gw_size w n os, fun k hk => by simp [gw, Array.getElem?_append, hk]⟩

theorem below_gw {w w' : World} (h : Below w.heap.size w w') : ∃ p : GrownBy, w' = gw w p.n p.os := by
  refine ⟨⟨w'.drawn, w'.heap.extract w.heap.size w'.heap.size⟩, ?_⟩
  obtain ⟨h1, h2, h3, h4, h5⟩ := h
  cases w'
  cases w
  simp only [gw, World.mk.injEq] at *
  subst h1 h2 h3
  simp only [and_true]
  rename_i heap' _ heap _ _ _ _
  apply Array.ext_getElem?
  intro i
  rw [Array.getElem?_append]
  split
  · rename_i hi; exact h5 i hi
  · rename_i hi
    rw [Array.getElem?_extract]
    split
    · congr 1; omega
    · rw [Array.getElem?_eq_none (by omega)]

theorem gw_cell {w : World} {a : Addr} {v : Value} (h : w.cell? a = some v) (n : Nat) (os : Array Obj) : (gw w n os).cell? a = some v := by
  have hb : a.block < w.heap.size := World.block_lt_of_cell? w _ h
  exact (World.cell?_of_block (w := w) ((gw_below w n os).block _ hb)).trans h

theorem gw_frozen {w : World} {a : Addr} (hb : a.block < w.heap.size) (n : Nat) (os : Array Obj) : (gw w n os).frozen? a = w.frozen? a := (gw_below w n os).frozen hb

theorem region_below {P : Program} {id : Nat} {Q : Exit → Act → World → Prop} {a : Act} {w : World} {l : List Oper} (hm : P.follows .mixedOrders = true) (hB : Region.lexB .any l.toArray = true)
    (h : wpQuiet P l.toArray (fun w' => ∃ p : GrownBy, w' = gw w p.n p.os) (fun a' => ∀ w', (∃ p : GrownBy, w' = gw w p.n p.os) → Q .normal a' w') l a) : (Code.region id l.toArray true).wp P Q a w :=
  wp_region_quiet (C := fun w' => ∃ p : GrownBy, w' = gw w p.n p.os) hm hB ⟨⟨w.drawn + 1, #[]⟩, by simp [gw]⟩ (by simpa using h)

theorem calls_gw {P : Program} {f : FuncId} {args : Array Value} {w : World} {n : Nat} {os : Array Obj} {v : Value}
    (h : Calls P f args (gw w n os) fun e w' => e = .returned v ∧ Below (gw w n os).heap.size (gw w n os) w') : Calls P f args (gw w n os) fun e w'' => e = .returned v ∧ ∃ p : GrownBy, w'' = gw w p.n p.os :=
  h.mono fun _ _ ⟨he, hb⟩ => ⟨he, below_gw ((gw_below w n os).trans (hb.mono (gw_size w n os)))⟩

theorem calls_gw_same {P : Program} {f : FuncId} {args : Array Value} {w : World} {n : Nat} {os : Array Obj} {v : Value}
    (h : Calls P f args (gw w n os) fun e w' => e = .returned v ∧ w' = gw w n os) : Calls P f args (gw w n os) fun e w'' => e = .returned v ∧ ∃ p : GrownBy, w'' = gw w p.n p.os :=
  h.mono fun _ _ ⟨he, hb⟩ => ⟨he, ⟨n, os⟩, hb⟩

end Go.Proofs.Ytlcnonhebppeiaa

/- All cells of a block of fourteen at once. -/
namespace Go.Proofs.Ytlcnonhebppeiaa
open Go.RowKit
set_option linter.unusedVariables false

theorem cells14 {w : World} {b t : Nat} {v0 v1 v2 v3 v4 v5 v6 v7 v8 v9 v10 v11 v12 v13 : Value} (h : w.heap[b]? = some (.cells #[v0, v1, v2, v3, v4, v5, v6, v7, v8, v9, v10, v11, v12, v13] t (0, 0))) :
    w.cell? ⟨b, 0, none⟩ = some v0 ∧ w.cell? ⟨b, 1, none⟩ = some v1 ∧ w.cell? ⟨b, 2, none⟩ = some v2 ∧ w.cell? ⟨b, 3, none⟩ = some v3 ∧ w.cell? ⟨b, 4, none⟩ = some v4 ∧ w.cell? ⟨b, 5, none⟩ = some v5 ∧ w.cell? ⟨b, 6, none⟩ = some v6 ∧ w.cell? ⟨b, 7, none⟩ = some v7 ∧ w.cell? ⟨b, 8, none⟩ = some v8 ∧ w.cell? ⟨b, 9, none⟩ = some v9 ∧ w.cell? ⟨b, 10, none⟩ = some v10 ∧ w.cell? ⟨b, 11, none⟩ = some v11 ∧ w.cell? ⟨b, 12, none⟩ = some v12 ∧ w.cell? ⟨b, 13, none⟩ = some v13 :=
  ⟨cell_of_row w b 0 _ t (0, 0) h, cell_of_row w b 1 _ t (0, 0) h, cell_of_row w b 2 _ t (0, 0) h, cell_of_row w b 3 _ t (0, 0) h, cell_of_row w b 4 _ t (0, 0) h, cell_of_row w b 5 _ t (0, 0) h, cell_of_row w b 6 _ t (0, 0) h, cell_of_row w b 7 _ t (0, 0) h, cell_of_row w b 8 _ t (0, 0) h, cell_of_row w b 9 _ t (0, 0) h, cell_of_row w b 10 _ t (0, 0) h, cell_of_row w b 11 _ t (0, 0) h, cell_of_row w b 12 _ t (0, 0) h, cell_of_row w b 13 _ t (0, 0) h⟩

/-- What stands behind a call that turns nothing old. -/
theorem kept_block {w w' : World} {b : Nat} {o : Obj} (h : w.heap[b]? = some o) (hb : Below w.heap.size w w') : w'.heap[b]? = some o := (hb.block _ (lt_of_block h)).trans h

theorem kept_alloc {w : World} {b : Nat} {o : Obj} (h : w.heap[b]? = some o) (o' : Obj) : (w.alloc o').heap[b]? = some o := kept_block h ((Below.refl _ _).alloc (Nat.le_refl _) o')

theorem thawed {w : World} {b t : Nat} {cs : Array Value} (h : w.heap[b]? = some (.cells cs t (0, 0))) (o : Nat) : w.frozen? ⟨b, o, none⟩ = false := by simp [World.frozen?, h]

end Go.Proofs.Ytlcnonhebppeiaa

/- simple: its small functions, changes and Right, as contracts over this seat's translation. -/
namespace Go.Proofs.Ytlcnonhebppeiaa
open Go.RowKit
set_option linter.unusedVariables false

def encSp (p : Sp) : List Value := [.int .i16 p.1, .int .i16 p.2.1, .bool p.2.2]
theorem encSp_len (p : Sp) : (encSp p).length = 3 := rfl
theorem encSp_one (p : Sp) : ∀ u ∈ encSp p, u.oneCell' = true := by intro u hu; simp [encSp] at hu; rcases hu with rfl | rfl | rfl <;> rfl
theorem Try.spinfo : (Try.prog.info? 60).map (fun i => (i.zero, i.size, i.bytes)) = some (some (.agg #[.int .i16 0, .int .i16 0, .bool false]), 3, 6) := by kernel_rfl

theorem atSp {w : World} {A : Option Addr} {n : Nat} {l : List Sp} {j : Nat} {x : Sp} (h : RowS encSp 3 w A n l) (hj : l[j]? = some x) :
    ∃ g off, A = some ⟨g, off, none⟩ ∧ g < w.heap.size ∧ w.cell? ⟨g, off + j * 3, none⟩ = some (.int .i16 x.1) ∧ w.cell? ⟨g, off + j * 3 + 1, none⟩ = some (.int .i16 x.2.1) ∧ w.cell? ⟨g, off + j * 3 + 2, none⟩ = some (.bool x.2.2) := by
  obtain ⟨g, off, e, hg, hc⟩ := h.at encSp_len (by omega) hj
  exact ⟨g, off, e, hg, hc 0 _ rfl, hc 1 _ rfl, hc 2 _ rfl⟩

/-- All numbers of an outline are of their kinds. -/
structure Gl.ok (g : Gl) : Prop where
  bx : ∀ x ∈ g.box, -32768 ≤ x ∧ x ≤ 32767
  es : ∀ x ∈ g.es, 0 ≤ x ∧ x < 65536
  pr : Bytes g.pr
  ps : ∀ p ∈ g.ps, (-32768 ≤ p.1 ∧ p.1 ≤ 32767) ∧ (-32768 ≤ p.2.1 ∧ p.2.1 ≤ 32767)

/-- An outline as a value, and where its lists lie. -/
structure GlV where
  g : Gl
  EA : Option Addr
  en : Nat
  ec : Nat
  PA : Option Addr
  pn : Nat
  pc : Nat
  SA : Option Addr
  sn : Nat
  sc : Nat
def GlV.cells (v : GlV) : Array Value := #[.int .i16 v.g.x0, .int .i16 v.g.x1, .int .i16 v.g.x2, .int .i16 v.g.x3, .slice v.EA v.en v.ec, .slice v.PA v.pn v.pc, .slice v.SA v.sn v.sc]
def GlV.val (v : GlV) : Value := .agg v.cells
structure GlV.rows (w : World) (v : GlV) : Prop where
  es : Row w v.EA v.en (cellsOf .u16 v.g.es)
  pr : Row w v.PA v.pn (cellsOf .u8 v.g.pr)
  ps : RowS encSp 3 w v.SA v.sn v.g.ps
theorem GlV.rows.below {w w' : World} {v : GlV} (h : v.rows w) (hb : Below w.heap.size w w') : v.rows w' := ⟨h.es.below hb, h.pr.below hb, h.ps.below hb⟩
/-- None of the lists is too long. -/
structure GlV.few (v : GlV) : Prop where
  en : v.en ≤ 10000
  pn : v.pn ≤ 10000
  sn : v.sn ≤ 10000

theorem ofits_any (d : Int) (w : World) : Calls Try.prog 58 #[.int .i64 d] w fun e w' => e = .returned (.bool (fitsB d)) ∧ w = w' := by
  unfold fitsB
  cases h1 : decide (-32768 ≤ d) <;> cases h2 : decide (d ≤ 32767)
  all_goals
    go_enter Try.func58, Try.ntmps58
    go_wp2
    go_ret
    exact ⟨rfl, rfl⟩

theorem ofar_any (d : Int) (w : World) : Calls Try.prog 57 #[.int .i64 d] w fun e w' => e = .returned (.bool (!fitsB d)) ∧ w = w' := by
  have H := Lib.hid (ofits_any d w)
  go_enter Try.func57, Try.ntmps57
  go_wp2_with fail
  refine H.out.mono ?_
  rintro e w' ⟨rfl, rfl⟩
  cases hb : fitsB d
  all_goals
    go_wp2
    go_ret
    exact ⟨by rw [hb]; rfl, rfl⟩

def shortB (d : Int) : Bool := decide (-255 ≤ d) && decide (d ≤ 255)
theorem oshort_any (d : Int) (w : World) : Calls Try.prog 92 #[.int .i64 d] w fun e w' => e = .returned (.bool (shortB d)) ∧ w = w' := by
  unfold shortB
  cases h1 : decide (-255 ≤ d) <;> cases h2 : decide (d ≤ 255)
  all_goals
    go_enter Try.func92, Try.ntmps92
    go_wp2
    go_ret
    exact ⟨rfl, rfl⟩
theorem shortB_eq (d : Int) : shortB d = decide (-255 ≤ d ∧ d ≤ 255) := by
  unfold shortB
  by_cases h1 : -255 ≤ d <;> by_cases h2 : d ≤ 255 <;> simp [h1, h2]

theorem obits_any (d sh pl : Int) (w : World) (hor : bits .or .u8 sh pl = sh + pl) : Calls Try.prog 50 #[.int .i64 d, .int .u8 sh, .int .u8 pl] w fun e w' => e = .returned (.int .u8 (bitsV d sh pl)) ∧ w = w' := by
  have H := Lib.hid (oshort_any d w)
  have Hor := Lib.hid hor
  clear hor
  by_cases h0 : d = 0
  · have HV : Hid (bitsV d sh pl = pl) := by show _ = _; unfold bitsV; rw [if_pos h0]
    rw [HV.out]
    have hd : (d == 0) = true := by simp [h0]
    clear h0
    go_enter Try.func50, Try.ntmps50
    go_wp2
    go_ret
    exact ⟨rfl, rfl⟩
  · have hd : (d == 0) = false := by simp [h0]
    by_cases hs : -255 ≤ d ∧ d ≤ 255
    · have HS : Hid (shortB d = true) := by show _ = _; rw [shortB_eq, decide_eq_true hs]
      by_cases hp : 0 < d
      · have HV : Hid (bitsV d sh pl = sh + pl) := by show _ = _; unfold bitsV; rw [if_neg h0, if_pos hs, if_pos hp]
        rw [HV.out]
        clear hs h0
        go_enter Try.func50, Try.ntmps50
        go_wp2_with fail
        refine H.out.mono ?_
        rintro e w' ⟨rfl, rfl⟩
        rw [HS.out]
        go_wp2
        go_ret
        rw [Hor.out]
        exact ⟨rfl, rfl⟩
      · have HV : Hid (bitsV d sh pl = sh) := by show _ = _; unfold bitsV; rw [if_neg h0, if_pos hs, if_neg hp]
        rw [HV.out]
        clear hs h0
        go_enter Try.func50, Try.ntmps50
        go_wp2_with fail
        refine H.out.mono ?_
        rintro e w' ⟨rfl, rfl⟩
        rw [HS.out]
        go_wp2
        go_ret
        exact ⟨rfl, rfl⟩
    · have HS : Hid (shortB d = false) := by show _ = _; rw [shortB_eq, decide_eq_false hs]
      have HV : Hid (bitsV d sh pl = 0) := by show _ = _; unfold bitsV; rw [if_neg h0, if_neg hs]
      rw [HV.out]
      clear hs h0
      go_enter Try.func50, Try.ntmps50
      go_wp2_with fail
      refine H.out.mono ?_
      rintro e w' ⟨rfl, rfl⟩
      rw [HS.out]
      go_wp2
      go_ret
      exact ⟨rfl, rfl⟩

theorem oalongX_any (p : Sp) (w : World) : Calls Try.prog 48 #[.agg #[.int .i16 p.1, .int .i16 p.2.1, .bool p.2.2]] w (Ret w (.int .i16 p.1)) := by
  obtain ⟨x, y, o⟩ := p
  have hA := (Below.refl w.heap.size w).alloc (Nat.le_refl _) (.cells #[.int .i16 x, .int .i16 y, .bool o] 60)
  go_enter Try.func48, Try.ntmps48
  go_wp2
  go_ret
  exact ⟨rfl, hA⟩
theorem oalongY_any (p : Sp) (w : World) : Calls Try.prog 49 #[.agg #[.int .i16 p.1, .int .i16 p.2.1, .bool p.2.2]] w (Ret w (.int .i16 p.2.1)) := by
  obtain ⟨x, y, o⟩ := p
  have hA := (Below.refl w.heap.size w).alloc (Nat.le_refl _) (.cells #[.int .i16 x, .int .i16 y, .bool o] 60)
  go_enter Try.func49, Try.ntmps49
  go_wp2
  go_ret
  exact ⟨rfl, hA⟩

set_option maxHeartbeats 1000000 in
theorem orise_any (A : Option Addr) (n c : Nat) (l : List Int) (w : World) (hr : Row w A n (cellsOf .u16 l)) (hn : n ≤ 1000000) :
    Calls Try.prog 55 #[.slice A n c] w fun e w' => e = .returned (.bool (riseN l n)) ∧ w = w' := by
  have Hl := Lib.hid hr.len
  go_enter Try.func55, Try.ntmps55
  go_wp2
  go_loop [7] (fun i => ∃ k : Nat, k ≤ n ∧ i = .int .i64 k ∧ Hid (riseN l k = true)) (fun i => n - (intOf i).toNat)
  case atStart => exact ⟨0, Nat.zero_le _, rfl, Lib.hid rfl⟩
  case round =>
    obtain ⟨k, hk, rfl, HR⟩ := hrel
    by_cases hlt : k < n
    · obtain ⟨x, hx⟩ := get_some (zs := l) (k := k) (by have := Hl.out; omega)
      obtain ⟨g, off, rfl, hg, hc⟩ := hr.at (cellsOf_get (k := .u16) hx)
      rcases Nat.eq_zero_or_pos k with h0 | h0
      · subst h0
        have HT : Hid (riseN l (0 + 1) = true) := by show _ = _; rw [riseN_succ, HR.out]; rfl
        rw [Nat.add_zero] at hc
        clear hx HR
        go_wp2
        go_round
        case rel => exact ⟨1, by omega, by go_num, HT⟩
        case measure => simp [intOf]; omega
      · obtain ⟨m, rfl⟩ : ∃ m, k = m + 1 := ⟨k - 1, by omega⟩
        obtain ⟨y, hy⟩ := get_some (zs := l) (k := m) (by have := Hl.out; omega)
        obtain ⟨g', off', e', _, hc'⟩ := hr.at (cellsOf_get (k := .u16) hy)
        simp only [Option.some.injEq, Addr.mk.injEq, and_true] at e'
        obtain ⟨rfl, rfl⟩ := e'
        have e2 : ((m : Int) + 1 - 1) = (m : Int) := by omega
        have HA : Hid (riseA l (m + 1) = decide (y < x)) := by
          show _ = _
          unfold riseA
          rw [decide_eq_false (by omega), Bool.false_or, List.getD_eq_getElem?_getD, List.getD_eq_getElem?_getD, hx, Nat.add_sub_cancel, hy]
          rfl
        clear hx hy
        by_cases hxy : x ≤ y
        · have HF : Hid (riseN l n = false) := riseN_not (by rw [HA.out, decide_eq_false (by omega)]) hlt
          clear HA HR
          go_wp2
          go_ret
          exact ⟨by rw [HF.out]; rfl, rfl⟩
        · have HT : Hid (riseN l (m + 1 + 1) = true) := by show _ = _; rw [riseN_succ, HR.out, HA.out, decide_eq_true (by omega)]; rfl
          clear HA HR
          go_wp2
          go_round
          case rel => exact ⟨m + 1 + 1, by omega, by go_num, HT⟩
          case measure => simp [intOf]; omega
    · obtain rfl : k = n := by omega
      go_wp2
      go_ret
      exact ⟨by rw [HR.out]; rfl, rfl⟩

set_option maxHeartbeats 1000000 in
theorem ocount_any (v : GlV) (w : World) (hr : v.rows w) (hn : v.en ≤ 1000000) (hes : ∀ x ∈ v.g.es, 0 ≤ x ∧ x < 65536) :
    Calls Try.prog 56 #[v.val] w (Ret w (.int .i64 (cntE v.g.es : Nat))) := by
  have hA := (Below.refl w.heap.size w).alloc (Nat.le_refl _) (.cells v.cells 29)
  have hre := hr.es
  have Hl := Lib.hid hre.len
  unfold GlV.val GlV.cells
  unfold GlV.cells at hA
  clear hr
  obtain ⟨⟨x0, x1, x2, x3, es, pr, ps⟩, EA, en, ec, PA, pn, pc, SA, sn, sc⟩ := v
  simp only at *
  rcases Nat.eq_zero_or_pos en with h0 | h0
  · subst h0
    have HC : Hid (cntE es = 0) := by show _ = _; unfold cntE; rw [if_pos Hl.out]
    rw [HC.out]
    go_enter Try.func56, Try.ntmps56
    go_wp2
    go_ret
    exact ⟨rfl, hA⟩
  · obtain ⟨m, rfl⟩ : ∃ m, en = m + 1 := ⟨en - 1, by omega⟩
    obtain ⟨x, hx⟩ := get_some (zs := es) (k := m) (by have := Hl.out; omega)
    obtain ⟨g, off, rfl, hg, hc⟩ := hre.at (cellsOf_get (k := .u16) hx)
    obtain ⟨b0, b1⟩ := hes x (List.mem_of_getElem? hx)
    have HC : Hid (((cntE es : Nat) : Int) = x + 1) := by
      show _ = _
      unfold cntE
      rw [if_neg (by have := Hl.out; omega), List.getD_eq_getElem?_getD, show es.length - 1 = m by have := Hl.out; omega, hx]
      simp
      omega
    rw [HC.out]
    have e2 : ((m : Int) + 1 - 1) = (m : Int) := by omega
    have hd : ((m : Int) + 1 == 0) = false := by simp; omega
    have hgn : g ≠ w.heap.size := by omega
    clear hx hes hre
    go_enter Try.func56, Try.ntmps56
    go_wp2
    go_ret
    exact ⟨rfl, hA⟩

set_option maxHeartbeats 1000000 in
theorem oindex_any (A : Option Addr) (n c : Nat) (l : List Int) (w : World) (hr : Row w A n (cellsOf .i64 l)) (hn : n ≤ 1000000) :
    Calls Try.prog 95 #[.slice A n c, .func (.func 57) #[] #[]] w fun e w' => (∃ r : Int, e = .returned (.int .i64 r) ∧ decide (0 ≤ r) = !fitL l) ∧ w = w' := by
  have Hl := Lib.hid hr.len
  have eg : ∀ args w, (callFunc 57 args).run Try.prog w = .ok (.enter 57 args) w := enters_of Try.func57 (by kernel_rfl) rfl
  go_enter Try.func95, Try.ntmps95
  go_wp2
  go_loop [8] (fun i => ∃ k : Nat, k ≤ n ∧ i = .int .i64 k ∧ Hid (fitL (l.take k) = true)) (fun i => n - (intOf i).toNat)
  case atStart => exact ⟨0, Nat.zero_le _, rfl, Lib.hid rfl⟩
  case round =>
    obtain ⟨k, hk, rfl, HR⟩ := hrel
    by_cases hlt : k < n
    · obtain ⟨x, hx⟩ := get_some (zs := l) (k := k) (by have := Hl.out; omega)
      obtain ⟨g, off, rfl, hg, hc⟩ := hr.at (cellsOf_get (k := .i64) hx)
      have HS : Hid (fitL (l.take (k + 1)) = fitsB x) := by
        have h1 := HR.out
        show _ = _
        unfold fitL at *
        rw [List.take_add_one, hx, List.all_append, h1]
        simp
      have HN : Hid (fitsB x = false → fitL l = false) := fun h => by
        unfold fitL
        rw [List.all_eq_false]
        exact ⟨x, List.mem_of_getElem? hx, by rw [h]; simp⟩
      have HF := Lib.hid (ofar_any x w)
      clear hx HR
      go_wp2_with fail
      refine HF.out.mono ?_
      rintro e w' ⟨rfl, rfl⟩
      cases hb : fitsB x with
      | false =>
        have HN2 := Lib.hid (HN.out hb)
        clear HN HS hb HF
        go_wp2
        go_ret
        exact ⟨⟨k, rfl, by rw [HN2.out]; simp⟩, rfl⟩
      | true =>
        rw [hb] at HS
        clear HN hb HF
        go_wp2
        go_round
        case rel => exact ⟨k + 1, by omega, by go_num, HS⟩
        case measure => simp [intOf]; omega
    · obtain rfl : k = n := by omega
      rw [List.take_of_length_le (by have := Hl.out; omega)] at HR
      go_wp2
      go_ret
      exact ⟨⟨-1, rfl, by rw [HR.out]; rfl⟩, rfl⟩

theorem ocontains_any (A : Option Addr) (n c : Nat) (l : List Int) (w : World) (hr : Row w A n (cellsOf .i64 l)) (hn : n ≤ 1000000) :
    Calls Try.prog 59 #[.slice A n c, .func (.func 57) #[] #[]] w fun e w' => e = .returned (.bool (!fitL l)) ∧ w = w' := by
  have H := Lib.hid (oindex_any A n c l w hr hn)
  go_enter Try.func59, Try.ntmps59
  go_wp2_with fail
  refine H.out.mono ?_
  rintro e w' ⟨⟨r, rfl, hd⟩, rfl⟩
  have HD := Lib.hid hd
  clear hd
  go_wp2
  go_ret
  rw [← HD.out]
  exact ⟨rfl, rfl⟩

/-- The number ahead. -/
def ahd (xs : List Int) (k : Nat) : Int := if k = 0 then 0 else xs.getD (k - 1) 0

set_option maxRecDepth 100000 in
set_option maxHeartbeats 2000000 in
theorem ochanges_any (f : Nat) (val : Sp → Int) (eg : ∀ args w, (callFunc f args).run Try.prog w = .ok (.enter f args) w) (hf : ∀ (x : Sp) (W : World), Calls Try.prog f #[.agg #[.int .i16 x.1, .int .i16 x.2.1, .bool x.2.2]] W (Ret W (.int .i16 (val x))))
    (v : GlV) (w : World) (hr : v.rows w) (hn : v.sn ≤ 1000000) (hb : ∀ p ∈ v.g.ps, -32768 ≤ val p ∧ val p ≤ 32767) :
    Calls Try.prog 47 #[v.val, .func (.func f) #[] #[]] w (RetN 3 .i64 w (chs (v.g.ps.map val))) := by
  obtain ⟨i0, hi, hz0, hz1, hz2⟩ := info_parts Try.i64info
  have hA := (Below.refl w.heap.size w).alloc (Nat.le_refl _) (.cells v.cells 29)
  have hrs := hr.ps
  have Hl := Lib.hid hrs.len
  have HF := Lib.hid hf
  have HB := Lib.hid hb
  unfold GlV.val GlV.cells
  unfold GlV.cells at hA
  clear hr hf hb
  obtain ⟨⟨x0, x1, x2, x3, es, pr, ps⟩, EA, en, ec, PA, pn, pc, SA, sn, sc⟩ := v
  simp only at *
  go_enter Try.func47, Try.ntmps47
  go_wp2_with (at_make; refine wpList_make_ints rfl (.tmp 12) (.tmp 12) _ rfl 3 .i64 w.heap.size i0 8 Try.underlying35 hi hz0 hz1 hz2 _ _ sn sn rfl rfl (by omega) (by omega) (Nat.le_refl _) (by omega) (by omega) (by simp) ?_; intro w1 hown1 hg1; have k1 := (hg1.block w.heap.size (by simp) (by simp)).trans (heap_alloc_new w (.cells #[.int .i16 x0, .int .i16 x1, .int .i16 x2, .int .i16 x3, .slice EA en ec, .slice PA pn pc, .slice SA sn sc] 29)); have c6 : w1.cell? ⟨w.heap.size, 6, none⟩ = some (.slice SA sn sc) := cell_of_row w1 _ 6 _ _ _ k1; clear k1)
  clear c6
  have hb1 : Below w.heap.size w w1 := hA.grown hg1 hA.size (fun k e => by cases e)
  have hxl : (ps.map val).length = sn := by rw [List.length_map]; exact Hl.out
  have Hxl := Lib.hid hxl
  clear hg1 hA hi hz0 hz1 hz2 hxl
  simp only [show (w.alloc (.cells #[.int .i16 x0, .int .i16 x1, .int .i16 x2, .int .i16 x3, .slice EA en ec, .slice PA pn pc, .slice SA sn sc] 29)).heap.size = w.heap.size + 1 by simp] at *
  generalize hgp : w.heap.size + 1 = gp at *
  have Hgp := Lib.hid hgp
  clear hgp
  go_loopw [6, 17] (fun a i wr => ∃ k : Nat, k ≤ sn ∧ i = .int .i64 k ∧ a = .int .i64 (ahd (ps.map val) k) ∧ Own 3 .i64 wr w.heap.size (some ⟨gp, 0, none⟩) sn sn (chK (ps.map val) k ++ List.replicate (sn - k) 0) ∧ Below w.heap.size w wr) (fun _ i _ => sn - (intOf i).toNat)
  case atStart => exact ⟨0, Nat.zero_le _, rfl, rfl, hown1, hb1⟩
  case round =>
    clear hown1 hb1
    obtain ⟨k, hk, rfl, rfl, hown, hbel⟩ := hrel
    have hsz := hbel.size
    by_cases hlt : k < sn
    · obtain ⟨p, hp⟩ : ∃ p, ps[k]? = some p := ⟨ps[k]'(by have := Hl.out; omega), List.getElem?_eq_getElem (by have := Hl.out; omega)⟩
      obtain ⟨g, off, rfl, hg, q0, q1, q2⟩ := atSp (hrs.below hbel) hp
      obtain ⟨v0, v1⟩ := HB.out p (List.mem_of_getElem? hp)
      have hpv : (ps.map val).getD k 0 = val p := by simp [hp]
      have hch : chA (ps.map val) k = val p - ahd (ps.map val) k := by
        unfold chA ahd
        rw [hpv]
      have hah : ahd (ps.map val) (k + 1) = val p := by
        unfold ahd
        rw [if_neg (by omega), Nat.add_sub_cancel, hpv]
      have hab : -32768 ≤ ahd (ps.map val) k ∧ ahd (ps.map val) k ≤ 32767 := by
        unfold ahd
        split
        · omega
        · obtain ⟨y, hy⟩ : ∃ y, ps[k - 1]? = some y := ⟨ps[k - 1]'(by have := Hl.out; omega), List.getElem?_eq_getElem (by have := Hl.out; omega)⟩
          have := HB.out y (List.mem_of_getElem? hy)
          simp [hy]
          exact this
      obtain ⟨u0, u1⟩ := hab
      have HS := Lib.hid (chK_set (ps.map val) k sn hlt)
      rw [hch] at HS
      have HAH := Lib.hid hah
      obtain ⟨z, hz⟩ : ∃ z, (chK (ps.map val) k ++ List.replicate (sn - k) 0)[k]? = some z := ⟨_, List.getElem?_eq_getElem (by simp [chK_len]; omega)⟩
      have HZ := Lib.hid hz
      have HP := Lib.hid (HF.out p)
      clear hp hpv hch hah hz
      obtain ⟨px, py, po⟩ := p
      simp only at *
      generalize val (px, py, po) = vp at *
      generalize ahd (ps.map val) k = va at *
      have hA2 := (Below.refl wr.heap.size wr).alloc (Nat.le_refl _) (.cells #[.int .i16 px, .int .i16 py, .bool po] 60)
      have hown2 := hown.below hA2
      have hbel2 := hbel.trans (hA2.mono hsz)
      have hgn : g ≠ wr.heap.size := by omega
      clear hown hbel
      go_wp2_with fail
      refine (HP.out _).mono ?_
      rintro e w2 ⟨rfl, hb2⟩
      have hown3 := hown2.below hb2
      have hbel3 := hbel2.trans (hb2.mono hbel2.size)
      obtain ⟨gg, off', e', _, hc'⟩ := hown3.row.at (cellsOf_get (k := .i64) HZ.out)
      simp only [Option.some.injEq, Addr.mk.injEq, and_true] at e'
      obtain ⟨rfl, rfl⟩ := e'
      rw [Nat.zero_add] at hc'
      have f0 := hown3.thaw
      have hs4 := hown3.set k (vp - va)
      rw [HS.out] at hs4
      have H4 := Lib.hid hs4
      have B4 := Lib.hid (hbel3.setCell (p := ⟨gp, k, none⟩) (hown3.from_ gp rfl).1 (.int .i64 (vp - va)))
      clear hown2 hbel2 hA2 hb2 hs4 hown3 hbel3 HP HS q0 q1 q2
      go_wp2
      go_roundw
      case rel => exact ⟨k + 1, by omega, by go_num, by rw [HAH.out], H4.out, B4.out⟩
      case measure => simp [intOf]; omega
    · obtain rfl : k = sn := by omega
      rw [Nat.sub_self, List.replicate_zero, List.append_nil, ← Hxl.out] at hown
      go_wp2
      go_ret
      refine ⟨_, _, _, rfl, ?_, hbel⟩
      rw [← Hxl.out]
      exact hown

end Go.Proofs.Ytlcnonhebppeiaa

/- simple: Right, as a contract over this seat's translation. -/
namespace Go.Proofs.Ytlcnonhebppeiaa
open Go.RowKit
set_option linter.unusedVariables false

theorem cells7 {w : World} {b t : Nat} {v0 v1 v2 v3 v4 v5 v6 : Value} (h : w.heap[b]? = some (.cells #[v0, v1, v2, v3, v4, v5, v6] t (0, 0))) :
    w.cell? ⟨b, 0, none⟩ = some v0 ∧ w.cell? ⟨b, 1, none⟩ = some v1 ∧ w.cell? ⟨b, 2, none⟩ = some v2 ∧ w.cell? ⟨b, 3, none⟩ = some v3 ∧ w.cell? ⟨b, 4, none⟩ = some v4 ∧ w.cell? ⟨b, 5, none⟩ = some v5 ∧ w.cell? ⟨b, 6, none⟩ = some v6 :=
  ⟨cell_of_row w b 0 _ t (0, 0) h, cell_of_row w b 1 _ t (0, 0) h, cell_of_row w b 2 _ t (0, 0) h, cell_of_row w b 3 _ t (0, 0) h, cell_of_row w b 4 _ t (0, 0) h, cell_of_row w b 5 _ t (0, 0) h, cell_of_row w b 6 _ t (0, 0) h⟩

theorem ochX (v : GlV) (w : World) (hr : v.rows w) (hn : v.sn ≤ 1000000) (ho : v.g.ok) : Calls Try.prog 47 #[v.val, .func (.func 48) #[] #[]] w (RetN 3 .i64 w (chs (xsOf v.g.ps))) :=
  ochanges_any 48 (·.1) (enters_of Try.func48 (by kernel_rfl) rfl) (fun x W => oalongX_any x W) v w hr hn (fun p hp => (ho.ps p hp).1)
theorem ochY (v : GlV) (w : World) (hr : v.rows w) (hn : v.sn ≤ 1000000) (ho : v.g.ok) : Calls Try.prog 47 #[v.val, .func (.func 49) #[] #[]] w (RetN 3 .i64 w (chs (ysOf v.g.ps))) :=
  ochanges_any 49 (·.2.1) (enters_of Try.func49 (by kernel_rfl) rfl) (fun x W => oalongY_any x W) v w hr hn (fun p hp => (ho.ps p hp).2)

set_option maxRecDepth 100000 in
set_option maxHeartbeats 4000000 in
theorem oright_any (v : GlV) (w : World) (hr : v.rows w) (hf : v.few) (ho : v.g.ok) :
    Calls Try.prog 21 #[v.val] w (Ret w (.bool (oRight v.g))) := by
  have hA := (Below.refl w.heap.size w).alloc (Nat.le_refl _) (.cells v.cells 29)
  have hk := heap_alloc_new w (.cells v.cells 29)
  obtain ⟨f0, f1, f2⟩ := hf
  have HE : Hid (v.g.es.length = v.en) := hr.es.len
  have HP : Hid (v.g.pr.length = v.pn) := hr.pr.len
  have HS : Hid (v.g.ps.length = v.sn) := hr.ps.len
  have HRt : Hid (oRight v.g = (riseN v.g.es v.en && decide (v.sn = cntE v.g.es) && fitL (chs (xsOf v.g.ps)) && fitL (chs (ysOf v.g.ps)))) := by
    show _ = _
    unfold oRight
    rw [HE.out, HP.out, HS.out, decide_eq_true (by omega), decide_eq_true (by omega)]
    simp
  have HRi : Hid (∀ W, Below w.heap.size w W → Calls Try.prog 55 #[.slice v.EA v.en v.ec] W fun e w' => e = .returned (.bool (riseN v.g.es v.en)) ∧ W = w') := fun W hW => orise_any _ _ _ _ W (hr.es.below hW) (by omega)
  have HC : Hid (∀ W, Below w.heap.size w W → Calls Try.prog 56 #[v.val] W (Ret W (.int .i64 (cntE v.g.es : Nat)))) := fun W hW => ocount_any v W (hr.below hW) (by omega) ho.es
  have HX : Hid (∀ W, Below w.heap.size w W → Calls Try.prog 47 #[v.val, .func (.func 48) #[] #[]] W (RetN 3 .i64 W (chs (xsOf v.g.ps)))) := fun W hW => ochX v W (hr.below hW) (by omega) ho
  have HY : Hid (∀ W, Below w.heap.size w W → Calls Try.prog 47 #[v.val, .func (.func 49) #[] #[]] W (RetN 3 .i64 W (chs (ysOf v.g.ps)))) := fun W hW => ochY v W (hr.below hW) (by omega) ho
  have HXl : Hid ((chs (xsOf v.g.ps)).length = v.sn) := by show _ = _; rw [chs_len, xsOf_len, HS.out]
  have HYl : Hid ((chs (ysOf v.g.ps)).length = v.sn) := by show _ = _; rw [chs_len, ysOf_len, HS.out]
  clear ho hr
  unfold GlV.val at *
  unfold GlV.cells at *
  obtain ⟨⟨x0, x1, x2, x3, es, pr, ps⟩, EA, en, ec, PA, pn, pc, SA, sn, sc⟩ := v
  simp only at *
  generalize chs (xsOf ps) = cx at *
  generalize chs (ysOf ps) = cy at *
  generalize cntE es = N at *
  rw [HRt.out]
  clear HRt HE HP HS
  have hgw : ∀ p os, Below w.heap.size w (gw (w.alloc (.cells #[.int .i16 x0, .int .i16 x1, .int .i16 x2, .int .i16 x3, .slice EA en ec, .slice PA pn pc, .slice SA sn sc] 29)) p os) := fun p os => hA.trans ((gw_below _ p os).mono hA.size)
  have GR : Hid (∀ p os, Calls Try.prog 55 #[.slice EA en ec] (gw (w.alloc (.cells #[.int .i16 x0, .int .i16 x1, .int .i16 x2, .int .i16 x3, .slice EA en ec, .slice PA pn pc, .slice SA sn sc] 29)) p os) (fun e w' => e = .returned (.bool (riseN es en)) ∧ w' = gw (w.alloc (.cells #[.int .i16 x0, .int .i16 x1, .int .i16 x2, .int .i16 x3, .slice EA en ec, .slice PA pn pc, .slice SA sn sc] 29)) p os)) := fun p os => (HRi.out _ (hgw p os)).mono fun e w' ⟨h1, h2⟩ => ⟨h1, h2.symm⟩
  have GC : Hid (∀ p os, Calls Try.prog 56 #[.agg #[.int .i16 x0, .int .i16 x1, .int .i16 x2, .int .i16 x3, .slice EA en ec, .slice PA pn pc, .slice SA sn sc]] (gw (w.alloc (.cells #[.int .i16 x0, .int .i16 x1, .int .i16 x2, .int .i16 x3, .slice EA en ec, .slice PA pn pc, .slice SA sn sc] 29)) p os) (Ret (gw (w.alloc (.cells #[.int .i16 x0, .int .i16 x1, .int .i16 x2, .int .i16 x3, .slice EA en ec, .slice PA pn pc, .slice SA sn sc] 29)) p os) (.int .i64 (N : Nat)))) := fun p os => HC.out _ (hgw p os)
  have HGW := Lib.hid hgw
  have HKw : Hid (∀ p os, (gw (w.alloc (.cells #[.int .i16 x0, .int .i16 x1, .int .i16 x2, .int .i16 x3, .slice EA en ec, .slice PA pn pc, .slice SA sn sc] 29)) p os).heap[w.heap.size]? = some (.cells #[.int .i16 x0, .int .i16 x1, .int .i16 x2, .int .i16 x3, .slice EA en ec, .slice PA pn pc, .slice SA sn sc] 29 (0, 0))) := fun p os => ((gw_below _ p os).block _ (by simp)).trans hk
  obtain ⟨b0, b1, b2, b3, b4, b5, b6⟩ := cells7 hk
  have C0 := gw_cell b0
  have C1 := gw_cell b1
  have C2 := gw_cell b2
  have C3 := gw_cell b3
  have C4 := gw_cell b4
  have C5 := gw_cell b5
  have C6 := gw_cell b6
  clear b0 b1 b2 b3 b4 b5 b6 hgw HC HRi hk hA
  have D1 : decide (32767 < (en : Int)) = false := decide_eq_false (by omega)
  have D2 : decide (65535 < (pn : Int)) = false := decide_eq_false (by omega)
  cases hri : riseN es en with
  | false =>
    rw [hri] at GR
    clear hri HX HY HXl HYl f0 f1 f2
    go_enter Try.func21, Try.ntmps21
    go_upto_region 1 with fail
    generalize w.alloc _ = V at *
    refine region_below (by kernel_rfl) (by kernel_rfl) ?_
    repeat (first | go_big_quiet_step ((go_at_call 55; with_reducible exact calls_gw_same (GR.out _ _))) | quiet_step ((go_at_call 55; with_reducible exact calls_gw_same (GR.out _ _))))
    refine wpQuiet_nil ?_
    rintro _ ⟨z, rfl⟩
    go_wp2
    go_ret
    exact ⟨rfl, HGW.out _ _⟩
  | true =>
    rw [hri] at GR
    clear hri
    by_cases hN : sn = N
    · subst hN
      have E1 : ((sn : Int) != (sn : Int)) = false := by simp
      go_enter Try.func21, Try.ntmps21
      go_upto_region 1 with fail
      generalize w.alloc _ = V at *
      refine region_below (by kernel_rfl) (by kernel_rfl) ?_
      repeat (first | go_big_quiet_step (first | (go_at_call 55; with_reducible exact calls_gw_same (GR.out _ _)) | (go_at_call 56; with_reducible exact calls_gw (GC.out _ _))) | quiet_step (first | (go_at_call 55; with_reducible exact calls_gw_same (GR.out _ _)) | (go_at_call 56; with_reducible exact calls_gw (GC.out _ _))))
      refine wpQuiet_nil ?_
      rintro _ ⟨z, rfl⟩
      have hb := HGW.out z.n z.os
      have hk := HKw.out z.n z.os
      clear HGW HKw GR GC C0 C1 C2 C3 C4 C5 C6 D1 D2 E1
      generalize gw V z.n z.os = Z at *
      obtain ⟨b0, b1, b2, b3, b4, b5, b6⟩ := cells7 hk
      have KX := Lib.hid (HX.out Z hb)
      clear HX
      go_wp2_with fail
      with_reducible refine KX.out.mono ?_
      rintro e w2 ⟨A2, n2, c2, rfl, ho2, hb2⟩
      have Hb2 := Lib.hid (hb.trans (hb2.mono hb.size))
      have hk2 := kept_block hk hb2
      have Hn2 : Hid (n2 = sn) := by have := ho2.len; rw [HXl.out] at this; exact this.symm
      have Hq2 := Lib.hid (ocontains_any A2 n2 c2 cx w2 ho2.row (by have := Hn2.out; omega))
      clear KX hb2 hb hk b0 b1 b2 b3 b4 b5 b6
      go_wp2_with fail
      with_reducible refine Hq2.out.mono ?_
      rintro e w3 ⟨rfl, rfl⟩
      clear Hq2
      obtain ⟨b0, b1, b2, b3, b4, b5, b6⟩ := cells7 hk2
      cases fx : fitL cx with
      | false =>
        go_wp2
        go_ret
        exact ⟨by simp [fx], Hb2.out⟩
      | true =>
        have KY := Lib.hid (HY.out w2 Hb2.out)
        clear HY
        go_wp2_with fail
        with_reducible refine KY.out.mono ?_
        rintro e w4 ⟨A4, n4, c4, rfl, ho4, hb4⟩
        have Hb4 := Lib.hid (Hb2.out.trans (hb4.mono Hb2.out.size))
        have Hn4 : Hid (n4 = sn) := by have := ho4.len; rw [HYl.out] at this; exact this.symm
        have Hq4 := Lib.hid (ocontains_any A4 n4 c4 cy w4 ho4.row (by have := Hn4.out; omega))
        clear KY hb4 b0 b1 b2 b3 b4 b5 b6
        go_wp2_with fail
        with_reducible refine Hq4.out.mono ?_
        rintro e w5 ⟨rfl, rfl⟩
        cases fy : fitL cy
        all_goals
          go_wp2
          go_ret
          exact ⟨by simp [fx, fy], Hb4.out⟩
    · have E1 : ((sn : Int) != (N : Int)) = true := by simp; omega
      have E2 : Hid (decide (sn = N) = false) := decide_eq_false hN
      rw [E2.out]
      clear HX HY HXl HYl f0 f1 f2 hN
      go_enter Try.func21, Try.ntmps21
      go_upto_region 1 with fail
      generalize w.alloc _ = V at *
      refine region_below (by kernel_rfl) (by kernel_rfl) ?_
      repeat (first | go_big_quiet_step (first | (go_at_call 55; with_reducible exact calls_gw_same (GR.out _ _)) | (go_at_call 56; with_reducible exact calls_gw (GC.out _ _))) | quiet_step (first | (go_at_call 55; with_reducible exact calls_gw_same (GR.out _ _)) | (go_at_call 56; with_reducible exact calls_gw (GC.out _ _))))
      refine wpQuiet_nil ?_
      rintro _ ⟨z, rfl⟩
      go_wp2
      go_ret
      exact ⟨rfl, HGW.out _ _⟩

end Go.Proofs.Ytlcnonhebppeiaa
