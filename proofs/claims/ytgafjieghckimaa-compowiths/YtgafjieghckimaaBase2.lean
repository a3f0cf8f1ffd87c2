/- What the laws of this seat lean on: SimM ComM Grow Dot DotRef Structs Reg Cells RegF. -/
import Derived.Laws.BitsAllLaws
import Derived.BigQuiet
import Derived.Shelf.SlSortCmp.QuietGrown
import Derived.StillTailTactics
import Derived.ChangeSame
import Derived.Deep.Slices
import Derived.OwnWalk
import Derived.Deep.RegionHeld
import Derived.Test.YtgafjieghckimaaBase1

/- simple: outlines of points: plain lists. -/
namespace Go.Proofs.Ytgafjieghckimaa
open Go.RowKit
set_option linter.unusedVariables false

/-- A bit of a byte. -/
def fb (f k : Int) : Bool := decide (f / k % 2 = 1)

theorem fin_of {P : Int → Prop} (h : ∀ n : Fin 256, P (n.val : Int)) {f : Int} (h0 : 0 ≤ f) (h1 : f ≤ 255) : P f := by
  have := h ⟨f.toNat, by omega⟩
  simp only at this
  rwa [show ((f.toNat : Nat) : Int) = f by omega] at this

theorem and1 {f : Int} (h0 : 0 ≤ f) (h1 : f ≤ 255) : (bits .and .u8 f 1 != 0) = fb f 1 := fin_of (P := fun f => (bits .and .u8 f 1 != 0) = fb f 1) (by decide +kernel) h0 h1
theorem and2 {f : Int} (h0 : 0 ≤ f) (h1 : f ≤ 255) : (bits .and .u8 f 2 != 0) = fb f 2 := fin_of (P := fun f => (bits .and .u8 f 2 != 0) = fb f 2) (by decide +kernel) h0 h1
theorem and4 {f : Int} (h0 : 0 ≤ f) (h1 : f ≤ 255) : (bits .and .u8 f 4 != 0) = fb f 4 := fin_of (P := fun f => (bits .and .u8 f 4 != 0) = fb f 4) (by decide +kernel) h0 h1
theorem and8 {f : Int} (h0 : 0 ≤ f) (h1 : f ≤ 255) : (bits .and .u8 f 8 != 0) = fb f 8 := fin_of (P := fun f => (bits .and .u8 f 8 != 0) = fb f 8) (by decide +kernel) h0 h1
theorem and16 {f : Int} (h0 : 0 ≤ f) (h1 : f ≤ 255) : (bits .and .u8 f 16 != 0) = fb f 16 := fin_of (P := fun f => (bits .and .u8 f 16 != 0) = fb f 16) (by decide +kernel) h0 h1
theorem and32 {f : Int} (h0 : 0 ≤ f) (h1 : f ≤ 255) : (bits .and .u8 f 32 != 0) = fb f 32 := fin_of (P := fun f => (bits .and .u8 f 32 != 0) = fb f 32) (by decide +kernel) h0 h1
theorem and128 {f : Int} (h0 : 0 ≤ f) (h1 : f ≤ 255) : (bits .and .u8 f 128 != 0) = fb f 128 := fin_of (P := fun f => (bits .and .u8 f 128 != 0) = fb f 128) (by decide +kernel) h0 h1

/-- A place: X, Y, on the curve? -/
abbrev Sp := Int × Int × Bool

/-- An outline. -/
structure Gl where
  x0 : Int
  x1 : Int
  x2 : Int
  x3 : Int
  es : List Int
  pr : List Int
  ps : List Sp
def Gl.box (g : Gl) : List Int := [g.x0, g.x1, g.x2, g.x3]

/-- Does it fit into two bytes with a sign? -/
def fitsB (n : Int) : Bool := decide (-32768 ≤ n) && decide (n ≤ 32767)
theorem fitsB_true {n : Int} (h : fitsB n = true) : -32768 ≤ n ∧ n ≤ 32767 := by unfold fitsB at h; simpa using h
theorem fitsB_of {n : Int} (h0 : -32768 ≤ n) (h1 : n ≤ 32767) : fitsB n = true := by unfold fitsB; simp [h0, h1]
theorem fitsB_false {n : Int} (h : fitsB n = false) : n < -32768 ∨ 32767 < n := by unfold fitsB at h; simp at h; omega

/-- Do the Ends rise? -/
def riseA (l : List Int) (i : Nat) : Bool := decide (i = 0) || decide (l.getD (i - 1) 0 < l.getD i 0)
def riseN (l : List Int) (k : Nat) : Bool := (List.range k).all (riseA l)
theorem riseN_succ (l : List Int) (k : Nat) : riseN l (k + 1) = (riseN l k && riseA l k) := by simp [riseN, List.range_succ]
theorem riseN_not {l : List Int} {k n : Nat} (h : riseA l k = false) (hn : k < n) : riseN l n = false := by
  unfold riseN
  rw [List.all_eq_false]
  exact ⟨k, List.mem_range.2 hn, by rw [h]; simp⟩
theorem riseN_at {l : List Int} {n k : Nat} (h : riseN l n = true) (hk : k < n) : riseA l k = true := by
  unfold riseN at h
  rw [List.all_eq_true] at h
  exact h k (List.mem_range.2 hk)
theorem riseN_mono {l : List Int} {n k : Nat} (h : riseN l n = true) (hk : k ≤ n) : riseN l k = true := by
  unfold riseN at *
  rw [List.all_eq_true] at *
  exact fun x hx => h x (List.mem_range.2 (by have := List.mem_range.1 hx; omega))

/-- How many points the Ends ask for. -/
def cntE (l : List Int) : Nat := if l.length = 0 then 0 else (l.getD (l.length - 1) 0).toNat + 1

/-- How far a number is from the one ahead. -/
def chA (xs : List Int) (i : Nat) : Int := xs.getD i 0 - (if i = 0 then 0 else xs.getD (i - 1) 0)
def chK (xs : List Int) (k : Nat) : List Int := (List.range k).map (chA xs)
def chs (xs : List Int) : List Int := chK xs xs.length
theorem chK_len (xs : List Int) (k : Nat) : (chK xs k).length = k := by simp [chK]
theorem chs_len (xs : List Int) : (chs xs).length = xs.length := chK_len _ _
theorem chK_get (xs : List Int) {k i : Nat} (h : i < k) : (chK xs k)[i]? = some (chA xs i) := by simp [chK, h]
theorem chs_get (xs : List Int) {i : Nat} (h : i < xs.length) : (chs xs)[i]? = some (chA xs i) := chK_get xs h
theorem chK_succ (xs : List Int) (k : Nat) : chK xs (k + 1) = chK xs k ++ [chA xs k] := by simp [chK, List.range_succ]
theorem chK_set (xs : List Int) (k n : Nat) (h : k < n) : (chK xs k ++ List.replicate (n - k) 0).set k (chA xs k) = chK xs (k + 1) ++ List.replicate (n - (k + 1)) 0 := by
  rw [List.set_append_right _ _ (by rw [chK_len]; exact Nat.le_refl _), chK_len, Nat.sub_self, chK_succ, List.append_assoc, show n - k = (n - (k + 1)) + 1 by omega, List.replicate_succ]
  rfl

def xsOf (l : List Sp) : List Int := l.map (·.1)
def ysOf (l : List Sp) : List Int := l.map (·.2.1)
theorem xsOf_len (l : List Sp) : (xsOf l).length = l.length := by simp [xsOf]
theorem ysOf_len (l : List Sp) : (ysOf l).length = l.length := by simp [ysOf]
theorem xsOf_get {l : List Sp} {i : Nat} {p : Sp} (h : l[i]? = some p) : (xsOf l).getD i 0 = p.1 := by simp [xsOf, h]
theorem ysOf_get {l : List Sp} {i : Nat} {p : Sp} (h : l[i]? = some p) : (ysOf l).getD i 0 = p.2.1 := by simp [ysOf, h]

def fitL (l : List Int) : Bool := l.all fitsB
def oRight (g : Gl) : Bool := decide (g.es.length ≤ 32767) && decide (g.pr.length ≤ 65535) && riseN g.es g.es.length && decide (g.ps.length = cntE g.es) && fitL (chs (xsOf g.ps)) && fitL (chs (ysOf g.ps))

/-- A row of numbers alike, at most so many. -/
def runF (f : Int) : Nat → List Int → Nat
  | 0, _ => 0
  | _ + 1, [] => 0
  | c + 1, x :: r => if x = f then runF f c r + 1 else 0
theorem runF_le (f : Int) : ∀ (c : Nat) (l : List Int), runF f c l ≤ c ∧ runF f c l ≤ l.length
  | 0, _ => ⟨Nat.le_refl _, Nat.zero_le _⟩
  | _ + 1, [] => ⟨Nat.zero_le _, Nat.le_refl _⟩
  | c + 1, x :: r => by
    have := runF_le f c r
    unfold runF
    split
    · simp only [List.length_cons]; omega
    · simp
theorem runF_take (f : Int) : ∀ (c : Nat) (l : List Int), l.take (runF f c l) = List.replicate (runF f c l) f
  | 0, _ => by simp [runF]
  | _ + 1, [] => by simp [runF]
  | c + 1, x :: r => by
    have := runF_take f c r
    unfold runF
    split
    · rename_i h
      rw [List.take_succ_cons, this, List.replicate_succ, h]
    · simp
theorem runF_of (f : Int) : ∀ (c : Nat) (l : List Int) (n : Nat), n ≤ c → n ≤ l.length → (∀ i, i < n → l.getD i 0 = f) → (n = c ∨ n = l.length ∨ l.getD n 0 ≠ f) → runF f c l = n
  | 0, l, n, h1, _, _, _ => by simp [runF]; omega
  | c + 1, [], n, _, h2, _, _ => by simp at h2; simp [runF, h2]
  | c + 1, x :: r, 0, _, _, _, h4 => by
    unfold runF
    rw [if_neg]
    intro hx
    rcases h4 with h | h | h
    · omega
    · simp at h
    · exact h (by simpa using hx)
  | c + 1, x :: r, n + 1, h1, h2, h3, h4 => by
    unfold runF
    have h0 := h3 0 (by omega)
    simp at h0
    rw [if_pos h0, runF_of f c r n (by omega) (by simp at h2; omega) (fun i hi => by have := h3 (i + 1) (by omega); simpa using this) (by simp at h4 ⊢; omega)]

def rowOf (l : List Int) : Nat := runF (l.headD 0) 256 l
theorem rowOf_le (l : List Int) : rowOf l ≤ 256 ∧ rowOf l ≤ l.length := runF_le _ _ _
theorem rowOf_pos {l : List Int} (h : l ≠ []) : 1 ≤ rowOf l := by
  cases l with
  | nil => exact absurd rfl h
  | cons x r => unfold rowOf runF; simp
theorem rowOf_take (l : List Int) : l.take (rowOf l) = List.replicate (rowOf l) (l.headD 0) := runF_take _ _ _
theorem rowOf_of {l : List Int} {n : Nat} (h1 : n ≤ 256) (h2 : n ≤ l.length) (h3 : ∀ i, i < n → l.getD i 0 = l.headD 0) (h4 : n = 256 ∨ n = l.length ∨ l.getD n 0 ≠ l.headD 0) : rowOf l = n := runF_of _ _ _ _ h1 h2 h3 h4

/-- Flags, each row of one alike once. -/
def rleHead (l : List Int) : List Int := if rowOf l = 1 then [l.headD 0] else [l.headD 0 + 8, (rowOf l : Int) - 1]
def rleF : Nat → List Int → List Int
  | 0, _ => []
  | _ + 1, [] => []
  | m + 1, f :: r => rleHead (f :: r) ++ rleF m ((f :: r).drop (rowOf (f :: r)))
def rle (l : List Int) : List Int := rleF l.length l
theorem rleF_fuel : ∀ (m : Nat) (l : List Int), l.length ≤ m → rleF m l = rle l := by
  have key : ∀ (k : Nat) (l : List Int) (m m' : Nat), l.length ≤ k → l.length ≤ m → l.length ≤ m' → rleF m l = rleF m' l := by
    intro k
    induction k with
    | zero =>
      intro l m m' h _ _
      obtain rfl : l = [] := List.eq_nil_of_length_eq_zero (by omega)
      cases m <;> cases m' <;> rfl
    | succ k ih =>
      intro l m m' h h1 h2
      cases l with
      | nil => cases m <;> cases m' <;> rfl
      | cons f r =>
        cases m with
        | zero => simp at h1
        | succ m =>
          cases m' with
          | zero => simp at h2
          | succ m' =>
            have hp := rowOf_pos (l := f :: r) (by simp)
            simp only [List.length_cons] at h h1 h2
            unfold rleF
            rw [ih ((f :: r).drop (rowOf (f :: r))) m m' (by rw [List.length_drop, List.length_cons]; omega) (by rw [List.length_drop, List.length_cons]; omega) (by rw [List.length_drop, List.length_cons]; omega)]
  exact fun m l h => key l.length l m l.length (Nat.le_refl _) h (Nat.le_refl _)
theorem rle_nil : rle [] = [] := rfl
theorem rle_step {l : List Int} (h : l ≠ []) : rle l = rleHead l ++ rle (l.drop (rowOf l)) := by
  cases l with
  | nil => exact absurd rfl h
  | cons f r =>
    have hp := rowOf_pos (l := f :: r) (by simp)
    unfold rle
    rw [List.length_cons]
    conv => lhs; unfold rleF
    rw [rleF_fuel r.length _ (by rw [List.length_drop, List.length_cons]; omega)]
    rfl
theorem rleHead_len (l : List Int) : 1 ≤ (rleHead l).length ∧ (rleHead l).length ≤ 2 := by unfold rleHead; split <;> simp
theorem rleF_len : ∀ (m : Nat) (l : List Int), (rleF m l).length ≤ 2 * m
  | 0, _ => by simp [rleF]
  | _ + 1, [] => by simp [rleF]
  | m + 1, f :: r => by
    have := rleF_len m ((f :: r).drop (rowOf (f :: r)))
    have := rleHead_len (f :: r)
    unfold rleF
    rw [List.length_append]
    omega
theorem rle_len (l : List Int) : (rle l).length ≤ 2 * l.length := rleF_len _ _

/-- The bytes of a change. -/
def cb (d : Int) : List Int := if d = 0 then [] else if -255 ≤ d ∧ d ≤ 255 then [max d (-d)] else b2 (d % 65536)
def cbs (l : List Int) : List Int := l.flatMap cb
theorem cb_len (d : Int) : (cb d).length ≤ 2 := by unfold cb; split; simp; split <;> simp [b2]
theorem cbs_len : ∀ l : List Int, (cbs l).length ≤ 2 * l.length
  | [] => by simp [cbs]
  | d :: r => by
    have := cbs_len r
    have := cb_len d
    unfold cbs at *
    rw [List.flatMap_cons, List.length_append, List.length_cons]
    omega
theorem cbs_snoc {l : List Int} {k : Nat} {d : Int} (h : l[k]? = some d) : cbs (l.take (k + 1)) = cbs (l.take k) ++ cb d := by
  unfold cbs
  rw [List.take_add_one, h]
  simp
theorem cbs_cut (l : List Int) {k : Nat} {d : Int} (h : l[k]? = some d) : cbs l = cbs (l.take k) ++ (cb d ++ cbs (l.drop (k + 1))) := by
  have hk := (List.getElem?_eq_some_iff.1 h)
  obtain ⟨hk, rfl⟩ := hk
  conv => lhs; rw [← List.take_append_drop k l, List.drop_eq_getElem_cons hk]
  unfold cbs
  rw [List.flatMap_append, List.flatMap_cons]

/-- What a flag says of a change. -/
def bitsV (d sh pl : Int) : Int := if d = 0 then pl else if -255 ≤ d ∧ d ≤ 255 then (if 0 < d then sh + pl else sh) else 0
def flagOf (dx dy : Int) (on : Bool) : Int := bitsV dx 2 16 + bitsV dy 4 32 + (if on then 1 else 0)
def flA (l : List Sp) (i : Nat) : Int := flagOf (chA (xsOf l) i) (chA (ysOf l) i) (l.getD i (0, 0, false)).2.2
def flK (l : List Sp) (k : Nat) : List Int := (List.range k).map (flA l)
def fls (l : List Sp) : List Int := flK l l.length
theorem flK_len (l : List Sp) (k : Nat) : (flK l k).length = k := by simp [flK]
theorem flK_succ (l : List Sp) (k : Nat) : flK l (k + 1) = flK l k ++ [flA l k] := by simp [flK, List.range_succ]
theorem flK_get (l : List Sp) {k i : Nat} (h : i < k) : (flK l k)[i]? = some (flA l i) := by simp [flK, h]
theorem flK_set (l : List Sp) (k n : Nat) (h : k < n) : (flK l k ++ List.replicate (n - k) 0).set k (flA l k) = flK l (k + 1) ++ List.replicate (n - (k + 1)) 0 := by
  rw [List.set_append_right _ _ (by rw [flK_len]; exact Nat.le_refl _), flK_len, Nat.sub_self, flK_succ, List.append_assoc, show n - k = (n - (k + 1)) + 1 by omega, List.replicate_succ]
  rfl

/-- Which flags there are: none has 8, 64 or 128. -/
def flagsAll : List Int := [0, 2, 16, 18].flatMap fun a => [0, 4, 32, 36].flatMap fun b => [0, 1].map fun c => a + b + c
theorem bitsV_cases (d sh pl : Int) : bitsV d sh pl = pl ∨ bitsV d sh pl = sh + pl ∨ bitsV d sh pl = sh ∨ bitsV d sh pl = 0 := by unfold bitsV; split; simp; split; split <;> simp; simp
theorem flagOf_in (dx dy : Int) (on : Bool) : flagOf dx dy on ∈ flagsAll := by
  unfold flagOf
  rcases bitsV_cases dx 2 16 with h | h | h | h <;> rcases bitsV_cases dy 4 32 with h' | h' | h' | h' <;> rw [h, h'] <;> cases on <;> decide
theorem flA_in (l : List Sp) (i : Nat) : flA l i ∈ flagsAll := flagOf_in _ _ _
theorem fls_in (l : List Sp) : ∀ f ∈ fls l, f ∈ flagsAll := by
  intro f hf
  simp only [fls, flK, List.mem_map] at hf
  obtain ⟨i, _, rfl⟩ := hf
  exact flA_in l i
theorem flagsAll_lt {f : Int} (h : f ∈ flagsAll) : 0 ≤ f ∧ f < 64 := by
  have : ∀ f ∈ flagsAll, 0 ≤ f ∧ f < 64 := by decide
  exact this f h
theorem flagsAll_or8 {f : Int} (h : f ∈ flagsAll) : bits .or .u8 f 8 = f + 8 := by
  have : ∀ f ∈ flagsAll, bits .or .u8 f 8 = f + 8 := by decide +kernel
  exact this f h
theorem bits_or (dx dy : Int) : bits .or .u8 (bitsV dx 2 16) (bitsV dy 4 32) = bitsV dx 2 16 + bitsV dy 4 32 := by
  rcases bitsV_cases dx 2 16 with h | h | h | h <;> rcases bitsV_cases dy 4 32 with h' | h' | h' | h' <;> rw [h, h'] <;> decide +kernel
theorem bits_or1 (dx dy : Int) : bits .or .u8 (bitsV dx 2 16 + bitsV dy 4 32) 1 = bitsV dx 2 16 + bitsV dy 4 32 + 1 := by
  rcases bitsV_cases dx 2 16 with h | h | h | h <;> rcases bitsV_cases dy 4 32 with h' | h' | h' | h' <;> rw [h, h'] <;> decide +kernel
theorem bitsV_lt (dx dy : Int) : 0 ≤ bitsV dx 2 16 + bitsV dy 4 32 ∧ bitsV dx 2 16 + bitsV dy 4 32 < 63 ∧ 0 ≤ bitsV dx 2 16 ∧ bitsV dx 2 16 < 63 ∧ 0 ≤ bitsV dy 4 32 ∧ bitsV dy 4 32 < 63 := by
  rcases bitsV_cases dx 2 16 with h | h | h | h <;> rcases bitsV_cases dy 4 32 with h' | h' | h' | h' <;> rw [h, h'] <;> decide

/-- The bytes of an outline. -/
def boxB (l : List Int) : List Int := l.flatMap fun x => b2 (x % 65536)
def endB (l : List Int) : List Int := l.flatMap b2
def oFront (g : Gl) : List Int := b2 g.es.length ++ boxB g.box ++ endB g.es ++ b2 g.pr.length ++ g.pr
def oB (g : Gl) : List Int := oFront g ++ rle (fls g.ps) ++ cbs (chs (xsOf g.ps)) ++ cbs (chs (ysOf g.ps))
theorem endB_len : ∀ l : List Int, (endB l).length = 2 * l.length
  | [] => rfl
  | x :: r => by unfold endB; rw [List.flatMap_cons, List.length_append]; have := endB_len r; unfold endB at this; rw [this]; simp [b2]; omega
theorem endB_snoc {l : List Int} {k : Nat} {x : Int} (h : l[k]? = some x) : endB (l.take (k + 1)) = endB (l.take k) ++ b2 x := by
  unfold endB
  rw [List.take_add_one, h]
  simp
theorem boxB_len : ∀ l : List Int, (boxB l).length = 2 * l.length
  | [] => rfl
  | x :: r => by unfold boxB; rw [List.flatMap_cons, List.length_append]; have := boxB_len r; unfold boxB at this; rw [this]; simp [b2]; omega
theorem boxB_snoc {l : List Int} {k : Nat} {x : Int} (h : l[k]? = some x) : boxB (l.take (k + 1)) = boxB (l.take k) ++ b2 (x % 65536) := by
  unfold boxB
  rw [List.take_add_one, h]
  simp
theorem oFront_len (g : Gl) : (oFront g).length = 12 + 2 * g.es.length + g.pr.length := by
  unfold oFront
  simp only [List.length_append, endB_len, boxB_len, Gl.box, List.length_cons, List.length_nil]
  simp [b2]
  omega

/-- A byte at a place; 0 where there is none. -/
def n1at (zs : List Int) (i : Nat) : Int := num (zs.drop i) 1
theorem n1at_get {zs : List Int} {i : Nat} {x : Int} (h : zs[i]? = some x) : n1at zs i = x := by
  obtain ⟨hk, rfl⟩ := List.getElem?_eq_some_iff.1 h
  unfold n1at num told
  rw [if_pos (by rw [List.length_drop]; omega), List.drop_eq_getElem_cons hk]
  show 0 * 256 + _ = _
  omega
theorem n1at_lt {zs : List Int} (hB : Bytes zs) (i : Nat) : 0 ≤ n1at zs i ∧ n1at zs i ≤ 255 := by
  have := num_lt (drop_bytes hB i) 1 1 (by omega)
  simp only [Int.pow_succ, Int.pow_zero, Int.one_mul] at this
  unfold n1at
  omega

/-- The flags that are read: those so far, and the place behind. -/
structure FS where
  fl : List Int
  at_ : Nat
def fMore (zs : List Int) (i : Nat) : Nat := if fb (n1at zs i) 8 then (n1at zs (i + 1)).toNat else 0
def fSize (zs : List Int) (i : Nat) : Nat := if fb (n1at zs i) 8 then 2 else 1
def fOk (zs : List Int) (n : Nat) (s : FS) : Bool := !fb (n1at zs s.at_) 128 && decide (s.fl.length + 1 + fMore zs s.at_ ≤ n)
def fNext (zs : List Int) (s : FS) : FS := ⟨s.fl ++ List.replicate (fMore zs s.at_ + 1) (n1at zs s.at_), s.at_ + fSize zs s.at_⟩
theorem fNext_len (zs : List Int) (s : FS) : (fNext zs s).fl.length = s.fl.length + fMore zs s.at_ + 1 := by simp [fNext]; omega
def fRun (zs : List Int) (n : Nat) : Nat → FS → Option FS
  | 0, s => some s
  | m + 1, s => if s.fl.length < n then (if fOk zs n s then fRun zs n m (fNext zs s) else none) else some s
theorem fRun_fuel (zs : List Int) (n : Nat) : ∀ (k : Nat) (s : FS) (m m' : Nat), n - s.fl.length ≤ k → n - s.fl.length ≤ m → n - s.fl.length ≤ m' → fRun zs n m s = fRun zs n m' s := by
  intro k
  induction k with
  | zero =>
    intro s m m' h _ _
    have : ¬ s.fl.length < n := by omega
    cases m <;> cases m' <;> simp [fRun, this]
  | succ k ih =>
    intro s m m' h h1 h2
    by_cases hl : s.fl.length < n
    · obtain ⟨m, rfl⟩ : ∃ j, m = j + 1 := ⟨m - 1, by omega⟩
      obtain ⟨m', rfl⟩ : ∃ j, m' = j + 1 := ⟨m' - 1, by omega⟩
      unfold fRun
      rw [if_pos hl, if_pos hl]
      have hz := fNext_len zs s
      rw [ih (fNext zs s) m m' (by omega) (by omega) (by omega)]
    · cases m <;> cases m' <;> simp [fRun, hl]
/-- All that is left to read, from a state on. -/
def fAll (zs : List Int) (n : Nat) (s : FS) : Option FS := fRun zs n n s
theorem fAll_done {zs : List Int} {n : Nat} {s : FS} (h : n ≤ s.fl.length) : fAll zs n s = some s := by
  unfold fAll
  cases n <;> simp [fRun]
  omega
theorem fAll_step {zs : List Int} {n : Nat} {s : FS} (h : s.fl.length < n) (hk : fOk zs n s = true) : fAll zs n s = fAll zs n (fNext zs s) := by
  unfold fAll
  obtain ⟨m, rfl⟩ : ∃ j, n = j + 1 := ⟨n - 1, by omega⟩
  have hz := fNext_len zs s
  conv => lhs; unfold fRun
  rw [if_pos h, if_pos hk]
  exact fRun_fuel zs _ (m + 1) _ _ _ (by omega) (by omega) (by omega)
theorem fAll_not {zs : List Int} {n : Nat} {s : FS} (h : s.fl.length < n) (hk : fOk zs n s = false) : fAll zs n s = none := by
  unfold fAll
  obtain ⟨m, rfl⟩ : ∃ j, n = j + 1 := ⟨n - 1, by omega⟩
  unfold fRun
  rw [if_pos h, hk]
  rfl
/-- What is read has just so many, and lies behind. -/
theorem fAll_some {zs : List Int} {n : Nat} : ∀ (k : Nat) (s t : FS), n - s.fl.length ≤ k → s.fl.length ≤ n → fAll zs n s = some t → t.fl.length = n ∧ s.at_ ≤ t.at_ := by
  intro k
  induction k with
  | zero =>
    intro s t h hs ht
    rw [fAll_done (by omega)] at ht
    cases ht
    exact ⟨by omega, Nat.le_refl _⟩
  | succ k ih =>
    intro s t h hs ht
    by_cases hl : s.fl.length < n
    · cases hk : fOk zs n s with
      | false => rw [fAll_not hl hk] at ht; cases ht
      | true =>
        rw [fAll_step hl hk] at ht
        have hz := fNext_len zs s
        have hle : s.fl.length + 1 + fMore zs s.at_ ≤ n := by unfold fOk at hk; simp at hk; omega
        have h1 := ih (fNext zs s) t (by omega) (by omega) ht
        refine ⟨h1.1, Nat.le_trans ?_ h1.2⟩
        show s.at_ ≤ s.at_ + _
        omega
    · rw [fAll_done (by omega)] at ht
      cases ht
      exact ⟨by omega, Nat.le_refl _⟩

/-- A change as a flag tells it: how many bytes it has, and what it is. -/
def cw (sh pl f : Int) : Nat := if fb f sh then 1 else if fb f pl then 0 else 2
def cv (zs : List Int) (sh pl f : Int) (i : Nat) : Int := if fb f sh then (if fb f pl then n1at zs i else - n1at zs i) else if fb f pl then 0 else sgn (n2at zs i)
def pkAt (zs : List Int) (sh pl : Int) (fl : List Int) (a : Nat) : Nat → Nat × Int
  | 0 => (a, 0)
  | k + 1 => ((pkAt zs sh pl fl a k).1 + cw sh pl (fl.getD k 0), (pkAt zs sh pl fl a k).2 + cv zs sh pl (fl.getD k 0) (pkAt zs sh pl fl a k).1)
def pkOk (zs : List Int) (sh pl : Int) (fl : List Int) (a k : Nat) : Bool := (List.range k).all fun i => fitsB (pkAt zs sh pl fl a (i + 1)).2
def pkVs (zs : List Int) (sh pl : Int) (fl : List Int) (a k : Nat) : List Int := (List.range k).map fun i => (pkAt zs sh pl fl a (i + 1)).2
section
variable (zs : List Int) (sh pl : Int) (fl : List Int) (a : Nat)
theorem pkVs_len (k : Nat) : (pkVs zs sh pl fl a k).length = k := by simp [pkVs]
theorem pkVs_succ (k : Nat) : pkVs zs sh pl fl a (k + 1) = pkVs zs sh pl fl a k ++ [(pkAt zs sh pl fl a (k + 1)).2] := by simp [pkVs, List.range_succ]
theorem pkVs_get {k i : Nat} (h : i < k) : (pkVs zs sh pl fl a k)[i]? = some (pkAt zs sh pl fl a (i + 1)).2 := by simp [pkVs, h]
theorem pkVs_set (k n : Nat) (h : k < n) : (pkVs zs sh pl fl a k ++ List.replicate (n - k) 0).set k (pkAt zs sh pl fl a (k + 1)).2 = pkVs zs sh pl fl a (k + 1) ++ List.replicate (n - (k + 1)) 0 := by
  rw [List.set_append_right _ _ (by rw [pkVs_len]; exact Nat.le_refl _), pkVs_len, Nat.sub_self, pkVs_succ, List.append_assoc, show n - k = (n - (k + 1)) + 1 by omega, List.replicate_succ]
  rfl
theorem pkOk_succ (k : Nat) : pkOk zs sh pl fl a (k + 1) = (pkOk zs sh pl fl a k && fitsB (pkAt zs sh pl fl a (k + 1)).2) := by simp [pkOk, List.range_succ]
variable {zs sh pl fl a}
theorem pkOk_not {k n : Nat} (h : fitsB (pkAt zs sh pl fl a (k + 1)).2 = false) (hn : k < n) : pkOk zs sh pl fl a n = false := by
  unfold pkOk
  rw [List.all_eq_false]
  exact ⟨k, List.mem_range.2 hn, by rw [h]; simp⟩
theorem pkOk_at {n k : Nat} (h : pkOk zs sh pl fl a n = true) (hk : k ≤ n) : -32768 ≤ (pkAt zs sh pl fl a k).2 ∧ (pkAt zs sh pl fl a k).2 ≤ 32767 := by
  cases k with
  | zero => simp [pkAt]
  | succ k =>
    unfold pkOk at h
    rw [List.all_eq_true] at h
    exact fitsB_true (h k (List.mem_range.2 (by omega)))
theorem pkAt_mono (k : Nat) : ∀ m, (pkAt zs sh pl fl a k).1 ≤ (pkAt zs sh pl fl a (k + m)).1
  | 0 => Nat.le_refl _
  | m + 1 => Nat.le_trans (pkAt_mono k m) (by rw [show k + (m + 1) = (k + m) + 1 by omega]; show _ ≤ _ + _; omega)
end

/-- What bytes are as an outline. -/
def oEs (zs : List Int) (n : Nat) : List Int := (List.range n).map fun i => n2at zs (10 + 2 * i)
def oSz (zs : List Int) (n : Nat) : Nat := (n2at zs (10 + 2 * n)).toNat
def oA (zs : List Int) (n : Nat) : Nat := 12 + 2 * n + oSz zs n
def oFs (zs : List Int) (n : Nat) : Option FS := fAll zs (cntE (oEs zs n)) ⟨[], oA zs n⟩
def oXe (zs : List Int) (s : FS) : Nat := (pkAt zs 2 16 s.fl s.at_ s.fl.length).1
def oEnd (zs : List Int) (s : FS) : Nat := (pkAt zs 4 32 s.fl (oXe zs s) s.fl.length).1
def oPs (zs : List Int) (s : FS) (k : Nat) : List Sp := (List.range k).map fun i => ((pkAt zs 2 16 s.fl s.at_ (i + 1)).2, (pkAt zs 4 32 s.fl (oXe zs s) (i + 1)).2, fb (s.fl.getD i 0) 1)
def oGl (zs : List Int) (n : Nat) (s : FS) : Gl := ⟨sgn (n2at zs 2), sgn (n2at zs 4), sgn (n2at zs 6), sgn (n2at zs 8), oEs zs n, (zs.drop (12 + 2 * n)).take (oSz zs n), oPs zs s s.fl.length⟩
def oPk (zs : List Int) (s : FS) : Bool := pkOk zs 2 16 s.fl s.at_ s.fl.length && pkOk zs 4 32 s.fl (oXe zs s) s.fl.length
def oPut (zs : List Int) (n : Nat) (s : FS) : Option (Gl × Nat) := if oPk zs s && decide (oEnd zs s ≤ zs.length) then some (oGl zs n s, oEnd zs s) else none
def oTake (zs : List Int) (n : Nat) : Option FS → Option (Gl × Nat)
  | none => none
  | some s => oPut zs n s
def oNum (zs : List Int) (n : Nat) : Option (Gl × Nat) := if riseN (oEs zs n) n then oTake zs n (oFs zs n) else none
def oParse (zs : List Int) : Option (Gl × Nat) := if 32767 < n2at zs 0 then none else oNum zs (n2at zs 0).toNat

theorem oEs_len (zs : List Int) (n : Nat) : (oEs zs n).length = n := by simp [oEs]
theorem oEs_get (zs : List Int) {n i : Nat} (h : i < n) : (oEs zs n)[i]? = some (n2at zs (10 + 2 * i)) := by simp [oEs, h]
theorem oEs_getD (zs : List Int) {n i : Nat} (h : i < n) : (oEs zs n).getD i 0 = n2at zs (10 + 2 * i) := by simp [oEs, h]
theorem oEs_succ (zs : List Int) (n : Nat) : oEs zs (n + 1) = oEs zs n ++ [n2at zs (10 + 2 * n)] := by simp [oEs, List.range_succ]
theorem oEs_set (zs : List Int) (k n : Nat) (h : k < n) : (oEs zs k ++ List.replicate (n - k) 0).set k (n2at zs (10 + 2 * k)) = oEs zs (k + 1) ++ List.replicate (n - (k + 1)) 0 := by
  rw [List.set_append_right _ _ (by rw [oEs_len]; exact Nat.le_refl _), oEs_len, Nat.sub_self, oEs_succ, List.append_assoc, show n - k = (n - (k + 1)) + 1 by omega, List.replicate_succ]
  rfl
theorem oEs_riseA (zs : List Int) {n k : Nat} (h : k < n) : riseA (oEs zs n) k = (decide (k = 0) || decide (n2at zs (10 + 2 * (k - 1)) < n2at zs (10 + 2 * k))) := by
  unfold riseA
  rw [oEs_getD zs h, oEs_getD zs (show k - 1 < n by omega)]
theorem oPs_len (zs : List Int) (s : FS) (k : Nat) : (oPs zs s k).length = k := by simp [oPs]
theorem oPs_succ (zs : List Int) (s : FS) (k : Nat) : oPs zs s (k + 1) = oPs zs s k ++ [((pkAt zs 2 16 s.fl s.at_ (k + 1)).2, (pkAt zs 4 32 s.fl (oXe zs s) (k + 1)).2, fb (s.fl.getD k 0) 1)] := by simp [oPs, List.range_succ]
theorem oPs_set (zs : List Int) (s : FS) (k n : Nat) (h : k < n) : (oPs zs s k ++ List.replicate (n - k) ((0, 0, false) : Sp)).set k ((pkAt zs 2 16 s.fl s.at_ (k + 1)).2, (pkAt zs 4 32 s.fl (oXe zs s) (k + 1)).2, fb (s.fl.getD k 0) 1) = oPs zs s (k + 1) ++ List.replicate (n - (k + 1)) (0, 0, false) := by
  rw [List.set_append_right _ _ (by rw [oPs_len]; exact Nat.le_refl _), oPs_len, Nat.sub_self, oPs_succ, List.append_assoc, show n - k = (n - (k + 1)) + 1 by omega, List.replicate_succ]
  rfl
theorem oXe_le (zs : List Int) (s : FS) : s.at_ ≤ oXe zs s ∧ oXe zs s ≤ oEnd zs s := by
  constructor
  · have := pkAt_mono (zs := zs) (sh := 2) (pl := 16) (fl := s.fl) (a := s.at_) 0 s.fl.length
    rw [Nat.zero_add] at this
    exact this
  · have := pkAt_mono (zs := zs) (sh := 4) (pl := 32) (fl := s.fl) (a := oXe zs s) 0 s.fl.length
    rw [Nat.zero_add] at this
    exact this

end Go.Proofs.Ytgafjieghckimaa

/- compo: glyphs made of parts: plain lists. -/
namespace Go.Proofs.Ytgafjieghckimaa
open Go.RowKit
set_option linter.unusedVariables false

theorem ofInt_w16 (n : Nat) (h : n < 65536) : (BitVec.ofInt 16 (n : Int)).toNat = n := by
  rw [BitVec.toNat_ofInt]
  omega
theorem wrap_w16 (n : Nat) (h : n < 65536) : IntKind.u16.wrap (n : Int) = (n : Int) := by
  have e : (n : Int) % 2 ^ 16 = n := Int.emod_eq_of_lt (by omega) (by omega)
  simp only [IntKind.wrap, IntKind.bits, IntKind.signed, e]
  simp
theorem and_w16 {n m : Nat} (hn : n < 65536) (hm : m < 65536) : bits .and .u16 (n : Int) (m : Int) = ((n &&& m : Nat) : Int) := by
  show IntKind.u16.wrap ((BitVec.ofInt 16 (n : Int) &&& BitVec.ofInt 16 (m : Int)).toNat : Int) = _
  rw [BitVec.toNat_and, ofInt_w16 n hn, ofInt_w16 m hm]
  exact wrap_w16 _ (Nat.lt_of_le_of_lt Nat.and_le_left hn)
theorem andNot_w16 {n m : Nat} (hn : n < 65536) (hm : m < 65536) : bits .andNot .u16 (n : Int) (m : Int) = ((n &&& (65535 - m) : Nat) : Int) := by
  show IntKind.u16.wrap ((BitVec.ofInt 16 (n : Int) &&& ~~~BitVec.ofInt 16 (m : Int)).toNat : Int) = _
  rw [BitVec.toNat_and, BitVec.toNat_not, ofInt_w16 n hn, ofInt_w16 m hm]
  exact wrap_w16 _ (Nat.lt_of_le_of_lt Nat.and_le_left hn)
theorem and_pow (n i : Nat) : n &&& 2 ^ i = if n / 2 ^ i % 2 = 1 then 2 ^ i else 0 := by
  apply Nat.eq_of_testBit_eq
  intro j
  rw [Nat.testBit_and, Nat.testBit_two_pow]
  have ht : n.testBit i = decide (n / 2 ^ i % 2 = 1) := Nat.testBit_eq_decide_div_mod_eq
  by_cases hij : i = j
  · subst hij
    rw [ht]
    split
    · rename_i h; rw [decide_eq_true h, Nat.testBit_two_pow]; rfl
    · rename_i h; rw [decide_eq_false h, Nat.zero_testBit]; rfl
  · rw [decide_eq_false hij, Bool.and_false]
    split
    · rw [Nat.testBit_two_pow, decide_eq_false hij]
    · rw [Nat.zero_testBit]
theorem fb_nat (n k : Nat) : fb (n : Int) (k : Int) = decide (n / k % 2 = 1) := by
  unfold fb
  congr 1
  rw [← Int.natCast_ediv]
  exact propext ⟨fun h => by omega, fun h => by omega⟩
theorem and_bit {n : Nat} (hn : n < 65536) (i : Nat) (hi : i < 16) : (bits .and .u16 (n : Int) ((2 ^ i : Nat) : Int) != 0) = fb (n : Int) ((2 ^ i : Nat) : Int) := by
  have h2 : 2 ^ i < 65536 := by
    have : 2 ^ i < 2 ^ 16 := Nat.pow_lt_pow_right (by omega) hi
    simpa using this
  have hp : 0 < 2 ^ i := Nat.two_pow_pos i
  rw [and_w16 hn h2, fb_nat, and_pow]
  split
  · rename_i h
    rw [decide_eq_true h, bne_iff_ne]
    omega
  · rename_i h; rw [decide_eq_false h]; simp
theorem nat_of {f : Int} (h0 : 0 ≤ f) (h1 : f ≤ 65535) : ∃ n : Nat, f = (n : Int) ∧ n < 65536 := ⟨f.toNat, by omega, by omega⟩
theorem w_and1 {f : Int} (h0 : 0 ≤ f) (h1 : f ≤ 65535) : (bits .and .u16 f 1 != 0) = fb f 1 := by
  obtain ⟨n, rfl, hn⟩ := nat_of h0 h1
  exact and_bit hn 0 (by omega)
theorem w_and2 {f : Int} (h0 : 0 ≤ f) (h1 : f ≤ 65535) : (bits .and .u16 f 2 != 0) = fb f 2 := by
  obtain ⟨n, rfl, hn⟩ := nat_of h0 h1
  exact and_bit hn 1 (by omega)
theorem w_and256 {f : Int} (h0 : 0 ≤ f) (h1 : f ≤ 65535) : (bits .and .u16 f 256 != 0) = fb f 256 := by
  obtain ⟨n, rfl, hn⟩ := nat_of h0 h1
  exact and_bit hn 8 (by omega)
theorem w_and32 {f : Int} (h0 : 0 ≤ f) (h1 : f ≤ 65535) : (bits .and .u16 f 32 != 0) = fb f 32 := by
  obtain ⟨n, rfl, hn⟩ := nat_of h0 h1
  exact and_bit hn 5 (by omega)

/-- The three kinds' bits. -/
def knd (f : Int) : Int := (if fb f 8 then 8 else 0) + (if fb f 64 then 64 else 0) + (if fb f 128 then 128 else 0)
theorem w_and200 {f : Int} (h0 : 0 ≤ f) (h1 : f ≤ 65535) : bits .and .u16 f 200 = knd f := by
  obtain ⟨n, rfl, hn⟩ := nat_of h0 h1
  have e := and_w16 hn (show 200 < 65536 by omega)
  rw [show (200 : Nat) = 2 ^ 3 ||| (2 ^ 6 ||| 2 ^ 7) by decide, Nat.and_or_distrib_left, Nat.and_or_distrib_left, and_pow, and_pow, and_pow] at e
  unfold knd
  rw [show (8 : Int) = ((8 : Nat) : Int) by rfl, show (64 : Int) = ((64 : Nat) : Int) by rfl, show (128 : Int) = ((128 : Nat) : Int) by rfl, fb_nat, fb_nat, fb_nat]
  refine Eq.trans e ?_
  by_cases a : n / 8 % 2 = 1 <;> by_cases b : n / 64 % 2 = 1 <;> by_cases c : n / 128 % 2 = 1 <;> simp [a, b, c]
theorem w_known {f : Int} (h0 : 0 ≤ f) (h1 : f ≤ 65535) : (bits .andNot .u16 f 6095 != 0) = (fb f 16 || fb f 32 || fb f 2048 || decide (8192 ≤ f)) := by
  obtain ⟨n, rfl, hn⟩ := nat_of h0 h1
  have e := andNot_w16 hn (show 6095 < 65536 by omega)
  rw [show (65535 - 6095 : Nat) = 2 ^ 4 ||| (2 ^ 5 ||| (2 ^ 11 ||| (2 ^ 13 ||| (2 ^ 14 ||| 2 ^ 15)))) by decide] at e
  simp only [Nat.and_or_distrib_left, and_pow] at e
  have e' : bits .andNot .u16 (n : Int) 6095 = _ := e
  rw [e', show (16 : Int) = ((16 : Nat) : Int) by rfl, show (32 : Int) = ((32 : Nat) : Int) by rfl, show (2048 : Int) = ((2048 : Nat) : Int) by rfl, fb_nat, fb_nat, fb_nat]
  have hd : decide ((8192 : Int) ≤ (n : Int)) = (decide (n / 2 ^ 13 % 2 = 1) || decide (n / 2 ^ 14 % 2 = 1) || decide (n / 2 ^ 15 % 2 = 1)) := by
    rw [Bool.eq_iff_iff]
    simp only [Bool.or_eq_true, decide_eq_true_eq]
    omega
  rw [hd]
  by_cases a : n / 2 ^ 4 % 2 = 1 <;> by_cases b : n / 2 ^ 5 % 2 = 1 <;> by_cases c : n / 2 ^ 11 % 2 = 1 <;> by_cases d : n / 2 ^ 13 % 2 = 1 <;> by_cases g : n / 2 ^ 14 % 2 = 1 <;> by_cases h : n / 2 ^ 15 % 2 = 1 <;> simp_all
theorem w_or32 {f : Int} (h0 : 0 ≤ f) (h1 : f ≤ 65535) (hb : fb f 32 = false) : bits .or .u16 f 32 = f + 32 := by
  obtain ⟨n, rfl, hn⟩ := nat_of h0 h1
  show IntKind.u16.wrap ((BitVec.ofInt 16 (n : Int) ||| BitVec.ofInt 16 ((32 : Nat) : Int)).toNat : Int) = _
  rw [BitVec.toNat_or, ofInt_w16 n hn, ofInt_w16 32 (by omega)]
  have hz : n &&& 32 = 0 := by
    have := and_pow n 5
    rw [show (32 : Int) = ((32 : Nat) : Int) by rfl, fb_nat] at hb
    simp only [decide_eq_false_iff_not] at hb
    rw [if_neg (by simpa using hb)] at this
    simpa using this
  have ho : n ||| 32 = n + 32 := by
    have h := BitVec.add_eq_or_of_and_eq_zero (BitVec.ofNat 32 n) (BitVec.ofNat 32 32) (by
      apply BitVec.eq_of_toNat_eq
      rw [BitVec.toNat_and, BitVec.toNat_ofNat, BitVec.toNat_ofNat, Nat.mod_eq_of_lt (by omega), Nat.mod_eq_of_lt (by omega), hz]
      rfl)
    have h2 := congrArg BitVec.toNat h
    rw [BitVec.toNat_add, BitVec.toNat_or, BitVec.toNat_ofNat, BitVec.toNat_ofNat, Nat.mod_eq_of_lt (by omega), Nat.mod_eq_of_lt (by omega), Nat.mod_eq_of_lt (by omega)] at h2
    exact h2.symm
  rw [ho, wrap_w16 _ (by
    have := and_pow n 5
    rw [show (2 : Nat) ^ 5 = 32 by rfl, hz] at this
    split at this
    · omega
    · omega)]
  rfl

/-- A part: which flags, which glyph, where, how. -/
structure Pt where
  f : Int
  i : Int
  x : Int
  y : Int
  xx : Int
  xy : Int
  yx : Int
  yy : Int
/-- A glyph that is made of others. -/
structure Cg where
  x0 : Int
  x1 : Int
  x2 : Int
  x3 : Int
  ps : List Pt
  pr : List Int
def byteB (n : Int) : Bool := decide (-128 ≤ n) && decide (n ≤ 127)
def straight (p : Pt) : Bool := decide (p.xy = 0) && decide (p.yx = 0)
def unitB (p : Pt) : Bool := decide ([p.xx, p.xy, p.yx, p.yy] = [16384, 0, 0, 16384])
/-- Do the numbers fit the kind? -/
def matB (k : Int) (p : Pt) : Bool := if k = 8 then straight p && decide (p.xx = p.yy) else if k = 64 then straight p else if k = 128 then true else unitB p
def twoK (f : Int) : Bool := (fb f 8 && fb f 64) || (fb f 8 && fb f 128) || (fb f 64 && fb f 128)
def strange (f : Int) : Bool := fb f 16 || fb f 32 || fb f 2048 || decide (8192 ≤ f)
def ptRight (p : Pt) : Bool := !strange p.f && fb p.f 2 && !twoK p.f && matB (knd p.f) p && (fb p.f 1 || (byteB p.x && byteB p.y))
structure Pt.ok (p : Pt) : Prop where
  f : 0 ≤ p.f ∧ p.f ≤ 65535
  i : 0 ≤ p.i ∧ p.i ≤ 65535
  x : -32768 ≤ p.x ∧ p.x ≤ 32767
  y : -32768 ≤ p.y ∧ p.y ≤ 32767
  xx : -32768 ≤ p.xx ∧ p.xx ≤ 32767
  xy : -32768 ≤ p.xy ∧ p.xy ≤ 32767
  yx : -32768 ≤ p.yx ∧ p.yx ≤ 32767
  yy : -32768 ≤ p.yy ∧ p.yy ≤ 32767
structure Cg.ok (g : Cg) : Prop where
  bx : ∀ x ∈ [g.x0, g.x1, g.x2, g.x3], -32768 ≤ x ∧ x ≤ 32767
  ps : ∀ p ∈ g.ps, p.ok
  pr : Bytes g.pr
theorem knd_in (f : Int) : knd f ∈ ([0, 8, 64, 72, 128, 136, 192, 200] : List Int) := by
  unfold knd
  cases fb f 8 <;> cases fb f 64 <;> cases fb f 128 <;> decide
/-- How many bits of 200 are set. -/
def onesK (k : Int) : Int := if k = 0 then 0 else if k = 8 ∨ k = 64 ∨ k = 128 then 1 else if k = 200 then 3 else 2
theorem twoK_ones (f : Int) : decide (1 < onesK (knd f)) = twoK f := by
  unfold knd twoK
  cases fb f 8 <;> cases fb f 64 <;> cases fb f 128 <;> decide

/-- Has the last one a program? -/
def codeB (ps : List Pt) : Bool := match ps.getLast? with
  | some p => fb p.f 256
  | none => false
def partsOk (ps : List Pt) (k : Nat) : Bool := (List.range k).all fun i => match ps[i]? with
  | some p => ptRight p && !(decide (i + 1 < ps.length) && fb p.f 256)
  | none => false
def cRight (g : Cg) : Bool := decide (1 ≤ g.ps.length) && decide (g.ps.length ≤ 200) && decide (g.pr.length ≤ 65535) && partsOk g.ps g.ps.length && (codeB g.ps || decide (g.pr.length = 0))
theorem partsOk_succ (ps : List Pt) (k : Nat) : partsOk ps (k + 1) = (partsOk ps k && match ps[k]? with
  | some p => ptRight p && !(decide (k + 1 < ps.length) && fb p.f 256)
  | none => false) := by simp [partsOk, List.range_succ]
theorem partsOk_not {ps : List Pt} {k n : Nat} {p : Pt} (hp : ps[k]? = some p) (h : (ptRight p && !(decide (k + 1 < ps.length) && fb p.f 256)) = false) (hn : k < n) : partsOk ps n = false := by
  unfold partsOk
  rw [List.all_eq_false]
  refine ⟨k, List.mem_range.2 hn, ?_⟩
  rw [hp]
  simp only [h]
  decide
end Go.Proofs.Ytgafjieghckimaa

/- A region that draws its order, whose operations read and whose calls make memory of their own and answer values: walked once. -/
namespace Go.Proofs.Ytgafjieghckimaa
open Go.RowKit
set_option linter.unusedVariables false

/-- w with blocks behind it, at another place of the tape. -/
def gw (w : World) (n : Nat) (os : Array Obj) : World := { w with heap := w.heap ++ os, drawn := n }

theorem gw_size (w : World) (n : Nat) (os : Array Obj) : w.heap.size ≤ (gw w n os).heap.size := by simp [gw]

theorem gw_below (w : World) (n : Nat) (os : Array Obj) : Below w.heap.size w (gw w n os) :=
  ⟨rfl, rfl, rfl, gw_size w n os, fun k hk => by simp [gw, Array.getElem?_append, hk]⟩

theorem below_gw {w w' : World} (h : Below w.heap.size w w') : ∃ p : GrownBy, w' = gw w p.n p.os := by
  refine ⟨⟨w'.drawn, w'.heap.extract w.heap.size w'.heap.size⟩, ?_⟩
  obtain ⟨h1, h2, h3, h4, h5⟩ := h
  cases w'
  cases w
  simp only [gw, World.mk.injEq] at *
  subst h1 h2 h3
  simp only [and_true]
  rename_i heap' _ heap _ _ _ _
  apply Array.ext_getElem?
  intro i
  rw [Array.getElem?_append]
  split
  · rename_i hi; exact h5 i hi
  · rename_i hi
    rw [Array.getElem?_extract]
    split
    · congr 1; omega
    · rw [Array.getElem?_eq_none (by omega)]

theorem gw_cell {w : World} {a : Addr} {v : Value} (h : w.cell? a = some v) (n : Nat) (os : Array Obj) : (gw w n os).cell? a = some v := by
  have hb : a.block < w.heap.size := World.block_lt_of_cell? w _ h
  exact (World.cell?_of_block (w := w) ((gw_below w n os).block _ hb)).trans h

theorem gw_frozen {w : World} {a : Addr} (hb : a.block < w.heap.size) (n : Nat) (os : Array Obj) : (gw w n os).frozen? a = w.frozen? a := (gw_below w n os).frozen hb

theorem region_below {P : Program} {id : Nat} {Q : Exit → Act → World → Prop} {a : Act} {w : World} {l : List Oper} (hm : P.follows .mixedOrders = true) (hB : Region.lexB .any l.toArray = true)
    (h : wpQuiet P l.toArray (fun w' => ∃ p : GrownBy, w' = gw w p.n p.os) (fun a' => ∀ w', (∃ p : GrownBy, w' = gw w p.n p.os) → Q .normal a' w') l a) : (Code.region id l.toArray true).wp P Q a w :=
  wp_region_quiet (C := fun w' => ∃ p : GrownBy, w' = gw w p.n p.os) hm hB ⟨⟨w.drawn + 1, #[]⟩, by simp [gw]⟩ (by simpa using h)

theorem calls_gw {P : Program} {f : FuncId} {args : Array Value} {w : World} {n : Nat} {os : Array Obj} {v : Value}
    (h : Calls P f args (gw w n os) fun e w' => e = .returned v ∧ Below (gw w n os).heap.size (gw w n os) w') : Calls P f args (gw w n os) fun e w'' => e = .returned v ∧ ∃ p : GrownBy, w'' = gw w p.n p.os :=
  h.mono fun _ _ ⟨he, hb⟩ => ⟨he, below_gw ((gw_below w n os).trans (hb.mono (gw_size w n os)))⟩

theorem calls_gw_same {P : Program} {f : FuncId} {args : Array Value} {w : World} {n : Nat} {os : Array Obj} {v : Value}
    (h : Calls P f args (gw w n os) fun e w' => e = .returned v ∧ w' = gw w n os) : Calls P f args (gw w n os) fun e w'' => e = .returned v ∧ ∃ p : GrownBy, w'' = gw w p.n p.os :=
  h.mono fun _ _ ⟨he, hb⟩ => ⟨he, ⟨n, os⟩, hb⟩

end Go.Proofs.Ytgafjieghckimaa

/- What package dot answers (Round, Apply, Move, Scale, Unit), and the document's own answers, as contracts over this seat's translation. -/
namespace Go.Proofs.Ytgafjieghckimaa
open Go.RowKit
set_option linter.unusedVariables false

/-- To the nearest of 16384ths, the half up. -/
def rnd (n : Int) : Int := (n + 8192) / 16384

theorem round_any (n : Int) (w : World) (h0 : -4611686018427387904 ≤ n) (h1 : n ≤ 4611686018427387904) :
    Calls Try.prog 128 #[.int .i64 n] w fun e w' => e = .returned (.int .i64 (rnd n)) ∧ w' = w := by
  go_enter Try.func128, Try.ntmps128
  go_wp2
  go_ret
  exact ⟨rfl, rfl⟩

/-- A point as a value. -/
abbrev ptV (x y : Int) (on : Bool) : Value := .agg #[.int .i64 x, .int .i64 y, .bool on]
abbrev mxV (a b c d : Int) : Value := .agg #[.int .i16 a, .int .i16 b, .int .i16 c, .int .i16 d]

theorem move_any (x y : Int) (on : Bool) (dx dy : Int) (w : World) (hx : -1000000000000000000 ≤ x) (hx' : x ≤ 1000000000000000000) (hy : -1000000000000000000 ≤ y) (hy' : y ≤ 1000000000000000000)
    (hdx : -1000000000000000000 ≤ dx) (hdx' : dx ≤ 1000000000000000000) (hdy : -1000000000000000000 ≤ dy) (hdy' : dy ≤ 1000000000000000000) :
    Calls Try.prog 118 #[ptV x y on, .int .i64 dx, .int .i64 dy] w fun e w' => e = .returned (ptV (x + dx) (y + dy) on) ∧ Below w.heap.size w w' := by
  go_enter Try.func118, Try.ntmps118
  go_wp2
  refine bodyPost_ret (v := ptV (x + dx) (y + dy) on) (by simp [results, Try.results118, go_sem]) rfl ⟨rfl, ?_⟩
  exact ((Below.refl _ _).alloc (Nat.le_refl _) _).alloc (by simp) _

/-- A region that draws its order, all of which only reads and asks but for its end. -/
theorem region_tail {P : Program} {id : Nat} {Q : Exit → Act → World → Prop} {a : Act} {w : World} {l : List Oper} (n : Nat) (hm : P.follows .mixedOrders = true) (hB : Region.lexTailB .any l.toArray n = true)
    (h : wpStill P l.toArray w.drew (fun a' => wpList P l.toArray Q (l.drop n) a' w.drew) (l.take n) a) : (Code.region id l.toArray true).wp P Q a w := wp_region_still_tail n hm hB h

theorem mul_bd (a x : Int) (a0 : -32768 ≤ a) (a1 : a ≤ 32767) (x0 : -2199023255552 ≤ x) (x1 : x ≤ 2199023255552) : -72057594037927936 ≤ a * x ∧ a * x ≤ 72057594037927936 := by
  have h1 : a.natAbs ≤ 32768 := by omega
  have h2 : x.natAbs ≤ 2199023255552 := by omega
  have h3 : (a * x).natAbs ≤ 72057594037927936 := by
    rw [Int.natAbs_mul]
    exact Nat.mul_le_mul h1 h2
  omega

set_option maxHeartbeats 1000000 in
set_option maxRecDepth 100000 in
theorem apply_any (a b c d x y : Int) (on : Bool) (w : World) (a0 : -32768 ≤ a) (a1 : a ≤ 32767) (b0 : -32768 ≤ b) (b1 : b ≤ 32767) (c0 : -32768 ≤ c) (c1 : c ≤ 32767) (d0 : -32768 ≤ d) (d1 : d ≤ 32767)
    (x0 : -2199023255552 ≤ x) (x1 : x ≤ 2199023255552) (y0 : -2199023255552 ≤ y) (y1 : y ≤ 2199023255552) :
    Calls Try.prog 117 #[mxV a b c d, ptV x y on] w fun e w' => e = .returned (ptV (rnd (a * x + c * y)) (rnd (b * x + d * y)) on) ∧ Below w.heap.size w w' := by
  obtain ⟨p0, p1⟩ := mul_bd a x a0 a1 x0 x1
  obtain ⟨q0, q1⟩ := mul_bd c y c0 c1 y0 y1
  obtain ⟨r0, r1⟩ := mul_bd b x b0 b1 x0 x1
  obtain ⟨s0, s1⟩ := mul_bd d y d0 d1 y0 y1
  have e1 : IntKind.i64.wrap (a * x) = a * x := IntWalk.i64_in _ (by omega)
  have e2 : IntKind.i64.wrap (c * y) = c * y := IntWalk.i64_in _ (by omega)
  have e3 : IntKind.i64.wrap (b * x) = b * x := IntWalk.i64_in _ (by omega)
  have e4 : IntKind.i64.wrap (d * y) = d * y := IntWalk.i64_in _ (by omega)
  have e5 : IntKind.i64.wrap (a * x + c * y) = a * x + c * y := IntWalk.i64_in _ (by omega)
  have e6 : IntKind.i64.wrap (b * x + d * y) = b * x + d * y := IntWalk.i64_in _ (by omega)
  have f1 : IntKind.i64.wrap a = a := IntWalk.i64_in _ (by omega)
  have f2 : IntKind.i64.wrap b = b := IntWalk.i64_in _ (by omega)
  have f3 : IntKind.i64.wrap c = c := IntWalk.i64_in _ (by omega)
  have f4 : IntKind.i64.wrap d = d := IntWalk.i64_in _ (by omega)
  have k1 := fun W => round_any (a * x + c * y) W (by omega) (by omega)
  have k2 := fun W => round_any (b * x + d * y) W (by omega) (by omega)
  have K1 := Lib.hid k1
  have K2 := Lib.hid k2
  clear k1 k2
  go_enter Try.func117, Try.ntmps117
  go_wp2_with fail
  refine region_tail 31 (by kernel_rfl) (by kernel_rfl) ?_
  simp only [List.take_succ_cons, List.take_zero, List.drop_succ_cons, List.drop_zero]
  repeat still_step
  still_call (K1.out _)
  repeat still_step
  still_call (K2.out _)
  repeat still_step
  refine wpStill_nil ?_
  go_wp2
  refine bodyPost_ret (v := ptV (rnd (a * x + c * y)) (rnd (b * x + d * y)) on) (by simp [results, Try.results117, go_sem]) rfl ⟨rfl, ?_⟩
  exact ((((Below.refl _ _).alloc (Nat.le_refl _) _).alloc (by simp) _).alloc (by simp; omega) _).drew

end Go.Proofs.Ytgafjieghckimaa

/- What the rest of package dot answers (Scale, Unit), and the document's own answers of layer 4, as contracts over this seat's translation. -/
namespace Go.Proofs.Ytgafjieghckimaa
open Go.RowKit
set_option linter.unusedVariables false

theorem kept_new {w w1 : World} {o : Obj} (hb : Below (w.alloc o).heap.size (w.alloc o) w1) : w1.heap[w.heap.size]? = some o := (hb.block _ (by simp)).trans (heap_alloc_new w o)

theorem scale_any (n : Int) (w : World) : Calls Try.prog 47 #[.int .i16 n] w fun e w' => e = .returned (mxV n 0 0 n) ∧ Below w.heap.size w w' := by
  go_enter Try.func47, Try.ntmps47
  go_wp2
  refine bodyPost_ret (v := mxV n 0 0 n) (by simp [results, Try.results47, go_sem]) rfl ⟨rfl, ?_⟩
  exact (Below.refl _ _).alloc (Nat.le_refl _) _

theorem unit_any (w : World) : Calls Try.prog 16 #[] w fun e w' => e = .returned (mxV 16384 0 0 16384) ∧ Below w.heap.size w w' := by
  go_enter Try.func16, Try.ntmps16
  go_wp2_with fail
  refine (scale_any _ _).mono ?_
  rintro e w1 ⟨rfl, hb⟩
  have hk := kept_new hb
  have c0 : w1.cell? ⟨w.heap.size, 0, none⟩ = some (.int .i16 0) := cell_of_row w1 _ 0 _ _ _ hk
  have c1 : w1.cell? ⟨w.heap.size, 1, none⟩ = some (.int .i16 0) := cell_of_row w1 _ 1 _ _ _ hk
  have c2 : w1.cell? ⟨w.heap.size, 2, none⟩ = some (.int .i16 0) := cell_of_row w1 _ 2 _ _ _ hk
  have c3 : w1.cell? ⟨w.heap.size, 3, none⟩ = some (.int .i16 0) := cell_of_row w1 _ 3 _ _ _ hk
  have f0 : ∀ o, w1.frozen? ⟨w.heap.size, o, none⟩ = false := fun o => by simp [World.frozen?, hk]
  have Hk := Lib.hid hk
  clear hk
  go_wp2
  refine bodyPost_ret (v := mxV 16384 0 0 16384) (by simp [results, Try.results16, go_sem, c0, c1, c2, c3]) rfl ⟨rfl, ?_⟩
  exact (((((((Below.refl _ _).alloc (Nat.le_refl _) _).trans (hb.mono (by simp))).setCell (Nat.le_refl _) _).setCell (Nat.le_refl _) _).setCell (Nat.le_refl _) _).setCell (Nat.le_refl _) _)

theorem w64 (x : Int) (h : -9223372036854775808 ≤ x ∧ x ≤ 9223372036854775807) : wrap64 x = x := IntWalk.wrap64_in x h
theorem ret_i64 {a b : Int} (h : a = b) : Ending.returned (.int .i64 a) = .returned (.int .i64 b) := by rw [h]

theorem tm_spec (m : Int) : ∃ q r : Int, m = 16384 * q + r ∧ m.tmod 16384 = r ∧ -16384 < r ∧ r < 16384 ∧ (r < 0 → m < 0) ∧ (0 < r → 0 < m) := by
  refine ⟨m.tdiv 16384, m.tmod 16384, ?_, rfl, ?_⟩
  · have := Int.mul_tdiv_add_tmod m 16384; omega
  · rcases Int.le_total 0 m with h | h
    · rw [Int.tmod_eq_emod_of_nonneg h]; omega
    · have e : m.tmod 16384 = -((-m).tmod 16384) := by rw [Int.neg_tmod]; omega
      rw [e, Int.tmod_eq_emod_of_nonneg (by omega)]; omega

theorem rround_any (n : Int) (w : World) (h0 : -4611686018427387904 ≤ n) (h1 : n ≤ 4611686018427387904) :
    Calls Try.prog 86 #[.int .i64 n] w fun e w' => e = .returned (.int .i64 (rnd n)) ∧ w' = w := by
  obtain ⟨q, r, hq, hr, r0, r1, r2, r3⟩ := tm_spec (n + 8192)
  have Hq := Lib.hid hq
  have Hr := Lib.hid hr
  clear hq hr
  by_cases h : (n + 8192).tmod 16384 < 0
  · have hn : r < 0 := by have := Hr.out; omega
    have e1 : Hid (rnd n = wrap64 ((wrap64 (n + 8192 - wrap64 ((n + 8192).tmod 16384 + 16384))).tdiv 16384)) := by
      show _ = _
      have := Hq.out
      rw [Hr.out, w64 (r + 16384) (by omega), w64 (n + 8192 - (r + 16384)) (by omega), show n + 8192 - (r + 16384) = 16384 * (q - 1) by omega, Int.mul_tdiv_cancel_left _ (by omega), w64 _ (by omega)]
      unfold rnd; omega
    clear r2 r3
    go_enter Try.func86, Try.ntmps86
    go_wp2
    go_ret
    exact ⟨ret_i64 e1.out.symm, rfl⟩
  · have hn : 0 ≤ r := by have := Hr.out; omega
    have e1 : Hid (rnd n = wrap64 ((wrap64 (n + 8192 - (n + 8192).tmod 16384)).tdiv 16384)) := by
      show _ = _
      have := Hq.out
      rw [Hr.out, w64 (n + 8192 - r) (by omega), show n + 8192 - r = 16384 * q by omega, Int.mul_tdiv_cancel_left _ (by omega), w64 _ (by omega)]
      unfold rnd; omega
    clear r2 r3
    go_enter Try.func86, Try.ntmps86
    go_wp2
    go_ret
    exact ⟨ret_i64 e1.out.symm, rfl⟩

end Go.Proofs.Ytgafjieghckimaa

/- Words for slices of structs: rows of elements of k cells, fresh ones, what appends and stores leave, and what comes in. -/
namespace Go.Proofs.Ytgafjieghckimaa
open Go.RowKit Go.ChangeShapes Go.WideShapes
set_option linter.unusedVariables false

/-- The cells of all elements, one behind the other. -/
def flat {α : Type} (enc : α → List Value) (l : List α) : List Value := l.flatMap enc

section
variable {α : Type} {enc : α → List Value} {k : Nat} (hk : ∀ x, (enc x).length = k)
include hk
theorem flat_length (l : List α) : (flat enc l).length = l.length * k := by
  unfold flat
  induction l with
  | nil => simp
  | cons x l ih => rw [List.flatMap_cons, List.length_append, ih, hk, List.length_cons, Nat.succ_mul]; omega
theorem flat_get {l : List α} {j : Nat} {x : α} (h : l[j]? = some x) {i : Nat} (hi : i < k) : (flat enc l)[j * k + i]? = (enc x)[i]? := by
  induction l generalizing j with
  | nil => simp at h
  | cons y l ih =>
    unfold flat at *
    rw [List.flatMap_cons]
    cases j with
    | zero =>
      simp at h
      subst h
      rw [Nat.zero_mul, Nat.zero_add, List.getElem?_append_left (by rw [hk]; exact hi)]
    | succ j =>
      rw [List.getElem?_append_right (by rw [hk, Nat.succ_mul]; omega), hk, Nat.succ_mul, show j * k + k + i - k = j * k + i by omega]
      exact ih (by simpa using h)
theorem flat_take (l : List α) (n : Nat) : (flat enc l).take (n * k) = flat enc (l.take n) := by
  induction l generalizing n with
  | nil => simp [flat]
  | cons y l ih =>
    cases n with
    | zero => simp [flat]
    | succ n =>
      unfold flat at *
      rw [List.flatMap_cons, List.take_succ_cons, List.flatMap_cons, List.take_append, hk, List.take_of_length_le (by rw [hk, Nat.succ_mul]; omega), Nat.succ_mul, show n * k + k - k = n * k by omega, ih]
theorem flat_drop (l : List α) (n : Nat) : (flat enc l).drop (n * k) = flat enc (l.drop n) := by
  induction l generalizing n with
  | nil => simp [flat]
  | cons y l ih =>
    cases n with
    | zero => simp [flat]
    | succ n =>
      unfold flat at *
      rw [List.flatMap_cons, List.drop_succ_cons, List.drop_append, hk, List.drop_of_length_le (by rw [hk, Nat.succ_mul]; omega), List.nil_append, Nat.succ_mul, show n * k + k - k = n * k by omega, ih]
end
theorem flat_append {α : Type} (enc : α → List Value) (a b : List α) : flat enc a ++ flat enc b = flat enc (a ++ b) := by simp [flat]
theorem flat_nil {α : Type} (enc : α → List Value) : flat enc ([] : List α) = [] := rfl
theorem flat_one {α : Type} (enc : α → List Value) (x : α) : flat enc [x] = enc x := by simp [flat]

/-- A slice of n elements of k cells each, that begins at A, shows the elements l. -/
def RowS {α : Type} (enc : α → List Value) (k : Nat) (w : World) (A : Option Addr) (n : Nat) (l : List α) : Prop := l.length = n ∧ Row w A (n * k) (flat enc l)

section
variable {α : Type} {enc : α → List Value} {k : Nat} {w w' : World} {A : Option Addr} {n : Nat} {l : List α}
theorem RowS.len (h : RowS enc k w A n l) : l.length = n := h.1
theorem RowS.empty (w : World) (A : Option Addr) : RowS enc k w A 0 [] := ⟨rfl, by rw [Nat.zero_mul]; exact Row.empty w A⟩
theorem RowS.below (h : RowS enc k w A n l) (hb : Below w.heap.size w w') : RowS enc k w' A n l := ⟨h.1, h.2.below hb⟩
theorem RowS.drewN (h : RowS enc k w A n l) (q : Nat) : RowS enc k (w.drewN q) A n l := h
theorem RowS.drew (h : RowS enc k w A n l) : RowS enc k w.drew A n l := h
theorem RowS.grown {row : Option Nat} (h : RowS enc k w A n l) (hb : w.grownBy w' row) (hne : ∀ g, blockOf A = some g → some g ≠ row) : RowS enc k w' A n l := ⟨h.1, h.2.grown hb hne⟩
theorem RowS.keep (h : RowS enc k w A n l) (hs : w.heap.size ≤ w'.heap.size) (hk : ∀ g, blockOf A = some g → g < w.heap.size → w'.heap[g]? = w.heap[g]?) : RowS enc k w' A n l := ⟨h.1, h.2.keep hs hk⟩
theorem RowS.take (hk : ∀ x, (enc x).length = k) (h : RowS enc k w A n l) {m : Nat} (hm : m ≤ n) : RowS enc k w A m (l.take m) :=
  ⟨by rw [List.length_take, h.1]; omega, by rw [← flat_take hk]; exact h.2.take (Nat.mul_le_mul_right k hm)⟩
/-- The cells of element j. -/
theorem RowS.at (hk : ∀ x, (enc x).length = k) (hk0 : 0 < k) (h : RowS enc k w A n l) {j : Nat} {x : α} (hj : l[j]? = some x) :
    ∃ g off, A = some ⟨g, off, none⟩ ∧ g < w.heap.size ∧ ∀ i u, (enc x)[i]? = some u → w.cell? ⟨g, off + j * k + i, none⟩ = some u := by
  have hl := (List.getElem?_eq_some_iff.1 hj).1
  have hn : 0 < n * k := Nat.mul_pos (by have := h.1; omega) hk0
  obtain ⟨g, off, e, hg, hc⟩ := h.2.2 hn
  refine ⟨g, off, e, hg, fun i u hu => ?_⟩
  rw [Nat.add_assoc]
  refine hc _ u ?_
  have hi : i < k := by have := (List.getElem?_eq_some_iff.1 hu).1; rw [hk] at this; exact this
  rw [flat_get hk hj hi]
  exact hu
end

/-- A slice of elements in memory that was made from block B on: nil, or at the head of a block of its own. -/
def OwnS {α : Type} (t : TypeId) (enc : α → List Value) (k : Nat) (w : World) (B : Nat) (A : Option Addr) (n c : Nat) (l : List α) : Prop := l.length = n ∧ w.ownsRow B t k (.slice A n c) n (flat enc l)

section
variable {α : Type} {t : TypeId} {enc : α → List Value} {k : Nat} {w w' : World} {B : Nat} {A : Option Addr} {n c : Nat} {l : List α}

theorem OwnS.len (h : OwnS t enc k w B A n c l) : l.length = n := h.1

theorem OwnS.shape (h : OwnS t enc k w B A n c l) :
    (A = none ∧ l = [] ∧ n = 0 ∧ c = 0) ∨ ∃ g cur, A = some ⟨g, 0, none⟩ ∧ B ≤ g ∧ g < w.heap.size ∧ w.heap[g]? = some (.cells cur t (0, 0)) ∧ n ≤ c ∧ c ≤ maxLen ∧ cur.size = c * k ∧ cur.toList.take (n * k) = flat enc l := by
  obtain ⟨hl, h⟩ := h
  rcases h.2 with ⟨e, h0⟩ | ⟨g, cap, cur, e, hB, hh, h1, h2, h3, h4⟩
  · injection e with e1 _ e3
    exact .inl ⟨e1, List.eq_nil_of_length_eq_zero (by omega), h0, e3⟩
  · injection e with e1 _ e3
    subst e1 e3
    exact .inr ⟨g, cur, rfl, hB, lt_of_block hh, hh, h1, h2, h3, h4⟩

theorem OwnS.nil (t : TypeId) (enc : α → List Value) (k : Nat) (w : World) (B : Nat) : OwnS t enc k w B none 0 0 [] := ⟨rfl, World.ownsRow_nil _ _ _ _⟩

theorem OwnS.cap (h : OwnS t enc k w B A n c l) : n ≤ c := by
  rcases h.shape with ⟨_, _, rfl, _⟩ | ⟨_, _, _, _, _, _, h1, _⟩
  · simp
  · exact h1

theorem OwnS.row (hk : ∀ x, (enc x).length = k) (h : OwnS t enc k w B A n c l) : RowS enc k w A n l := by
  refine ⟨h.1, by rw [flat_length hk, h.1], fun hn => ?_⟩
  rcases h.shape with ⟨_, _, rfl, _⟩ | ⟨g, cur, rfl, _, hg, hh, _, _, _, h4⟩
  · rw [Nat.zero_mul] at hn; omega
  · refine ⟨g, 0, rfl, hg, fun j u hu => ?_⟩
    rw [Nat.zero_add, cell_of_row w g j cur t (0, 0) hh]
    rw [← h4, List.getElem?_take] at hu
    split at hu
    · simpa using hu
    · cases hu

theorem OwnS.from_ (h : OwnS t enc k w B A n c l) : ∀ g, blockOf A = some g → B ≤ g ∧ g < w.heap.size := by
  intro g hg
  rcases h.shape with ⟨rfl, _⟩ | ⟨g', cur, rfl, h1, h2, _⟩
  · simp [blockOf] at hg
  · simp [blockOf] at hg
    subst hg
    exact ⟨h1, h2⟩

theorem OwnS.keep (h : OwnS t enc k w B A n c l) (hk : ∀ g, blockOf A = some g → w'.heap[g]? = w.heap[g]?) : OwnS t enc k w' B A n c l := by
  refine ⟨h.1, h.2.1, ?_⟩
  rcases h.2.2 with h2 | ⟨g, cap, cur, e, hB, hh, r⟩
  · exact .inl h2
  · refine .inr ⟨g, cap, cur, e, hB, ?_, r⟩
    injection e with e1
    rw [hk g (by rw [e1]; rfl)]
    exact hh

theorem OwnS.grown {row : Option Nat} (h : OwnS t enc k w B A n c l) (hb : w.grownBy w' row) (hne : ∀ g, blockOf A = some g → some g ≠ row) : OwnS t enc k w' B A n c l :=
  h.keep fun g e => hb.block g (h.from_ g e).2 (hne g e)
theorem OwnS.below (h : OwnS t enc k w B A n c l) (hb : Below w.heap.size w w') : OwnS t enc k w' B A n c l := h.keep fun g e => hb.block g (h.from_ g e).2
theorem OwnS.drewN (h : OwnS t enc k w B A n c l) (q : Nat) : OwnS t enc k (w.drewN q) B A n c l := h
theorem OwnS.drew (h : OwnS t enc k w B A n c l) : OwnS t enc k w.drew B A n c l := h
theorem OwnS.alloc (h : OwnS t enc k w B A n c l) (o : Obj) : OwnS t enc k (w.alloc o) B A n c l := h.below ((Below.refl _ _).alloc (Nat.le_refl _) o)
theorem OwnS.mono {B' : Nat} (h : OwnS t enc k w B A n c l) (hB : B' ≤ B) : OwnS t enc k w B' A n c l := by
  refine ⟨h.1, h.2.1, ?_⟩
  rcases h.2.2 with h2 | ⟨g, cap, cur, e, hg, r⟩
  · exact .inl h2
  · exact .inr ⟨g, cap, cur, e, by omega, r⟩

theorem ownS_shape {v : Value} (hl : l.length = n) (h : w.ownsRow B t k v n (flat enc l)) : ∃ A c, v = .slice A n c ∧ OwnS t enc k w B A n c l := by
  rcases h.2 with ⟨e, h0⟩ | ⟨g, cap, cur, e, r⟩
  · subst h0 e
    exact ⟨none, 0, rfl, hl, h⟩
  · subst e
    exact ⟨_, cap, rfl, hl, h⟩

/-- Fresh elements, written out. -/
theorem ownS_lit (w : World) (B : Nat) (t : TypeId) (enc : α → List Value) (k : Nat) (hk : ∀ x, (enc x).length = k) (l : List α) (cs : Array Value) (hcs : cs = (flat enc l).toArray) (n : Nat) (hn : l.length = n) (hB : B ≤ w.heap.size) (hm : n ≤ maxLen) : OwnS t enc k (w.alloc (.cells cs t)) B (some ⟨w.heap.size, 0, none⟩) n n l := by
  subst hcs
  have := World.ownsRow_lit (base := B) (e := t) (size := k) w (flat enc l).toArray n hB hm (by simp [flat_length hk]; rw [hn])
  exact ⟨hn, by simpa using this⟩

/-- A store of one cell into a fresh row. -/
theorem ownS_setCell {g : Nat} (h : OwnS t enc k w B (some ⟨g, 0, none⟩) n c l) {j : Nat} {u : Value} {l' : List α} (hl : l'.length = l.length) (hf : flat enc l' = (flat enc l).set j u) : OwnS t enc k (w.setCell ⟨g, j, none⟩ u) B (some ⟨g, 0, none⟩) n c l' := by
  rcases h.shape with ⟨e, _⟩ | ⟨g', cur, e, hB, hg, hh, h1, h2, h3, h4⟩
  · cases e
  · simp only [Option.some.injEq, Addr.mk.injEq, and_true] at e
    subst e
    refine ⟨by rw [hl]; exact h.1, by rw [hf, List.length_set]; exact h.2.1, .inr ⟨g, c, cur.setIfInBounds j u, rfl, hB, ?_, h1, h2, by simpa using h3, ?_⟩⟩
    · simp [World.setCell, Array.getElem?_modify, hh]
    · rw [hf, ← h4]
      simp [List.take_set]
end

/-- What a call that answers fresh elements and turns nothing old leaves. -/
def RetS {α : Type} (t : TypeId) (enc : α → List Value) (k : Nat) (w : World) (l : List α) (e : Ending) (w' : World) : Prop := ∃ A n c, e = .returned (.slice A n c) ∧ OwnS t enc k w' w.heap.size A n c l ∧ Below w.heap.size w w'

/-- The run of an append of elements that are read onto a fresh slice: the source nil or not. -/
theorem run_append_rowS {P : Program} {α : Type} (w : World) (t : TypeId) (enc : α → List Value) (k : Nat) (hk : ∀ x, (enc x).length = k) (hk0 : 0 < k) (h1 : ∀ x, ∀ u ∈ enc x, u.oneCell' = true) (base T ty : Nat) (i : TypeInfo) (z : Value) (b : Nat) (ht : P.underlying T = some (.slice t)) (hi : P.info? t = some i) (hz : i.zero = some z) (hs : i.size = k) (hzs : z.cells.size = k) (hby : i.bytes = b)
    (A : Option Addr) (n c : Nat) (l : List α) (hown : OwnS t enc k w base A n c l) (A' : Option Addr) (n' c' : Nat) (l' : List α) (hr : RowS enc k w A' n' l')
    (hb : (n + n') * b ≤ 140737488355328) (hm : n + n' ≤ 140737488355328) (hbase : base ≤ w.heap.size) :
    ∃ A2 c2 w', (Builtin.append_ #[T, T] ty #[.slice A n c, .slice A' n' c']).run P w = .ok (.slice A2 (n + n') c2) w' ∧ OwnS t enc k w' base A2 (n + n') c2 (l ++ l') ∧ w.grownBy w' (blockOf A) := by
  have hbo : (Value.slice A n c).ownBlock = blockOf A := by
    rcases hown.shape with ⟨rfl, _⟩ | ⟨g, cur, rfl, _⟩ <;> rfl
  have hyl := hr.len
  by_cases hy : n' = 0
  · obtain rfl : l' = [] := List.eq_nil_of_length_eq_zero (by omega)
    subst hy
    refine ⟨A, c, w, ?_, by simpa using hown, World.grownBy.refl w _⟩
    rcases hown.shape with ⟨rfl, rfl, rfl, rfl⟩ | ⟨g, cur, rfl, _, _, _, hle, _⟩
    · cases A' <;> simp [Builtin.append_, run_underlying ht, sizeOf, typeInfo, hi, Builtin.lenOf, Builtin.firstCells, loadCells, loadCellsFrom]
    · cases A' <;> simp [Builtin.append_, run_underlying ht, sizeOf, typeInfo, hi, Builtin.lenOf, Builtin.firstCells, loadCells, loadCellsFrom, hle, storeCells]
  · obtain ⟨g, off, rfl, hg, hc⟩ := hr.2.2 (Nat.mul_pos (by omega) hk0)
    obtain ⟨v', w', hrun, h2, h3, _⟩ := run_append_own (P := P) w base T ty t i z k b ht hi hz hs hby hzs hk0 (.slice A n c) n (flat enc l) hown.2 ⟨g, off, none⟩ n' c' (flat enc l') (by rw [flat_length hk, hyl])
      (fun j u hu => by rw [Addr.add_lit]; exact hc j u hu) (fun u hu => by unfold flat at hu; obtain ⟨x, _, hx⟩ := List.mem_flatMap.1 hu; exact h1 x u hx) (by simp only [maxLen]; omega) hb hbase
    rw [flat_append] at h2
    obtain ⟨A2, c2, rfl, h2'⟩ := ownS_shape (by rw [List.length_append, hown.len, hyl]) h2
    exact ⟨A2, c2, w', hrun, h2', by rw [← hbo]; exact h3⟩

/-- The same at an operation of the walk. -/
theorem wpList_append_rowS {P : Program} {α : Type} {w : World} {ops : Array Oper} {rest : List Oper} {o : Oper} {a : Act} {Q : Exit → Act → World → Prop} (hgd : o.guard = none) (s x : Operand) (T : TypeId)
    (ho : o.op = .call { callee := .builtin .append, args := #[s, x], argTypes := #[T, T] }) (t : TypeId) (enc : α → List Value) (k : Nat) (hk : ∀ x, (enc x).length = k) (hk0 : 0 < k) (h1 : ∀ x, ∀ u ∈ enc x, u.oneCell' = true)
    (base : Nat) (i : TypeInfo) (z : Value) (b : Nat) (ht : P.underlying T = some (.slice t)) (hi : P.info? t = some i) (hz : i.zero = some z) (hs : i.size = k) (hzs : z.cells.size = k) (hby : i.bytes = b)
    (A : Option Addr) (n c : Nat) (l : List α) (hes : a.eval s = .slice A n c) (hown : OwnS t enc k w base A n c l) (A' : Option Addr) (n' c' : Nat) (l' : List α) (hex : a.eval x = .slice A' n' c') (hr : RowS enc k w A' n' l')
    (hb : (n + n') * b ≤ 140737488355328) (hm : n + n' ≤ 140737488355328) (hbase : base ≤ w.heap.size)
    (h : ∀ A2 c2 w', OwnS t enc k w' base A2 (n + n') c2 (l ++ l') → w.grownBy w' (blockOf A) → wpList P ops Q rest (a.put o.dst (.slice A2 (n + n') c2)) w') : wpList P ops Q (o :: rest) a w := by
  refine wpList_plain hgd fun _ hK => ?_
  obtain ⟨A2, c2, w', hrun, h2, h3⟩ := run_append_rowS (P := P) w t enc k hk hk0 h1 base T o.type i z b ht hi hz hs hzs hby A n c l hown A' n' c' l' hr hb hm hbase
  unfold Oper.wp execOp
  simp only [ho, resolve, invoke, builtin, Sem.run_bind, Sem.run_pure, Result.andThen_ok, List.map_toArray, List.map_cons, List.map_nil, hes, hex, hrun]
  exact hK _ _ (h A2 c2 w' h2 h3)

/-- Elements written out in a block of their own. -/
theorem rowS_vals {α : Type} {enc : α → List Value} {k : Nat} (hk : ∀ x, (enc x).length = k) (w : World) (t : TypeId) (l : List α) (cs : Array Value) (hcs : cs = (flat enc l).toArray) (n : Nat) (hn : l.length = n) : RowS enc k (w.alloc (.cells cs t)) (some ⟨w.heap.size, 0, none⟩) n l := by
  subst hcs
  refine ⟨hn, by rw [flat_length hk, hn], fun _ => ⟨w.heap.size, 0, rfl, by simp, fun j u hu => ?_⟩⟩
  rw [Nat.zero_add, cell_of_row _ _ j _ t (0, 0) (heap_alloc_new w _)]
  simpa using hu

/-- A list out of its elements. -/
theorem list_of {α : Type} {p : Nat → α → Prop} (n : Nat) (h : ∀ i, i < n → ∃ x, p i x) : ∃ l : List α, l.length = n ∧ ∀ i x, l[i]? = some x → p i x := by
  induction n with
  | zero => exact ⟨[], rfl, fun i x hx => by simp at hx⟩
  | succ n ih =>
    obtain ⟨l, hl, hp⟩ := ih fun i hi => h i (by omega)
    obtain ⟨x, hx⟩ := h n (by omega)
    refine ⟨l ++ [x], by simp [hl], fun i y hy => ?_⟩
    rw [List.getElem?_append] at hy
    split at hy
    · exact hp i y hy
    · rename_i hi
      have : i - l.length = 0 := by
        rcases Nat.eq_zero_or_pos (i - l.length) with h0 | h0
        · exact h0
        · rw [List.getElem?_eq_none (by simp; omega)] at hy; cases hy
      rw [this] at hy
      simp at hy
      subst hy
      rw [show i = n by omega]
      exact hx

/-- A slice that comes in: each element's cells, and how they read. -/
theorem open_sliceK {H : Type} {enc : TypeId × Value → H} {P : Program} {w : World} {t e : TypeId} {k : Nat} (ht : P.underlying t = some (.slice e)) (hk : P.cellsOf e = k) {a : Option Addr} {len cap : Nat} {d : DataW H} {p : List MemPlace}
    (h : DataW.Trod enc P w 0 (fun _ => true) true t (.slice a len cap) d p) :
    (a = none ∧ len = 0 ∧ cap = 0) ∨ ∃ x, a = some x ∧ len ≤ cap ∧ cap ≤ maxLen ∧ ∀ i, i < len → ∃ (cs : List Value) (m : Nat) (y : DataW H × List MemPlace), cs.length = k ∧ (∀ j, j < k → w.cell? (x.add (i * k + j)) = cs[j]?) ∧ DataW.trod enc P w 0 (fun _ => true) true m e cs = some y := by
  obtain ⟨fuel, hf⟩ := h
  rcases DataW.trod_slice ht hf with ⟨hcs, _⟩ | ⟨x, l, c, elems, rest, n, _, hcs, _, _, hl, hm, hel, hi, _, _⟩
  · simp [Value.cells] at hcs
    exact .inl ⟨hcs.1, hcs.2.1, hcs.2.2⟩
  · simp [Value.cells] at hcs
    obtain ⟨rfl, rfl, rfl⟩ := hcs
    refine .inr ⟨x, rfl, hl, hm, fun i hlt => ?_⟩
    have h1 := hi i hlt
    rw [hk] at h1
    rw [List.getElem?_eq_getElem (by omega)] at h1
    cases hc : w.cells? 0 (x.add (i * k)) k with
    | none => rw [hc] at h1; simp at h1
    | some cs =>
      rw [hc] at h1
      obtain ⟨_, hcl, hat⟩ := World.cells?_some hc
      exact ⟨cs, n, _, hcl, fun j hj => by rw [← Go.Deep.add_add]; exact hat j hj, h1⟩

/-- Such a slice, once each element is known, is a row. -/
theorem rowS_in {α : Type} {enc : α → List Value} {k : Nat} (hk : ∀ x, (enc x).length = k) {w : World} {x : Addr} {len : Nat} (l : List α) (hl : l.length = len) (hc : ∀ i y, l[i]? = some y → ∀ j u, (enc y)[j]? = some u → w.cell? (x.add (i * k + j)) = some u) : RowS enc k w (some x) len l := by
  refine ⟨hl, by rw [flat_length hk, hl], fun hn => ?_⟩
  have hk0 : 0 < k := Nat.pos_of_mul_pos_left hn
  have hl0 : 0 < len := Nat.pos_of_mul_pos_right hn
  have key : ∀ q u, (flat enc l)[q]? = some u → w.cell? (x.add q) = some u := by
    intro q u hu
    have hq := (List.getElem?_eq_some_iff.1 hu).1
    rw [flat_length hk] at hq
    have hqk : q / k < l.length := Nat.div_lt_of_lt_mul (by rw [Nat.mul_comm]; exact hq)
    have hy : l[q / k]? = some l[q / k] := List.getElem?_eq_getElem hqk
    have he : q / k * k + q % k = q := by rw [Nat.mul_comm]; exact Nat.div_add_mod q k
    have h2 := flat_get hk hy (Nat.mod_lt q hk0)
    rw [he] at h2
    have := hc _ _ hy (q % k) u (by rw [← h2]; exact hu)
    rwa [he] at this
  have h0 : ∃ u, (flat enc l)[0]? = some u := ⟨_, List.getElem?_eq_getElem (by rw [flat_length hk, hl]; exact Nat.mul_pos hl0 hk0)⟩
  obtain ⟨u0, h0⟩ := h0
  have hx := key 0 u0 h0
  have hsp : x.spot = none := by
    cases hs : x.spot with
    | none => rfl
    | some s =>
      rw [show x.add 0 = x by unfold Addr.add; simp] at hx
      unfold World.cell? at hx
      split at hx <;> simp [hs] at hx
  obtain ⟨g, off, sp⟩ := x
  simp only at hsp
  subst hsp
  refine ⟨g, off, rfl, ?_, fun j u hu => by have := key j u hu; rwa [Addr.add_lit] at this⟩
  rw [Addr.add_lit] at hx
  exact World.block_lt_of_cell? w _ hx

theorem madeCells_flat {α : Type} {enc : α → List Value} {k : Nat} (hk : ∀ x, (enc x).length = k) (hk0 : 0 < k) (z : Array Value) (x0 : α) (hz : z.toList = enc x0) (n : Nat) : (madeCells z (n * k)).toList = flat enc (List.replicate n x0) := by
  have hzs : z.size = k := by rw [← hk x0, ← hz, Array.length_toList]
  apply List.ext_getElem?
  intro q
  by_cases hq : q < n * k
  · have hqk : q / k < n := Nat.div_lt_of_lt_mul (by rw [Nat.mul_comm]; exact hq)
    have he : q / k * k + q % k = q := by rw [Nat.mul_comm]; exact Nat.div_add_mod q k
    have h1 := flat_get hk (l := List.replicate n x0) (j := q / k) (x := x0) (by simp [hqk]) (Nat.mod_lt q hk0)
    rw [he] at h1
    rw [h1, ← hz]
    have hm : q % z.size < z.size := Nat.mod_lt _ (by omega)
    simp only [madeCells, Array.toList_map, Array.toList_range, List.getElem?_map, List.getElem?_range hq, Option.map_some, Array.getElem?_toList]
    rw [getElem!_pos z _ hm, ← hzs, Array.getElem?_eq_getElem hm]
  · rw [List.getElem?_eq_none (by simp [madeCells]; omega), List.getElem?_eq_none (by rw [flat_length hk, List.length_replicate]; omega)]

/-- 'make([]T, n)' for structs. -/
theorem wpList_make_S {P : Program} {α : Type} {w : World} {ops : Array Oper} {rest : List Oper} {o : Oper} {a : Act} {Q : Exit → Act → World → Prop} (hg : o.guard = none) (l c : Operand) (T : TypeId) (hop : o.op = Op.makeSlice T l c)
    (t : TypeId) (enc : α → List Value) (k : Nat) (hk : ∀ x, (enc x).length = k) (hk0 : 0 < k) (B : Nat) (i : TypeInfo) (z : Value) (x0 : α) (b : Nat) (h1 : P.underlying T = some (.slice t)) (h2 : P.info? t = some i) (h3 : i.zero = some z) (h4 : i.size = k) (hz : z.cells.toList = enc x0) (h5 : i.bytes = b)
    (L C : Int) (n : Nat) (hl : a.eval l = .int .i64 L) (hc : a.eval c = .int .i64 C) (hL : L = (n : Int)) (hC : C = (n : Int)) (b2 : b * n ≤ 281474976710656) (b3 : n ≤ 9223372036854775807) (b4 : B ≤ w.heap.size)
    (hK : ∀ w', OwnS t enc k w' B (some ⟨w.heap.size, 0, none⟩) n n (List.replicate n x0) → w.grownBy w' none → wpList P ops Q rest (a.put o.dst (.slice (some ⟨w.heap.size, 0, none⟩) n n)) w') : wpList P ops Q (o :: rest) a w := by
  refine wpList_make_full w hg l c T hop B t i z k h1 h2 h3 h4 .i64 .i64 L C n hl hc hL hC (by rw [h5]; exact b2) (by simp only [maxLen]; exact b3) b4 fun w' ho hgr => hK w' ⟨by simp, ?_⟩ hgr
  rw [madeCells_flat hk hk0 _ x0 hz] at ho
  exact ho

/-- One element of a fresh row turned, cell by cell. -/
theorem flat_set {α : Type} {enc : α → List Value} {k : Nat} (hk : ∀ x, (enc x).length = k) (l : List α) (i : Nat) (x : α) (hi : i < l.length) : flat enc (l.set i x) = (flat enc l).take (i * k) ++ (enc x ++ (flat enc l).drop ((i + 1) * k)) := by
  rw [flat_take hk, flat_drop hk, List.set_eq_take_append_cons_drop, if_pos hi]
  simp [flat]

/-- Cells written one behind the other. -/
def setFrom (xs : List Value) (j : Nat) : List Value → List Value
  | [] => xs
  | v :: vs => setFrom (xs.set j v) (j + 1) vs
def setCells (w : World) (g j : Nat) : List Value → World
  | [] => w
  | v :: vs => setCells (w.setCell ⟨g, j, none⟩ v) g (j + 1) vs

theorem setFrom_eq (vs : List Value) : ∀ (xs : List Value) (j : Nat), j + vs.length ≤ xs.length → setFrom xs j vs = xs.take j ++ (vs ++ xs.drop (j + vs.length)) := by
  induction vs with
  | nil => intro xs j _; simp [setFrom]
  | cons v vs ih =>
    intro xs j hj
    simp only [List.length_cons] at hj
    rw [setFrom, ih _ _ (by rw [List.length_set]; omega), List.take_set, List.drop_set_of_lt (by omega), List.set_eq_take_append_cons_drop, if_pos (by rw [List.length_take]; omega), List.take_take, Nat.min_eq_left (by omega), List.drop_take, show j + 1 - (j + 1) = 0 by omega]
    simp only [List.take_zero, List.length_cons, List.append_assoc, List.cons_append, List.nil_append]
    rw [show j + 1 + vs.length = j + (vs.length + 1) by omega]

theorem ownsRow_setCells {t : TypeId} {k g n c B : Nat} (vs : List Value) : ∀ (w : World) (xs : List Value) (j : Nat), w.ownsRow B t k (.slice (some ⟨g, 0, none⟩) n c) n xs → (setCells w g j vs).ownsRow B t k (.slice (some ⟨g, 0, none⟩) n c) n (setFrom xs j vs) := by
  induction vs with
  | nil => intro w xs j h; exact h
  | cons v vs ih =>
    intro w xs j h
    refine ih _ _ _ ?_
    rcases h.2 with ⟨e, _⟩ | ⟨g', cap, cur, e, hB, hh, h1, h2, h3, h4⟩
    · cases e
    · injection e with e1 _ e3
      simp only [Option.some.injEq, Addr.mk.injEq, and_true] at e1
      subst e1 e3
      refine ⟨by rw [List.length_set]; exact h.1, .inr ⟨g, c, cur.setIfInBounds j v, rfl, hB, ?_, h1, h2, by simpa using h3, ?_⟩⟩
      · simp [World.setCell, Array.getElem?_modify, hh]
      · rw [← h4]
        simp [List.take_set]

section
variable {α : Type} {t : TypeId} {enc : α → List Value} {k : Nat} {w : World} {B g n c : Nat} {l : List α}
/-- A store of one element into a fresh row. -/
theorem ownS_store (hk : ∀ x, (enc x).length = k) (h : OwnS t enc k w B (some ⟨g, 0, none⟩) n c l) {i : Nat} (hi : i < n) (x : α) : OwnS t enc k (setCells w g (i * k) (enc x)) B (some ⟨g, 0, none⟩) n c (l.set i x) := by
  refine ⟨by rw [List.length_set]; exact h.1, ?_⟩
  have h1 := ownsRow_setCells (enc x) w (flat enc l) (i * k) h.2
  have hl := h.1
  have hik : (i + 1) * k ≤ n * k := Nat.mul_le_mul_right k (by omega)
  rw [Nat.succ_mul] at hik
  rw [setFrom_eq _ _ _ (by rw [hk, flat_length hk, hl]; exact hik), hk, ← Nat.succ_mul, ← flat_set hk l i x (by omega)] at h1
  exact h1
theorem OwnS.thaw (h : OwnS t enc k w B (some ⟨g, 0, none⟩) n c l) (o : Nat) : w.frozen? ⟨g, o, none⟩ = false := by
  rcases h.shape with ⟨e, _⟩ | ⟨g', cur, e, _, _, hh, _⟩
  · cases e
  · simp only [Option.some.injEq, Addr.mk.injEq, and_true] at e
    subst e
    simp [World.frozen?, hh]
end
theorem setCells_below {w0 : World} {B g : Nat} (hg : B ≤ g) (vs : List Value) : ∀ (w : World) (j : Nat), Below B w0 w → Below B w0 (setCells w g j vs) := by
  induction vs with
  | nil => intro w j h; exact h
  | cons v vs ih => intro w j h; exact ih _ _ (h.setCell (p := ⟨g, j, none⟩) hg v)
theorem setCells_block {g q : Nat} (hq : q ≠ g) (vs : List Value) : ∀ (w : World) (j : Nat), (setCells w g j vs).heap[q]? = w.heap[q]? := by
  induction vs with
  | nil => intro w j; rfl
  | cons v vs ih => intro w j; exact (ih _ _).trans (Below.heap_setCell w _ v q hq)
theorem setCells_size (g : Nat) (vs : List Value) : ∀ (w : World) (j : Nat), (setCells w g j vs).heap.size = w.heap.size := by
  induction vs with
  | nil => intro w j; rfl
  | cons v vs ih => intro w j; exact (ih _ _).trans (by simp [World.setCell])

/-- The append of elements, as one step of a region that draws its order. -/
theorem step_append_rowS {P : Program} {α : Type} {w : World} {ops : Array Oper} {o : Oper} {a : Act} {K : Act → World → Prop} {Q : Exit → Act → World → Prop} {E : Prop} (hgd : o.guard = none) (s x : Operand) (T : TypeId)
    (ho : o.op = .call { callee := .builtin .append, args := #[s, x], argTypes := #[T, T] }) (t : TypeId) (enc : α → List Value) (k : Nat) (hk : ∀ x, (enc x).length = k) (hk0 : 0 < k) (h1 : ∀ x, ∀ u ∈ enc x, u.oneCell' = true)
    (base : Nat) (i : TypeInfo) (z : Value) (b : Nat) (ht : P.underlying T = some (.slice t)) (hi : P.info? t = some i) (hz : i.zero = some z) (hs : i.size = k) (hzs : z.cells.size = k) (hby : i.bytes = b)
    (A : Option Addr) (n c : Nat) (l : List α) (hes : a.eval s = .slice A n c) (hown : OwnS t enc k w base A n c l) (A' : Option Addr) (n' c' : Nat) (l' : List α) (hex : a.eval x = .slice A' n' c') (hr : RowS enc k w A' n' l')
    (hb : (n + n') * b ≤ 140737488355328) (hm : n + n' ≤ 140737488355328) (hbase : base ≤ w.heap.size)
    (h : ∀ A2 c2 w', OwnS t enc k w' base A2 (n + n') c2 (l ++ l') → w.grownBy w' (blockOf A) → K (a.put o.dst (.slice A2 (n + n') c2)) w') : if Region.wanted o (yielded ops a.tmps) = true then Oper.wp P o a w K Q else E := by
  have hw : Region.wanted o (yielded ops a.tmps) = true := by simp [Region.wanted, hgd]
  rw [if_pos hw]
  obtain ⟨A2, c2, w', hrun, h2, h3⟩ := run_append_rowS (P := P) w t enc k hk hk0 h1 base T o.type i z b ht hi hz hs hzs hby A n c l hown A' n' c' l' hr hb hm hbase
  unfold Oper.wp execOp
  simp only [ho, resolve, invoke, builtin, Sem.run_bind, Sem.run_pure, Result.andThen_ok, List.map_toArray, List.map_cons, List.map_nil, hes, hex, hrun]
  exact h A2 c2 w' h2 h3

end Go.Proofs.Ytgafjieghckimaa

/- A region that draws its order, in which memory only grows: whatever yields its value in every world that goes on from the one at hand is taken first; the rest one by one, each from the world that it meets. -/
namespace Go.Proofs.Ytgafjieghckimaa
open Go.RowKit
set_option linter.unusedVariables false

/-- w' goes on from w: what lay in w is unturned. -/
def Ext (w w' : World) : Prop := Below w.heap.size w w'
theorem Ext.refl (w : World) : Ext w w := Below.refl _ _
theorem Ext.trans {a b c : World} (h : Ext a b) (k : Ext b c) : Ext a c := Below.trans h (Below.mono k (Below.size h))
theorem Ext.cell {w w' : World} (h : Ext w w') {a : Addr} {v : Value} (hc : w.cell? a = some v) : w'.cell? a = some v := (Below.cell h (World.block_lt_of_cell? w _ hc)).trans hc
theorem Ext.alloc (w : World) (o : Obj) : Ext w (w.alloc o) := (Below.refl _ _).alloc (Nat.le_refl _) o

section
variable {P : Program} {ops : Array Oper} {Q : Exit → Act → World → Prop} {md : Region.Mode}

theorem held_mono {S1 S2 : World → Prop} (h : ∀ w, S2 w → S1 w) : ∀ (fuel : Nat) (listed : Array Bool) (a : Act) (w : World), wpAnyH P md ops Q S2 fuel listed a w → wpAnyH P md ops Q S1 fuel listed a w
  | 0, _, _, _, hh => hh
  | fuel + 1, _, _, _, hh => ⟨hh.1, fun i hi => wpOp_mono (fun a' w' h' => ⟨h w' h'.1, held_mono h fuel _ a' w' h'.2⟩) (hh.2 i hi)⟩

theorem reg_start {id : Nat} {a : Act} {w : World} (hm : P.follows .mixedOrders = true) (h : wpAnyH P .any ops Q (Ext w.drew) ops.size (Array.replicate ops.size false) a w.drew) : (Code.region id ops true).wp P Q a w := wp_region_held hm h

theorem reg_take {i : Nat} {d : Option Tmp} {oi : Oper} {v : Value} {fuel : Nat} {listed : Array Bool} {a : Act} {w : World} (hi : ops[i]? = some oi) (hd : oi.dst = d) (hs : Region.noSelect ops = true) (hf : Region.free md ops listed i = true) (hr : (Region.ready md ops listed).contains i = true)
    (hQ : ∀ c a w, Q (.panic c) (a.put oi.dst v) w → Q (.panic c) a w) (hy : YieldsIf P ops (Ext w) oi v a) (h : wpAnyH P md ops Q (Ext w) fuel (listed.setIfInBounds i true) (a.put d v) w) : wpAnyH P md ops Q (Ext w) (fuel + 1) listed a w := by
  subst hd
  exact wpAnyH_take hi hs hf hr hQ hy (Ext.refl w) h

/-- One of those that may come up. -/
def OneR (P : Program) (md : Region.Mode) (ops : Array Oper) (Q : Exit → Act → World → Prop) (fuel : Nat) (listed : Array Bool) (a : Act) (w : World) (i : Nat) (o : Oper) : Prop :=
  ∀ K : Act → World → Prop, Shut (∀ a' w', Ext w w' → wpAnyH P md ops Q (Ext w') fuel (listed.setIfInBounds i true) a' w' → K a' w') → if Region.wanted o (yielded ops a.tmps) = true then Oper.wp P o a w K Q else K (a.put o.dst undef) w

theorem oneR_op {fuel : Nat} {listed : Array Bool} {a : Act} {w : World} {i : Nat} {o : Oper} (ho : ops[i]? = some o) (h : OneR P md ops Q fuel listed a w i o) : wpOp P ops Q i (fun a' w' => Ext w w' ∧ wpAnyH P md ops Q (Ext w) fuel (listed.setIfInBounds i true) a' w') a w :=
  wpOp_step ho fun K hK => h K fun a' w' hx hw => hK a' w' ⟨hx, held_mono (fun _ hy => hx.trans hy) _ _ _ _ hw⟩

theorem reg_one {fuel : Nat} {listed : Array Bool} {a : Act} {w : World} (i : Nat) (o : Oper) (hr : Region.ready md ops listed = [i]) (ho : ops[i]? = some o) (h : OneR P md ops Q fuel listed a w i o) : wpAnyH P md ops Q (Ext w) (fuel + 1) listed a w :=
  wpAnyH_all hr (by simp) fun j hj => by simp at hj; subst hj; exact oneR_op ho h

theorem reg_two {fuel : Nat} {listed : Array Bool} {a : Act} {w : World} (i j : Nat) (o p : Oper) (hr : Region.ready md ops listed = [i, j]) (ho : ops[i]? = some o) (hp : ops[j]? = some p) (h : OneR P md ops Q fuel listed a w i o) (k : OneR P md ops Q fuel listed a w j p) : wpAnyH P md ops Q (Ext w) (fuel + 1) listed a w :=
  wpAnyH_all hr (by simp) fun q hq => by
    simp at hq
    rcases hq with rfl | rfl
    · exact oneR_op ho h
    · exact oneR_op hp k
end

end Go.Proofs.Ytgafjieghckimaa

/- All cells of a block of fourteen at once. -/
namespace Go.Proofs.Ytgafjieghckimaa
open Go.RowKit
set_option linter.unusedVariables false

theorem cells14 {w : World} {b t : Nat} {v0 v1 v2 v3 v4 v5 v6 v7 v8 v9 v10 v11 v12 v13 : Value} (h : w.heap[b]? = some (.cells #[v0, v1, v2, v3, v4, v5, v6, v7, v8, v9, v10, v11, v12, v13] t (0, 0))) :
    w.cell? ⟨b, 0, none⟩ = some v0 ∧ w.cell? ⟨b, 1, none⟩ = some v1 ∧ w.cell? ⟨b, 2, none⟩ = some v2 ∧ w.cell? ⟨b, 3, none⟩ = some v3 ∧ w.cell? ⟨b, 4, none⟩ = some v4 ∧ w.cell? ⟨b, 5, none⟩ = some v5 ∧ w.cell? ⟨b, 6, none⟩ = some v6 ∧ w.cell? ⟨b, 7, none⟩ = some v7 ∧ w.cell? ⟨b, 8, none⟩ = some v8 ∧ w.cell? ⟨b, 9, none⟩ = some v9 ∧ w.cell? ⟨b, 10, none⟩ = some v10 ∧ w.cell? ⟨b, 11, none⟩ = some v11 ∧ w.cell? ⟨b, 12, none⟩ = some v12 ∧ w.cell? ⟨b, 13, none⟩ = some v13 :=
  ⟨cell_of_row w b 0 _ t (0, 0) h, cell_of_row w b 1 _ t (0, 0) h, cell_of_row w b 2 _ t (0, 0) h, cell_of_row w b 3 _ t (0, 0) h, cell_of_row w b 4 _ t (0, 0) h, cell_of_row w b 5 _ t (0, 0) h, cell_of_row w b 6 _ t (0, 0) h, cell_of_row w b 7 _ t (0, 0) h, cell_of_row w b 8 _ t (0, 0) h, cell_of_row w b 9 _ t (0, 0) h, cell_of_row w b 10 _ t (0, 0) h, cell_of_row w b 11 _ t (0, 0) h, cell_of_row w b 12 _ t (0, 0) h, cell_of_row w b 13 _ t (0, 0) h⟩

/-- What stands behind a call that turns nothing old. -/
theorem kept_block {w w' : World} {b : Nat} {o : Obj} (h : w.heap[b]? = some o) (hb : Below w.heap.size w w') : w'.heap[b]? = some o := (hb.block _ (lt_of_block h)).trans h

theorem kept_alloc {w : World} {b : Nat} {o : Obj} (h : w.heap[b]? = some o) (o' : Obj) : (w.alloc o').heap[b]? = some o := kept_block h ((Below.refl _ _).alloc (Nat.le_refl _) o')

theorem thawed {w : World} {b t : Nat} {cs : Array Value} (h : w.heap[b]? = some (.cells cs t (0, 0))) (o : Nat) : w.frozen? ⟨b, o, none⟩ = false := by simp [World.frozen?, h]

end Go.Proofs.Ytgafjieghckimaa

/- A region that draws its order, in which what lay at its start is never turned: whatever yields its value in every world that goes on from the start is taken first. -/
namespace Go.Proofs.Ytgafjieghckimaa
open Go.RowKit
set_option linter.unusedVariables false
theorem Ext.set {w0 w : World} (h : Ext w0 w) {b : Nat} (hb : w0.heap.size ≤ b) (o : Nat) (v : Value) : Ext w0 (w.setCell ⟨b, o, none⟩ v) := Below.setCell (p := ⟨b, o, none⟩) h hb v
theorem Ext.new {w0 w : World} (h : Ext w0 w) (o : Obj) : Ext w0 (w.alloc o) := Below.alloc h (Below.size h) o
theorem Ext.call {w0 w w' : World} (h : Ext w0 w) (hb : Below w.heap.size w w') : Ext w0 w' := h.trans hb

section
variable {P : Program} {ops : Array Oper} {Q : Exit → Act → World → Prop} {md : Region.Mode} {w0 : World}

theorem regF_start {id : Nat} {a : Act} {w : World} (hm : P.follows .mixedOrders = true) (h : wpAnyH P .any ops Q (Ext w.drew) ops.size (Array.replicate ops.size false) a w.drew) : (Code.region id ops true).wp P Q a w := wp_region_held hm h

theorem regF_take {i : Nat} {d : Option Tmp} {oi : Oper} {v : Value} {fuel : Nat} {listed : Array Bool} {a : Act} {w : World} (hx : Ext w0 w) (hi : ops[i]? = some oi) (hd : oi.dst = d) (hs : Region.noSelect ops = true) (hf : Region.free md ops listed i = true) (hr : (Region.ready md ops listed).contains i = true)
    (hQ : ∀ c a w, Q (.panic c) (a.put oi.dst v) w → Q (.panic c) a w) (hy : YieldsIf P ops (Ext w0) oi v a) (h : wpAnyH P md ops Q (Ext w0) fuel (listed.setIfInBounds i true) (a.put d v) w) : wpAnyH P md ops Q (Ext w0) (fuel + 1) listed a w := by
  subst hd
  exact wpAnyH_take hi hs hf hr hQ hy hx h

/-- One of those that may come up. -/
def OneF (P : Program) (md : Region.Mode) (ops : Array Oper) (Q : Exit → Act → World → Prop) (w0 : World) (fuel : Nat) (listed : Array Bool) (a : Act) (w : World) (i : Nat) (o : Oper) : Prop :=
  ∀ K : Act → World → Prop, Shut (∀ a' w', Ext w0 w' → wpAnyH P md ops Q (Ext w0) fuel (listed.setIfInBounds i true) a' w' → K a' w') → if Region.wanted o (yielded ops a.tmps) = true then Oper.wp P o a w K Q else K (a.put o.dst undef) w

theorem oneF_op {fuel : Nat} {listed : Array Bool} {a : Act} {w : World} {i : Nat} {o : Oper} (ho : ops[i]? = some o) (h : OneF P md ops Q w0 fuel listed a w i o) : wpOp P ops Q i (fun a' w' => Ext w0 w' ∧ wpAnyH P md ops Q (Ext w0) fuel (listed.setIfInBounds i true) a' w') a w :=
  wpOp_step ho fun K hK => h K fun a' w' hx hw => hK a' w' ⟨hx, hw⟩

theorem regF_one {fuel : Nat} {listed : Array Bool} {a : Act} {w : World} (i : Nat) (o : Oper) (hr : Region.ready md ops listed = [i]) (ho : ops[i]? = some o) (h : OneF P md ops Q w0 fuel listed a w i o) : wpAnyH P md ops Q (Ext w0) (fuel + 1) listed a w :=
  wpAnyH_all hr (by simp) fun j hj => by simp at hj; subst hj; exact oneF_op ho h

theorem regF_two {fuel : Nat} {listed : Array Bool} {a : Act} {w : World} (i j : Nat) (o p : Oper) (hr : Region.ready md ops listed = [i, j]) (ho : ops[i]? = some o) (hp : ops[j]? = some p) (h : OneF P md ops Q w0 fuel listed a w i o) (k : OneF P md ops Q w0 fuel listed a w j p) : wpAnyH P md ops Q (Ext w0) (fuel + 1) listed a w :=
  wpAnyH_all hr (by simp) fun q hq => by
    simp at hq
    rcases hq with rfl | rfl
    · exact oneF_op ho h
    · exact oneF_op hp k
end

/-- append, where an operation of a drawn region comes up. -/
theorem step_append_row {P : Program} {w : World} {ops : Array Oper} {o : Oper} {a : Act} {K : Act → World → Prop} {Q : Exit → Act → World → Prop} {E : Prop} (hgd : o.guard = none) (s x : Operand) (T : TypeId)
    (ho : o.op = .call { callee := .builtin .append, args := #[s, x], argTypes := #[T, T] }) (t : TypeId) (k : IntKind)
    (base : Nat) (i : TypeInfo) (b : Nat) (ht : P.underlying T = some (.slice t)) (hi : P.info? t = some i) (hz : i.zero = some (.int k 0)) (hs : i.size = 1) (hby : i.bytes = b)
    (A : Option Addr) (n c : Nat) (zs : List Int) (hes : a.eval s = .slice A n c) (hown : Own t k w base A n c zs) (A' : Option Addr) (n' c' : Nat) (ys : List Int) (hex : a.eval x = .slice A' n' c') (hr : Row w A' n' (cellsOf k ys))
    (hb : (n + n') * b ≤ 140737488355328) (hm : n + n' ≤ 140737488355328) (hbase : base ≤ w.heap.size)
    (h : ∀ A2 c2 w', Own t k w' base A2 (n + n') c2 (zs ++ ys) → w.grownBy w' (blockOf A) → K (a.put o.dst (.slice A2 (n + n') c2)) w') : if Region.wanted o (yielded ops a.tmps) = true then Oper.wp P o a w K Q else E := by
  have hw : Region.wanted o (yielded ops a.tmps) = true := by simp [Region.wanted, hgd]
  rw [if_pos hw]
  obtain ⟨A2, c2, w', hrun, h2, h3⟩ := run_append_row (P := P) w t k base T o.type i b ht hi hz hs hby A n c zs hown A' n' c' ys hr hb hm hbase
  unfold Oper.wp execOp
  simp only [ho, resolve, invoke, builtin, Sem.run_bind, Sem.run_pure, Result.andThen_ok, List.map_toArray, List.map_cons, List.map_nil, hes, hex, hrun]
  exact h A2 c2 w' h2 h3

/-- Seven cells, one by one. -/
def sets7 (w : World) (b : Nat) (v0 v1 v2 v3 v4 v5 v6 : Value) : World := ((((((w.setCell ⟨b, 0, none⟩ v0).setCell ⟨b, 1, none⟩ v1).setCell ⟨b, 2, none⟩ v2).setCell ⟨b, 3, none⟩ v3).setCell ⟨b, 4, none⟩ v4).setCell ⟨b, 5, none⟩ v5).setCell ⟨b, 6, none⟩ v6
section
variable {w : World} {b t : Nat} {z0 z1 z2 z3 z4 z5 z6 : Value} (v0 v1 v2 v3 v4 v5 v6 : Value)
theorem sets7_block (h : w.heap[b]? = some (.cells #[z0, z1, z2, z3, z4, z5, z6] t (0, 0))) : (sets7 w b v0 v1 v2 v3 v4 v5 v6).heap[b]? = some (.cells #[v0, v1, v2, v3, v4, v5, v6] t (0, 0)) :=
  by
  have h0 : (w.setCell ⟨b, 0, none⟩ v0).heap[b]? = some (.cells #[v0, z1, z2, z3, z4, z5, z6] t (0, 0)) := (set_block h 0 v0).trans (by simp)
  have h1 : ((w.setCell ⟨b, 0, none⟩ v0).setCell ⟨b, 1, none⟩ v1).heap[b]? = some (.cells #[v0, v1, z2, z3, z4, z5, z6] t (0, 0)) := (set_block h0 1 v1).trans (by simp)
  have h2 : (((w.setCell ⟨b, 0, none⟩ v0).setCell ⟨b, 1, none⟩ v1).setCell ⟨b, 2, none⟩ v2).heap[b]? = some (.cells #[v0, v1, v2, z3, z4, z5, z6] t (0, 0)) := (set_block h1 2 v2).trans (by simp)
  have h3 := (set_block h2 3 v3)
  have h4 := (set_block h3 4 v4)
  have h5 := (set_block h4 5 v5)
  have h6 := (set_block h5 6 v6)
  rw [show (((((#[v0, v1, v2, z3, z4, z5, z6].setIfInBounds 3 v3).setIfInBounds 4 v4).setIfInBounds 5 v5).setIfInBounds 6 v6)) = #[v0, v1, v2, v3, v4, v5, v6] by simp] at h6
  exact h6
theorem sets7_far {g : Nat} (h : g ≠ b) : (sets7 w b v0 v1 v2 v3 v4 v5 v6).heap[g]? = w.heap[g]? := by
  unfold sets7
  refine (Below.heap_setCell _ _ _ _ h).trans ((Below.heap_setCell _ _ _ _ h).trans ((Below.heap_setCell _ _ _ _ h).trans ((Below.heap_setCell _ _ _ _ h).trans ((Below.heap_setCell _ _ _ _ h).trans ((Below.heap_setCell _ _ _ _ h).trans (Below.heap_setCell _ _ _ _ h))))))
theorem sets7_below {B : Nat} {u : World} (h : Below B u w) (hb : B ≤ b) : Below B u (sets7 w b v0 v1 v2 v3 v4 v5 v6) :=
  ((((((h.setCell (p := ⟨b, 0, none⟩) hb v0).setCell (p := ⟨b, 1, none⟩) hb v1).setCell (p := ⟨b, 2, none⟩) hb v2).setCell (p := ⟨b, 3, none⟩) hb v3).setCell (p := ⟨b, 4, none⟩) hb v4).setCell (p := ⟨b, 5, none⟩) hb v5).setCell (p := ⟨b, 6, none⟩) hb v6
end
end Go.Proofs.Ytgafjieghckimaa
