/- simple: outlines of points: plain lists. -/
import Derived.Test.YtlcnonhebppeiaaWin
namespace Go.Proofs.Ytlcnonhebppeiaa
open Go.RowKit
set_option linter.unusedVariables false

/-- A bit of a byte. -/
def fb (f k : Int) : Bool := decide (f / k % 2 = 1)

theorem fin_of {P : Int → Prop} (h : ∀ n : Fin 256, P (n.val : Int)) {f : Int} (h0 : 0 ≤ f) (h1 : f ≤ 255) : P f := by
  have := h ⟨f.toNat, by omega⟩
  simp only at this
  rwa [show ((f.toNat : Nat) : Int) = f by omega] at this

theorem and1 {f : Int} (h0 : 0 ≤ f) (h1 : f ≤ 255) : (bits .and .u8 f 1 != 0) = fb f 1 := fin_of (P := fun f => (bits .and .u8 f 1 != 0) = fb f 1) (by decide +kernel) h0 h1
theorem and2 {f : Int} (h0 : 0 ≤ f) (h1 : f ≤ 255) : (bits .and .u8 f 2 != 0) = fb f 2 := fin_of (P := fun f => (bits .and .u8 f 2 != 0) = fb f 2) (by decide +kernel) h0 h1
theorem and4 {f : Int} (h0 : 0 ≤ f) (h1 : f ≤ 255) : (bits .and .u8 f 4 != 0) = fb f 4 := fin_of (P := fun f => (bits .and .u8 f 4 != 0) = fb f 4) (by decide +kernel) h0 h1
theorem and8 {f : Int} (h0 : 0 ≤ f) (h1 : f ≤ 255) : (bits .and .u8 f 8 != 0) = fb f 8 := fin_of (P := fun f => (bits .and .u8 f 8 != 0) = fb f 8) (by decide +kernel) h0 h1
theorem and16 {f : Int} (h0 : 0 ≤ f) (h1 : f ≤ 255) : (bits .and .u8 f 16 != 0) = fb f 16 := fin_of (P := fun f => (bits .and .u8 f 16 != 0) = fb f 16) (by decide +kernel) h0 h1
theorem and32 {f : Int} (h0 : 0 ≤ f) (h1 : f ≤ 255) : (bits .and .u8 f 32 != 0) = fb f 32 := fin_of (P := fun f => (bits .and .u8 f 32 != 0) = fb f 32) (by decide +kernel) h0 h1
theorem and128 {f : Int} (h0 : 0 ≤ f) (h1 : f ≤ 255) : (bits .and .u8 f 128 != 0) = fb f 128 := fin_of (P := fun f => (bits .and .u8 f 128 != 0) = fb f 128) (by decide +kernel) h0 h1

/-- A place: X, Y, on the curve? -/
abbrev Sp := Int × Int × Bool

/-- An outline. -/
structure Gl where
  x0 : Int
  x1 : Int
  x2 : Int
  x3 : Int
  es : List Int
  pr : List Int
  ps : List Sp
def Gl.box (g : Gl) : List Int := [g.x0, g.x1, g.x2, g.x3]

/-- Does it fit into two bytes with a sign? -/
def fitsB (n : Int) : Bool := decide (-32768 ≤ n) && decide (n ≤ 32767)
theorem fitsB_true {n : Int} (h : fitsB n = true) : -32768 ≤ n ∧ n ≤ 32767 := by unfold fitsB at h; simpa using h
theorem fitsB_of {n : Int} (h0 : -32768 ≤ n) (h1 : n ≤ 32767) : fitsB n = true := by unfold fitsB; simp [h0, h1]
theorem fitsB_false {n : Int} (h : fitsB n = false) : n < -32768 ∨ 32767 < n := by unfold fitsB at h; simp at h; omega

/-- Do the Ends rise? -/
def riseA (l : List Int) (i : Nat) : Bool := decide (i = 0) || decide (l.getD (i - 1) 0 < l.getD i 0)
def riseN (l : List Int) (k : Nat) : Bool := (List.range k).all (riseA l)
theorem riseN_succ (l : List Int) (k : Nat) : riseN l (k + 1) = (riseN l k && riseA l k) := by simp [riseN, List.range_succ]
theorem riseN_not {l : List Int} {k n : Nat} (h : riseA l k = false) (hn : k < n) : riseN l n = false := by
  unfold riseN
  rw [List.all_eq_false]
  exact ⟨k, List.mem_range.2 hn, by rw [h]; simp⟩
theorem riseN_at {l : List Int} {n k : Nat} (h : riseN l n = true) (hk : k < n) : riseA l k = true := by
  unfold riseN at h
  rw [List.all_eq_true] at h
  exact h k (List.mem_range.2 hk)
theorem riseN_mono {l : List Int} {n k : Nat} (h : riseN l n = true) (hk : k ≤ n) : riseN l k = true := by
  unfold riseN at *
  rw [List.all_eq_true] at *
  exact fun x hx => h x (List.mem_range.2 (by have := List.mem_range.1 hx; omega))

/-- How many points the Ends ask for. -/
def cntE (l : List Int) : Nat := if l.length = 0 then 0 else (l.getD (l.length - 1) 0).toNat + 1

/-- How far a number is from the one ahead. -/
def chA (xs : List Int) (i : Nat) : Int := xs.getD i 0 - (if i = 0 then 0 else xs.getD (i - 1) 0)
def chK (xs : List Int) (k : Nat) : List Int := (List.range k).map (chA xs)
def chs (xs : List Int) : List Int := chK xs xs.length
theorem chK_len (xs : List Int) (k : Nat) : (chK xs k).length = k := by simp [chK]
theorem chs_len (xs : List Int) : (chs xs).length = xs.length := chK_len _ _
theorem chK_get (xs : List Int) {k i : Nat} (h : i < k) : (chK xs k)[i]? = some (chA xs i) := by simp [chK, h]
theorem chs_get (xs : List Int) {i : Nat} (h : i < xs.length) : (chs xs)[i]? = some (chA xs i) := chK_get xs h
theorem chK_succ (xs : List Int) (k : Nat) : chK xs (k + 1) = chK xs k ++ [chA xs k] := by simp [chK, List.range_succ]
theorem chK_set (xs : List Int) (k n : Nat) (h : k < n) : (chK xs k ++ List.replicate (n - k) 0).set k (chA xs k) = chK xs (k + 1) ++ List.replicate (n - (k + 1)) 0 := by
  rw [List.set_append_right _ _ (by rw [chK_len]; exact Nat.le_refl _), chK_len, Nat.sub_self, chK_succ, List.append_assoc, show n - k = (n - (k + 1)) + 1 by omega, List.replicate_succ]
  rfl

def xsOf (l : List Sp) : List Int := l.map (·.1)
def ysOf (l : List Sp) : List Int := l.map (·.2.1)
theorem xsOf_len (l : List Sp) : (xsOf l).length = l.length := by simp [xsOf]
theorem ysOf_len (l : List Sp) : (ysOf l).length = l.length := by simp [ysOf]
theorem xsOf_get {l : List Sp} {i : Nat} {p : Sp} (h : l[i]? = some p) : (xsOf l).getD i 0 = p.1 := by simp [xsOf, h]
theorem ysOf_get {l : List Sp} {i : Nat} {p : Sp} (h : l[i]? = some p) : (ysOf l).getD i 0 = p.2.1 := by simp [ysOf, h]

def fitL (l : List Int) : Bool := l.all fitsB
def oRight (g : Gl) : Bool := decide (g.es.length ≤ 32767) && decide (g.pr.length ≤ 65535) && riseN g.es g.es.length && decide (g.ps.length = cntE g.es) && fitL (chs (xsOf g.ps)) && fitL (chs (ysOf g.ps))

/-- A row of numbers alike, at most so many. -/
def runF (f : Int) : Nat → List Int → Nat
  | 0, _ => 0
  | _ + 1, [] => 0
  | c + 1, x :: r => if x = f then runF f c r + 1 else 0
theorem runF_le (f : Int) : ∀ (c : Nat) (l : List Int), runF f c l ≤ c ∧ runF f c l ≤ l.length
  | 0, _ => ⟨Nat.le_refl _, Nat.zero_le _⟩
  | _ + 1, [] => ⟨Nat.zero_le _, Nat.le_refl _⟩
  | c + 1, x :: r => by
    have := runF_le f c r
    unfold runF
    split
    · simp only [List.length_cons]; omega
    · simp
theorem runF_take (f : Int) : ∀ (c : Nat) (l : List Int), l.take (runF f c l) = List.replicate (runF f c l) f
  | 0, _ => by simp [runF]
  | _ + 1, [] => by simp [runF]
  | c + 1, x :: r => by
    have := runF_take f c r
    unfold runF
    split
    · rename_i h
      rw [List.take_succ_cons, this, List.replicate_succ, h]
    · simp
theorem runF_of (f : Int) : ∀ (c : Nat) (l : List Int) (n : Nat), n ≤ c → n ≤ l.length → (∀ i, i < n → l.getD i 0 = f) → (n = c ∨ n = l.length ∨ l.getD n 0 ≠ f) → runF f c l = n
  | 0, l, n, h1, _, _, _ => by simp [runF]; omega
  | c + 1, [], n, _, h2, _, _ => by simp at h2; simp [runF, h2]
  | c + 1, x :: r, 0, _, _, _, h4 => by
    unfold runF
    rw [if_neg]
    intro hx
    rcases h4 with h | h | h
    · omega
    · simp at h
    · exact h (by simpa using hx)
  | c + 1, x :: r, n + 1, h1, h2, h3, h4 => by
    unfold runF
    have h0 := h3 0 (by omega)
    simp at h0
    rw [if_pos h0, runF_of f c r n (by omega) (by simp at h2; omega) (fun i hi => by have := h3 (i + 1) (by omega); simpa using this) (by simp at h4 ⊢; omega)]

def rowOf (l : List Int) : Nat := runF (l.headD 0) 256 l
theorem rowOf_le (l : List Int) : rowOf l ≤ 256 ∧ rowOf l ≤ l.length := runF_le _ _ _
theorem rowOf_pos {l : List Int} (h : l ≠ []) : 1 ≤ rowOf l := by
  cases l with
  | nil => exact absurd rfl h
  | cons x r => unfold rowOf runF; simp
theorem rowOf_take (l : List Int) : l.take (rowOf l) = List.replicate (rowOf l) (l.headD 0) := runF_take _ _ _
theorem rowOf_of {l : List Int} {n : Nat} (h1 : n ≤ 256) (h2 : n ≤ l.length) (h3 : ∀ i, i < n → l.getD i 0 = l.headD 0) (h4 : n = 256 ∨ n = l.length ∨ l.getD n 0 ≠ l.headD 0) : rowOf l = n := runF_of _ _ _ _ h1 h2 h3 h4

/-- Flags, each row of one alike once. -/
def rleHead (l : List Int) : List Int := if rowOf l = 1 then [l.headD 0] else [l.headD 0 + 8, (rowOf l : Int) - 1]
def rleF : Nat → List Int → List Int
  | 0, _ => []
  | _ + 1, [] => []
  | m + 1, f :: r => rleHead (f :: r) ++ rleF m ((f :: r).drop (rowOf (f :: r)))
def rle (l : List Int) : List Int := rleF l.length l
theorem rleF_fuel : ∀ (m : Nat) (l : List Int), l.length ≤ m → rleF m l = rle l := by
  have key : ∀ (k : Nat) (l : List Int) (m m' : Nat), l.length ≤ k → l.length ≤ m → l.length ≤ m' → rleF m l = rleF m' l := by
    intro k
    induction k with
    | zero =>
      intro l m m' h _ _
      obtain rfl : l = [] := List.eq_nil_of_length_eq_zero (by omega)
      cases m <;> cases m' <;> rfl
    | succ k ih =>
      intro l m m' h h1 h2
      cases l with
      | nil => cases m <;> cases m' <;> rfl
      | cons f r =>
        cases m with
        | zero => simp at h1
        | succ m =>
          cases m' with
          | zero => simp at h2
          | succ m' =>
            have hp := rowOf_pos (l := f :: r) (by simp)
            simp only [List.length_cons] at h h1 h2
            unfold rleF
            rw [ih ((f :: r).drop (rowOf (f :: r))) m m' (by rw [List.length_drop, List.length_cons]; omega) (by rw [List.length_drop, List.length_cons]; omega) (by rw [List.length_drop, List.length_cons]; omega)]
  exact fun m l h => key l.length l m l.length (Nat.le_refl _) h (Nat.le_refl _)
theorem rle_nil : rle [] = [] := rfl
theorem rle_step {l : List Int} (h : l ≠ []) : rle l = rleHead l ++ rle (l.drop (rowOf l)) := by
  cases l with
  | nil => exact absurd rfl h
  | cons f r =>
    have hp := rowOf_pos (l := f :: r) (by simp)
    unfold rle
    rw [List.length_cons]
    conv => lhs; unfold rleF
    rw [rleF_fuel r.length _ (by rw [List.length_drop, List.length_cons]; omega)]
    rfl
theorem rleHead_len (l : List Int) : 1 ≤ (rleHead l).length ∧ (rleHead l).length ≤ 2 := by unfold rleHead; split <;> simp
theorem rleF_len : ∀ (m : Nat) (l : List Int), (rleF m l).length ≤ 2 * m
  | 0, _ => by simp [rleF]
  | _ + 1, [] => by simp [rleF]
  | m + 1, f :: r => by
    have := rleF_len m ((f :: r).drop (rowOf (f :: r)))
    have := rleHead_len (f :: r)
    unfold rleF
    rw [List.length_append]
    omega
theorem rle_len (l : List Int) : (rle l).length ≤ 2 * l.length := rleF_len _ _

/-- The bytes of a change. -/
def cb (d : Int) : List Int := if d = 0 then [] else if -255 ≤ d ∧ d ≤ 255 then [max d (-d)] else b2 (d % 65536)
def cbs (l : List Int) : List Int := l.flatMap cb
theorem cb_len (d : Int) : (cb d).length ≤ 2 := by unfold cb; split; simp; split <;> simp [b2]
theorem cbs_len : ∀ l : List Int, (cbs l).length ≤ 2 * l.length
  | [] => by simp [cbs]
  | d :: r => by
    have := cbs_len r
    have := cb_len d
    unfold cbs at *
    rw [List.flatMap_cons, List.length_append, List.length_cons]
    omega
theorem cbs_snoc {l : List Int} {k : Nat} {d : Int} (h : l[k]? = some d) : cbs (l.take (k + 1)) = cbs (l.take k) ++ cb d := by
  unfold cbs
  rw [List.take_add_one, h]
  simp
theorem cbs_cut (l : List Int) {k : Nat} {d : Int} (h : l[k]? = some d) : cbs l = cbs (l.take k) ++ (cb d ++ cbs (l.drop (k + 1))) := by
  have hk := (List.getElem?_eq_some_iff.1 h)
  obtain ⟨hk, rfl⟩ := hk
  conv => lhs; rw [← List.take_append_drop k l, List.drop_eq_getElem_cons hk]
  unfold cbs
  rw [List.flatMap_append, List.flatMap_cons]

/-- What a flag says of a change. -/
def bitsV (d sh pl : Int) : Int := if d = 0 then pl else if -255 ≤ d ∧ d ≤ 255 then (if 0 < d then sh + pl else sh) else 0
def flagOf (dx dy : Int) (on : Bool) : Int := bitsV dx 2 16 + bitsV dy 4 32 + (if on then 1 else 0)
def flA (l : List Sp) (i : Nat) : Int := flagOf (chA (xsOf l) i) (chA (ysOf l) i) (l.getD i (0, 0, false)).2.2
def flK (l : List Sp) (k : Nat) : List Int := (List.range k).map (flA l)
def fls (l : List Sp) : List Int := flK l l.length
theorem flK_len (l : List Sp) (k : Nat) : (flK l k).length = k := by simp [flK]
theorem flK_succ (l : List Sp) (k : Nat) : flK l (k + 1) = flK l k ++ [flA l k] := by simp [flK, List.range_succ]
theorem flK_get (l : List Sp) {k i : Nat} (h : i < k) : (flK l k)[i]? = some (flA l i) := by simp [flK, h]
theorem flK_set (l : List Sp) (k n : Nat) (h : k < n) : (flK l k ++ List.replicate (n - k) 0).set k (flA l k) = flK l (k + 1) ++ List.replicate (n - (k + 1)) 0 := by
  rw [List.set_append_right _ _ (by rw [flK_len]; exact Nat.le_refl _), flK_len, Nat.sub_self, flK_succ, List.append_assoc, show n - k = (n - (k + 1)) + 1 by omega, List.replicate_succ]
  rfl

/-- Which flags there are: none has 8, 64 or 128. -/
def flagsAll : List Int := [0, 2, 16, 18].flatMap fun a => [0, 4, 32, 36].flatMap fun b => [0, 1].map fun c => a + b + c
theorem bitsV_cases (d sh pl : Int) : bitsV d sh pl = pl ∨ bitsV d sh pl = sh + pl ∨ bitsV d sh pl = sh ∨ bitsV d sh pl = 0 := by unfold bitsV; split; simp; split; split <;> simp; simp
theorem flagOf_in (dx dy : Int) (on : Bool) : flagOf dx dy on ∈ flagsAll := by
  unfold flagOf
  rcases bitsV_cases dx 2 16 with h | h | h | h <;> rcases bitsV_cases dy 4 32 with h' | h' | h' | h' <;> rw [h, h'] <;> cases on <;> decide
theorem flA_in (l : List Sp) (i : Nat) : flA l i ∈ flagsAll := flagOf_in _ _ _
theorem fls_in (l : List Sp) : ∀ f ∈ fls l, f ∈ flagsAll := by
  intro f hf
  simp only [fls, flK, List.mem_map] at hf
  obtain ⟨i, _, rfl⟩ := hf
  exact flA_in l i
theorem flagsAll_lt {f : Int} (h : f ∈ flagsAll) : 0 ≤ f ∧ f < 64 := by
  have : ∀ f ∈ flagsAll, 0 ≤ f ∧ f < 64 := by decide
  exact this f h
theorem flagsAll_or8 {f : Int} (h : f ∈ flagsAll) : bits .or .u8 f 8 = f + 8 := by
  have : ∀ f ∈ flagsAll, bits .or .u8 f 8 = f + 8 := by decide +kernel
  exact this f h
theorem bits_or (dx dy : Int) : bits .or .u8 (bitsV dx 2 16) (bitsV dy 4 32) = bitsV dx 2 16 + bitsV dy 4 32 := by
  rcases bitsV_cases dx 2 16 with h | h | h | h <;> rcases bitsV_cases dy 4 32 with h' | h' | h' | h' <;> rw [h, h'] <;> decide +kernel
theorem bits_or1 (dx dy : Int) : bits .or .u8 (bitsV dx 2 16 + bitsV dy 4 32) 1 = bitsV dx 2 16 + bitsV dy 4 32 + 1 := by
  rcases bitsV_cases dx 2 16 with h | h | h | h <;> rcases bitsV_cases dy 4 32 with h' | h' | h' | h' <;> rw [h, h'] <;> decide +kernel
theorem bitsV_lt (dx dy : Int) : 0 ≤ bitsV dx 2 16 + bitsV dy 4 32 ∧ bitsV dx 2 16 + bitsV dy 4 32 < 63 ∧ 0 ≤ bitsV dx 2 16 ∧ bitsV dx 2 16 < 63 ∧ 0 ≤ bitsV dy 4 32 ∧ bitsV dy 4 32 < 63 := by
  rcases bitsV_cases dx 2 16 with h | h | h | h <;> rcases bitsV_cases dy 4 32 with h' | h' | h' | h' <;> rw [h, h'] <;> decide

/-- The bytes of an outline. -/
def boxB (l : List Int) : List Int := l.flatMap fun x => b2 (x % 65536)
def endB (l : List Int) : List Int := l.flatMap b2
def oFront (g : Gl) : List Int := b2 g.es.length ++ boxB g.box ++ endB g.es ++ b2 g.pr.length ++ g.pr
def oB (g : Gl) : List Int := oFront g ++ rle (fls g.ps) ++ cbs (chs (xsOf g.ps)) ++ cbs (chs (ysOf g.ps))
theorem endB_len : ∀ l : List Int, (endB l).length = 2 * l.length
  | [] => rfl
  | x :: r => by unfold endB; rw [List.flatMap_cons, List.length_append]; have := endB_len r; unfold endB at this; rw [this]; simp [b2]; omega
theorem endB_snoc {l : List Int} {k : Nat} {x : Int} (h : l[k]? = some x) : endB (l.take (k + 1)) = endB (l.take k) ++ b2 x := by
  unfold endB
  rw [List.take_add_one, h]
  simp
theorem boxB_len : ∀ l : List Int, (boxB l).length = 2 * l.length
  | [] => rfl
  | x :: r => by unfold boxB; rw [List.flatMap_cons, List.length_append]; have := boxB_len r; unfold boxB at this; rw [this]; simp [b2]; omega
theorem boxB_snoc {l : List Int} {k : Nat} {x : Int} (h : l[k]? = some x) : boxB (l.take (k + 1)) = boxB (l.take k) ++ b2 (x % 65536) := by
  unfold boxB
  rw [List.take_add_one, h]
  simp
theorem oFront_len (g : Gl) : (oFront g).length = 12 + 2 * g.es.length + g.pr.length := by
  unfold oFront
  simp only [List.length_append, endB_len, boxB_len, Gl.box, List.length_cons, List.length_nil]
  simp [b2]
  omega

/-- A byte at a place; 0 where there is none. -/
def n1at (zs : List Int) (i : Nat) : Int := num (zs.drop i) 1
theorem n1at_get {zs : List Int} {i : Nat} {x : Int} (h : zs[i]? = some x) : n1at zs i = x := by
  obtain ⟨hk, rfl⟩ := List.getElem?_eq_some_iff.1 h
  unfold n1at num told
  rw [if_pos (by rw [List.length_drop]; omega), List.drop_eq_getElem_cons hk]
  show 0 * 256 + _ = _
  omega
theorem n1at_lt {zs : List Int} (hB : Bytes zs) (i : Nat) : 0 ≤ n1at zs i ∧ n1at zs i ≤ 255 := by
  have := num_lt (drop_bytes hB i) 1 1 (by omega)
  simp only [Int.pow_succ, Int.pow_zero, Int.one_mul] at this
  unfold n1at
  omega

/-- The flags that are read: those so far, and the place behind. -/
structure FS where
  fl : List Int
  at_ : Nat
def fMore (zs : List Int) (i : Nat) : Nat := if fb (n1at zs i) 8 then (n1at zs (i + 1)).toNat else 0
def fSize (zs : List Int) (i : Nat) : Nat := if fb (n1at zs i) 8 then 2 else 1
def fOk (zs : List Int) (n : Nat) (s : FS) : Bool := !fb (n1at zs s.at_) 128 && decide (s.fl.length + 1 + fMore zs s.at_ ≤ n)
def fNext (zs : List Int) (s : FS) : FS := ⟨s.fl ++ List.replicate (fMore zs s.at_ + 1) (n1at zs s.at_), s.at_ + fSize zs s.at_⟩
theorem fNext_len (zs : List Int) (s : FS) : (fNext zs s).fl.length = s.fl.length + fMore zs s.at_ + 1 := by simp [fNext]; omega
def fRun (zs : List Int) (n : Nat) : Nat → FS → Option FS
  | 0, s => some s
  | m + 1, s => if s.fl.length < n then (if fOk zs n s then fRun zs n m (fNext zs s) else none) else some s
theorem fRun_fuel (zs : List Int) (n : Nat) : ∀ (k : Nat) (s : FS) (m m' : Nat), n - s.fl.length ≤ k → n - s.fl.length ≤ m → n - s.fl.length ≤ m' → fRun zs n m s = fRun zs n m' s := by
  intro k
  induction k with
  | zero =>
    intro s m m' h _ _
    have : ¬ s.fl.length < n := by omega
    cases m <;> cases m' <;> simp [fRun, this]
  | succ k ih =>
    intro s m m' h h1 h2
    by_cases hl : s.fl.length < n
    · obtain ⟨m, rfl⟩ : ∃ j, m = j + 1 := ⟨m - 1, by omega⟩
      obtain ⟨m', rfl⟩ : ∃ j, m' = j + 1 := ⟨m' - 1, by omega⟩
      unfold fRun
      rw [if_pos hl, if_pos hl]
      have hz := fNext_len zs s
      rw [ih (fNext zs s) m m' (by omega) (by omega) (by omega)]
    · cases m <;> cases m' <;> simp [fRun, hl]
/-- All that is left to read, from a state on. -/
def fAll (zs : List Int) (n : Nat) (s : FS) : Option FS := fRun zs n n s
theorem fAll_done {zs : List Int} {n : Nat} {s : FS} (h : n ≤ s.fl.length) : fAll zs n s = some s := by
  unfold fAll
  cases n <;> simp [fRun]
  omega
theorem fAll_step {zs : List Int} {n : Nat} {s : FS} (h : s.fl.length < n) (hk : fOk zs n s = true) : fAll zs n s = fAll zs n (fNext zs s) := by
  unfold fAll
  obtain ⟨m, rfl⟩ : ∃ j, n = j + 1 := ⟨n - 1, by omega⟩
  have hz := fNext_len zs s
  conv => lhs; unfold fRun
  rw [if_pos h, if_pos hk]
  exact fRun_fuel zs _ (m + 1) _ _ _ (by omega) (by omega) (by omega)
theorem fAll_not {zs : List Int} {n : Nat} {s : FS} (h : s.fl.length < n) (hk : fOk zs n s = false) : fAll zs n s = none := by
  unfold fAll
  obtain ⟨m, rfl⟩ : ∃ j, n = j + 1 := ⟨n - 1, by omega⟩
  unfold fRun
  rw [if_pos h, hk]
  rfl
/-- What is read has just so many, and lies behind. -/
theorem fAll_some {zs : List Int} {n : Nat} : ∀ (k : Nat) (s t : FS), n - s.fl.length ≤ k → s.fl.length ≤ n → fAll zs n s = some t → t.fl.length = n ∧ s.at_ ≤ t.at_ := by
  intro k
  induction k with
  | zero =>
    intro s t h hs ht
    rw [fAll_done (by omega)] at ht
    cases ht
    exact ⟨by omega, Nat.le_refl _⟩
  | succ k ih =>
    intro s t h hs ht
    by_cases hl : s.fl.length < n
    · cases hk : fOk zs n s with
      | false => rw [fAll_not hl hk] at ht; cases ht
      | true =>
        rw [fAll_step hl hk] at ht
        have hz := fNext_len zs s
        have hle : s.fl.length + 1 + fMore zs s.at_ ≤ n := by unfold fOk at hk; simp at hk; omega
        have h1 := ih (fNext zs s) t (by omega) (by omega) ht
        refine ⟨h1.1, Nat.le_trans ?_ h1.2⟩
        show s.at_ ≤ s.at_ + _
        omega
    · rw [fAll_done (by omega)] at ht
      cases ht
      exact ⟨by omega, Nat.le_refl _⟩

/-- A change as a flag tells it: how many bytes it has, and what it is. -/
def cw (sh pl f : Int) : Nat := if fb f sh then 1 else if fb f pl then 0 else 2
def cv (zs : List Int) (sh pl f : Int) (i : Nat) : Int := if fb f sh then (if fb f pl then n1at zs i else - n1at zs i) else if fb f pl then 0 else sgn (n2at zs i)
def pkAt (zs : List Int) (sh pl : Int) (fl : List Int) (a : Nat) : Nat → Nat × Int
  | 0 => (a, 0)
  | k + 1 => ((pkAt zs sh pl fl a k).1 + cw sh pl (fl.getD k 0), (pkAt zs sh pl fl a k).2 + cv zs sh pl (fl.getD k 0) (pkAt zs sh pl fl a k).1)
def pkOk (zs : List Int) (sh pl : Int) (fl : List Int) (a k : Nat) : Bool := (List.range k).all fun i => fitsB (pkAt zs sh pl fl a (i + 1)).2
def pkVs (zs : List Int) (sh pl : Int) (fl : List Int) (a k : Nat) : List Int := (List.range k).map fun i => (pkAt zs sh pl fl a (i + 1)).2
section
variable (zs : List Int) (sh pl : Int) (fl : List Int) (a : Nat)
theorem pkVs_len (k : Nat) : (pkVs zs sh pl fl a k).length = k := by simp [pkVs]
theorem pkVs_succ (k : Nat) : pkVs zs sh pl fl a (k + 1) = pkVs zs sh pl fl a k ++ [(pkAt zs sh pl fl a (k + 1)).2] := by simp [pkVs, List.range_succ]
theorem pkVs_get {k i : Nat} (h : i < k) : (pkVs zs sh pl fl a k)[i]? = some (pkAt zs sh pl fl a (i + 1)).2 := by simp [pkVs, h]
theorem pkVs_set (k n : Nat) (h : k < n) : (pkVs zs sh pl fl a k ++ List.replicate (n - k) 0).set k (pkAt zs sh pl fl a (k + 1)).2 = pkVs zs sh pl fl a (k + 1) ++ List.replicate (n - (k + 1)) 0 := by
  rw [List.set_append_right _ _ (by rw [pkVs_len]; exact Nat.le_refl _), pkVs_len, Nat.sub_self, pkVs_succ, List.append_assoc, show n - k = (n - (k + 1)) + 1 by omega, List.replicate_succ]
  rfl
theorem pkOk_succ (k : Nat) : pkOk zs sh pl fl a (k + 1) = (pkOk zs sh pl fl a k && fitsB (pkAt zs sh pl fl a (k + 1)).2) := by simp [pkOk, List.range_succ]
variable {zs sh pl fl a}
theorem pkOk_not {k n : Nat} (h : fitsB (pkAt zs sh pl fl a (k + 1)).2 = false) (hn : k < n) : pkOk zs sh pl fl a n = false := by
  unfold pkOk
  rw [List.all_eq_false]
  exact ⟨k, List.mem_range.2 hn, by rw [h]; simp⟩
theorem pkOk_at {n k : Nat} (h : pkOk zs sh pl fl a n = true) (hk : k ≤ n) : -32768 ≤ (pkAt zs sh pl fl a k).2 ∧ (pkAt zs sh pl fl a k).2 ≤ 32767 := by
  cases k with
  | zero => simp [pkAt]
  | succ k =>
    unfold pkOk at h
    rw [List.all_eq_true] at h
    exact fitsB_true (h k (List.mem_range.2 (by omega)))
theorem pkAt_mono (k : Nat) : ∀ m, (pkAt zs sh pl fl a k).1 ≤ (pkAt zs sh pl fl a (k + m)).1
  | 0 => Nat.le_refl _
  | m + 1 => Nat.le_trans (pkAt_mono k m) (by rw [show k + (m + 1) = (k + m) + 1 by omega]; show _ ≤ _ + _; omega)
end

/-- What bytes are as an outline. -/
def oEs (zs : List Int) (n : Nat) : List Int := (List.range n).map fun i => n2at zs (10 + 2 * i)
def oSz (zs : List Int) (n : Nat) : Nat := (n2at zs (10 + 2 * n)).toNat
def oA (zs : List Int) (n : Nat) : Nat := 12 + 2 * n + oSz zs n
def oFs (zs : List Int) (n : Nat) : Option FS := fAll zs (cntE (oEs zs n)) ⟨[], oA zs n⟩
def oXe (zs : List Int) (s : FS) : Nat := (pkAt zs 2 16 s.fl s.at_ s.fl.length).1
def oEnd (zs : List Int) (s : FS) : Nat := (pkAt zs 4 32 s.fl (oXe zs s) s.fl.length).1
def oPs (zs : List Int) (s : FS) (k : Nat) : List Sp := (List.range k).map fun i => ((pkAt zs 2 16 s.fl s.at_ (i + 1)).2, (pkAt zs 4 32 s.fl (oXe zs s) (i + 1)).2, fb (s.fl.getD i 0) 1)
def oGl (zs : List Int) (n : Nat) (s : FS) : Gl := ⟨sgn (n2at zs 2), sgn (n2at zs 4), sgn (n2at zs 6), sgn (n2at zs 8), oEs zs n, (zs.drop (12 + 2 * n)).take (oSz zs n), oPs zs s s.fl.length⟩
def oPk (zs : List Int) (s : FS) : Bool := pkOk zs 2 16 s.fl s.at_ s.fl.length && pkOk zs 4 32 s.fl (oXe zs s) s.fl.length
def oPut (zs : List Int) (n : Nat) (s : FS) : Option (Gl × Nat) := if oPk zs s && decide (oEnd zs s ≤ zs.length) then some (oGl zs n s, oEnd zs s) else none
def oTake (zs : List Int) (n : Nat) : Option FS → Option (Gl × Nat)
  | none => none
  | some s => oPut zs n s
def oNum (zs : List Int) (n : Nat) : Option (Gl × Nat) := if riseN (oEs zs n) n then oTake zs n (oFs zs n) else none
def oParse (zs : List Int) : Option (Gl × Nat) := if 32767 < n2at zs 0 then none else oNum zs (n2at zs 0).toNat

theorem oEs_len (zs : List Int) (n : Nat) : (oEs zs n).length = n := by simp [oEs]
theorem oEs_get (zs : List Int) {n i : Nat} (h : i < n) : (oEs zs n)[i]? = some (n2at zs (10 + 2 * i)) := by simp [oEs, h]
theorem oEs_getD (zs : List Int) {n i : Nat} (h : i < n) : (oEs zs n).getD i 0 = n2at zs (10 + 2 * i) := by simp [oEs, h]
theorem oEs_succ (zs : List Int) (n : Nat) : oEs zs (n + 1) = oEs zs n ++ [n2at zs (10 + 2 * n)] := by simp [oEs, List.range_succ]
theorem oEs_set (zs : List Int) (k n : Nat) (h : k < n) : (oEs zs k ++ List.replicate (n - k) 0).set k (n2at zs (10 + 2 * k)) = oEs zs (k + 1) ++ List.replicate (n - (k + 1)) 0 := by
  rw [List.set_append_right _ _ (by rw [oEs_len]; exact Nat.le_refl _), oEs_len, Nat.sub_self, oEs_succ, List.append_assoc, show n - k = (n - (k + 1)) + 1 by omega, List.replicate_succ]
  rfl
theorem oEs_riseA (zs : List Int) {n k : Nat} (h : k < n) : riseA (oEs zs n) k = (decide (k = 0) || decide (n2at zs (10 + 2 * (k - 1)) < n2at zs (10 + 2 * k))) := by
  unfold riseA
  rw [oEs_getD zs h, oEs_getD zs (show k - 1 < n by omega)]
theorem oPs_len (zs : List Int) (s : FS) (k : Nat) : (oPs zs s k).length = k := by simp [oPs]
theorem oPs_succ (zs : List Int) (s : FS) (k : Nat) : oPs zs s (k + 1) = oPs zs s k ++ [((pkAt zs 2 16 s.fl s.at_ (k + 1)).2, (pkAt zs 4 32 s.fl (oXe zs s) (k + 1)).2, fb (s.fl.getD k 0) 1)] := by simp [oPs, List.range_succ]
theorem oPs_set (zs : List Int) (s : FS) (k n : Nat) (h : k < n) : (oPs zs s k ++ List.replicate (n - k) ((0, 0, false) : Sp)).set k ((pkAt zs 2 16 s.fl s.at_ (k + 1)).2, (pkAt zs 4 32 s.fl (oXe zs s) (k + 1)).2, fb (s.fl.getD k 0) 1) = oPs zs s (k + 1) ++ List.replicate (n - (k + 1)) (0, 0, false) := by
  rw [List.set_append_right _ _ (by rw [oPs_len]; exact Nat.le_refl _), oPs_len, Nat.sub_self, oPs_succ, List.append_assoc, show n - k = (n - (k + 1)) + 1 by omega, List.replicate_succ]
  rfl
theorem oXe_le (zs : List Int) (s : FS) : s.at_ ≤ oXe zs s ∧ oXe zs s ≤ oEnd zs s := by
  constructor
  · have := pkAt_mono (zs := zs) (sh := 2) (pl := 16) (fl := s.fl) (a := s.at_) 0 s.fl.length
    rw [Nat.zero_add] at this
    exact this
  · have := pkAt_mono (zs := zs) (sh := 4) (pl := 32) (fl := s.fl) (a := oXe zs s) 0 s.fl.length
    rw [Nat.zero_add] at this
    exact this

end Go.Proofs.Ytlcnonhebppeiaa
