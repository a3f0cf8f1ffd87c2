/- Sums of words: plain laws on lists of numbers, and tally's calls in their words. -/
import Derived.Test.YtlkidnacfljpkaaSum
namespace Go.Proofs.Ytlkidnacfljpkaa
open Go.RowKit
set_option linter.unusedVariables false

/-- Each byte by what it is worth, the highest of four first. -/
def rs : List Int → Int
  | a :: b :: c :: d :: r => a * 16777216 + b * 65536 + c * 256 + d + rs r
  | [a, b, c] => a * 16777216 + b * 65536 + c * 256
  | [a, b] => a * 16777216 + b * 65536
  | [a] => a * 16777216
  | [] => 0

/-- What the byte at a place is worth. -/
def worth (k : Nat) : Int := match k % 4 with | 0 => 16777216 | 1 => 65536 | 2 => 256 | _ => 1

theorem rs_snoc : ∀ (l : List Int) (x : Int), rs (l ++ [x]) = rs l + x * worth l.length
  | a :: b :: c :: d :: r, x => by
    have := rs_snoc r x
    have e : worth (a :: b :: c :: d :: r).length = worth r.length := by unfold worth; rw [show (a :: b :: c :: d :: r).length % 4 = r.length % 4 by simp only [List.length_cons]; omega]
    rw [e]
    simp only [List.cons_append, rs]
    omega
  | [a, b, c], x => by simp [rs, worth]
  | [a, b], x => by simp [rs, worth]
  | [a], x => by simp [rs, worth]
  | [], x => by simp [rs, worth]

theorem rs_append : ∀ (a b : List Int), a.length % 4 = 0 → rs (a ++ b) = rs a + rs b
  | x0 :: x1 :: x2 :: x3 :: r, b, h => by
    have := rs_append r b (by simp at h; omega)
    simp only [List.cons_append, rs]
    omega
  | [_, _, _], _, h => by simp at h
  | [_, _], _, h => by simp at h
  | [_], _, h => by simp at h
  | [], b, _ => by simp [rs]

theorem pad_four (a b c d : Int) (r : List Int) : pad (a :: b :: c :: d :: r) = a :: b :: c :: d :: pad r := by
  unfold pad
  rw [show padN (a :: b :: c :: d :: r).length - (a :: b :: c :: d :: r).length = padN r.length - r.length by simp only [List.length_cons, padN]; omega]
  rfl

theorem words_pad : ∀ (l : List Int), (wordsOf (pad l)).sum = rs l
  | a :: b :: c :: d :: r => by
    rw [pad_four]
    simp only [wordsOf, List.sum_cons, words_pad r, rs, be, List.foldl_cons, List.foldl_nil]
    omega
  | [a, b, c] => by simp [pad, padN, wordsOf, be, rs]; omega
  | [a, b] => by simp [pad, padN, wordsOf, be, rs]; omega
  | [a] => by simp [pad, padN, wordsOf, be, rs]; omega
  | [] => by simp [pad, padN, wordsOf, rs]

theorem sum32_sum (l : List Int) : sum32 l = l.sum % 4294967296 := by
  unfold sum32
  have : ∀ (l : List Int) (s : Int), l.foldl (fun s x => (s + x) % 4294967296) (s % 4294967296) = (s + l.sum) % 4294967296 := by
    intro l
    induction l with
    | nil => intro s; simp
    | cons x l ih =>
      intro s
      rw [List.foldl_cons, Int.emod_add_emod, ih, List.sum_cons]
      congr 1
      omega
  have h := this l 0
  simpa using h

theorem sum_rs (l : List Int) : sum32 (wordsOf (pad l)) = rs l % 4294967296 := by rw [sum32_sum, words_pad]

theorem pad_len (l : List Int) : (pad l).length = padN l.length := by rw [pad, List.length_append, List.length_replicate]; unfold padN; omega
theorem padN_mod (n : Nat) : padN n % 4 = 0 := by unfold padN; omega

theorem pad_whole (l : List Int) (h : l.length % 4 = 0) : pad l = l := by
  unfold pad
  rw [show padN l.length - l.length = 0 by unfold padN; omega]
  simp

theorem rs_pad (l : List Int) : rs (pad l) = rs l := by
  rw [← words_pad (pad l), ← words_pad l]
  rw [pad_whole (pad l) (by rw [pad_len]; exact padN_mod _)]

theorem rs_le : ∀ (l : List Int), Bytes l → 0 ≤ rs l ∧ rs l ≤ 4278190080 * l.length
  | a :: b :: c :: d :: r, h => by
    have h1 := rs_le r (fun y hy => h y (by simp [hy]))
    have := h a (by simp); have := h b (by simp); have := h c (by simp); have := h d (by simp)
    simp only [rs, List.length_cons]
    omega
  | [a, b, c], h => by have := h a (by simp); have := h b (by simp); have := h c (by simp); simp only [rs, List.length_cons, List.length_nil]; omega
  | [a, b], h => by have := h a (by simp); have := h b (by simp); simp only [rs, List.length_cons, List.length_nil]; omega
  | [a], h => by have := h a (by simp); simp only [rs, List.length_cons, List.length_nil]; omega
  | [], h => by simp [rs]

theorem rs_b4 (n : Int) (h0 : 0 ≤ n) (h1 : n < 4294967296) : rs (b4 n) = n := by
  simp only [b4, b2, List.cons_append, List.nil_append, rs]
  omega
theorem b4_len (n : Int) : (b4 n).length = 4 := rfl

theorem sum_rs_any (A : Option Addr) (n c : Nat) (zs : List Int) (w : World) (hr : Row w A n (cellsOf .u8 zs)) (hB : Bytes zs) (hn : n ≤ 140737488351000) :
    Calls Try.prog 13 #[.slice A n c] w (Ret w (.int .u32 (rs zs % 4294967296))) := by
  have := sum_any A n c zs w hr hB hn
  rwa [sum_rs] at this

theorem adjust_rs_any (A : Option Addr) (n c : Nat) (zs : List Int) (w : World) (hr : Row w A n (cellsOf .u8 zs)) (hB : Bytes zs) (hn : n ≤ 140737488351000) :
    Calls Try.prog 32 #[.slice A n c] w (Ret w (.int .u32 ((2981146554 - rs zs) % 4294967296))) := by
  have := adjust_any A n c zs w hr hB hn
  rwa [sum_rs, show (2981146554 - rs zs % 4294967296) % 4294967296 = (2981146554 - rs zs) % 4294967296 by omega] at this

end Go.Proofs.Ytlkidnacfljpkaa
