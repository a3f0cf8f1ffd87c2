/- What package head answers (Right, format, Bytes, Thousandths), as contracts over this seat's translation. -/
import Derived.Test.YtmpicokeenodbaaWrBox
import Derived.Test.YtmpicokeenodbaaCells
namespace Go.Proofs.Ytmpicokeenodbaa
open Go.RowKit
set_option linter.unusedVariables false

/-- The font's own numbers. -/
structure Hd where
  rv : Int
  ad : Int
  fl : Int
  un : Int
  cr : Int
  mo : Int
  x0 : Int
  x1 : Int
  x2 : Int
  x3 : Int
  st : Int
  lo : Int
  hi : Int
  lg : Bool
  deriving DecidableEq

def Hd.box (h : Hd) : List Int := [h.x0, h.x1, h.x2, h.x3]
abbrev hdC (h : Hd) : Array Value := #[.int .u32 h.rv, .int .u32 h.ad, .int .u16 h.fl, .int .u16 h.un, .int .u64 h.cr, .int .u64 h.mo, .int .i16 h.x0, .int .i16 h.x1, .int .i16 h.x2, .int .i16 h.x3, .int .u16 h.st, .int .u16 h.lo, .int .i16 h.hi, .bool h.lg]
abbrev hdV (h : Hd) : Value := .agg (hdC h)
structure Hd.ok (h : Hd) : Prop where
  rv : 0 ≤ h.rv ∧ h.rv < 4294967296
  ad : 0 ≤ h.ad ∧ h.ad < 4294967296
  fl : 0 ≤ h.fl ∧ h.fl < 65536
  un : 0 ≤ h.un ∧ h.un < 65536
  cr : 0 ≤ h.cr ∧ h.cr < 18446744073709551616
  mo : 0 ≤ h.mo ∧ h.mo < 18446744073709551616
  box : ∀ x ∈ h.box, -32768 ≤ x ∧ x < 32768
  st : 0 ≤ h.st ∧ h.st < 65536
  lo : 0 ≤ h.lo ∧ h.lo < 65536
  hi : -32768 ≤ h.hi ∧ h.hi < 32768
/-- May a font have so many units? -/
def hdRight (h : Hd) : Bool := decide (16 ≤ h.un) && decide (h.un ≤ 16384)
def hdLong (lg : Bool) : Int := if lg = true then 1 else 0
/-- Eight bytes of a number; two of one with a sign. -/
def b8 (n : Int) : List Int := b4 (n / 4294967296) ++ b4 (n % 4294967296)
def s2 (n : Int) : List Int := b2 (n % 65536)
/-- Its bytes. -/
def hdPre (h : Hd) : List Int := b4 65536 ++ b4 h.rv ++ b4 h.ad ++ b4 1594834165 ++ b2 h.fl ++ b2 h.un ++ b8 h.cr ++ b8 h.mo
def hdL (h : Hd) : List Int := hdPre h ++ h.box.flatMap s2 ++ b2 h.st ++ b2 h.lo ++ b2 (h.hi % 65536) ++ b2 (hdLong h.lg) ++ b2 0

theorem flat_s2_len (l : List Int) : (l.flatMap s2).length = 2 * l.length := by
  induction l with
  | nil => rfl
  | cons x l ih => rw [List.flatMap_cons, List.length_append, ih, List.length_cons]; simp [s2, b2]; omega
theorem hdPre_len (h : Hd) : (hdPre h).length = 36 := rfl
theorem hdL_len (h : Hd) : (hdL h).length = 54 := rfl
theorem flat_s2_snoc {l : List Int} {k : Nat} {x : Int} (h : l[k]? = some x) : (l.take (k + 1)).flatMap s2 = (l.take k).flatMap s2 ++ b2 (x % 65536) := by
  rw [List.take_add_one, h]
  simp [s2]

theorem hright_any (h : Hd) (w : World) : Calls Try.prog 14 #[hdV h] w (Ret w (.bool (hdRight h))) := by
  obtain ⟨rv, ad, fl, un, cr, mo, x0, x1, x2, x3, st, lo, hi, lg⟩ := h
  unfold hdRight
  simp only
  cases e1 : decide (16 ≤ un) <;> cases e2 : decide (un ≤ 16384)
  all_goals
    go_enter Try.func14, Try.ntmps14
    go_wp2
    go_ret
    exact ⟨rfl, (Below.refl _ _).alloc (Nat.le_refl _) _⟩

theorem hformat_any (h : Hd) (w : World) : Calls Try.prog 35 #[hdV h] w (Ret w (.int .u16 (hdLong h.lg))) := by
  obtain ⟨rv, ad, fl, un, cr, mo, x0, x1, x2, x3, st, lo, hi, lg⟩ := h
  cases lg
  all_goals
    go_enter Try.func35, Try.ntmps35
    go_wp2
    go_ret
    exact ⟨rfl, (Below.refl _ _).alloc (Nat.le_refl _) _⟩

theorem wtime_any {w wr : World} {b : Nat} {zs : List Int} {bt : Nat} {cs : Array Value} {t : TypeId} (hs : StB w wr b zs bt cs t) (n : Int) (n0 : 0 ≤ n) (n1 : n < 18446744073709551616) (hl : zs.length ≤ 140737488350000) :
    Calls Try.prog 33 #[.pointer (some ⟨b, 0, none⟩), .int .u64 n] wr (fun e w' => e = .returned (.tuple #[]) ∧ StB w w' b (zs ++ b8 n) bt cs t) := by
  go_enter Try.func33, Try.ntmps33
  go_wp2_with fail
  refine (wu32_any _ _ _ (n / 4294967296) _ hs.wr_ (by omega) (by omega) (by omega)).mono ?_
  rintro e w2 ⟨rfl, h2, t2⟩
  have hs2 := hs.turned h2 t2
  clear t2 h2 hs
  go_wp2_with fail
  refine (wu32_any _ _ _ (n % 4294967296) _ hs2.wr_ (by simp [b4, b2]; omega) (by omega) (by omega)).mono ?_
  rintro e w3 ⟨rfl, h3, t3⟩
  have hs3 := hs2.turned h3 t3
  clear t3 h3 hs2
  go_wp2
  go_end0
  rw [List.append_assoc] at hs3
  exact ⟨rfl, hs3⟩

theorem hbytes_none (h : Hd) (w : World) (h0 : hdRight h = false) : Calls Try.prog 13 #[hdV h] w (RetB w []) := by
  have hk := heap_alloc_new w (.cells (hdC h) 28)
  have hA : Below w.heap.size w (w.alloc (.cells (hdC h) 28)) := (Below.refl _ _).alloc (Nat.le_refl _) _
  have HR := Lib.hid (fun W => hright_any h W)
  rw [h0] at HR
  obtain ⟨rv, ad, fl, un, cr, mo, x0, x1, x2, x3, st, lo, hi, lg⟩ := h
  simp only [hdC] at hk hA
  clear h0
  go_enter Try.func13, Try.ntmps13
  go_wp2_with fail
  generalize w.alloc _ = V at *
  refine (HR.out _).mono ?_
  rintro e w1 ⟨rfl, hb1⟩
  go_wp2
  go_ret
  exact ⟨none, 0, 0, rfl, Own.nil _ _ _ _, hA.trans (hb1.mono hA.size)⟩

end Go.Proofs.Ytmpicokeenodbaa
