/- A Reader's calls, each by one contract for every state: asked for m bytes it tells them, or it is bad from then on. -/
import Derived.Test.YtlkidnacfljpkaaWord2
namespace Go.Proofs.Ytlkidnacfljpkaa
open Go.RowKit
set_option linter.unusedVariables false

/-- What is told of m bytes that are asked for; what is left behind them; how many were gone through; whether it is bad. -/
def told (zs : List Int) (m : Nat) : List Int := if m ≤ zs.length then zs.take m else []
def rest (zs : List Int) (m : Nat) : List Int := if m ≤ zs.length then zs.drop m else []
def gone (zs : List Int) (a : Int) (m : Nat) : Int := if m ≤ zs.length then a + m else a
def badn (zs : List Int) (bad : Bool) (m : Nat) : Bool := if m ≤ zs.length then bad else true
def num (zs : List Int) (m : Nat) : Int := be (told zs m)
def sgn (n : Int) : Int := if 32767 < n then n - 65536 else n

theorem told_len (zs : List Int) (m : Nat) : (told zs m).length ≤ m := by unfold told; split <;> simp; omega
theorem told_bytes {zs : List Int} (h : Bytes zs) (m : Nat) : Bytes (told zs m) := by
  unfold told
  split
  · exact fun x hx => h x (List.mem_of_mem_take hx)
  · intro x hx; cases hx
theorem rest_bytes {zs : List Int} (h : Bytes zs) (m : Nat) : Bytes (rest zs m) := by
  unfold rest
  split
  · exact fun x hx => h x (List.mem_of_mem_drop hx)
  · intro x hx; cases hx
theorem rest_len (zs : List Int) (m : Nat) : (rest zs m).length ≤ zs.length := by unfold rest; split <;> simp
theorem num_lt {zs : List Int} (h : Bytes zs) (m k : Nat) (hk : m ≤ k) : 0 ≤ num zs m ∧ num zs m < 256 ^ k := by
  have h1 := be_le (told zs m) (told_bytes h m)
  have h2 : (256 : Int) ^ (told zs m).length ≤ 256 ^ k := by
    have : 256 ^ (told zs m).length ≤ 256 ^ k := Nat.pow_le_pow_right (by omega) (Nat.le_trans (told_len zs m) hk)
    rw [show (256 : Int) = ((256 : Nat) : Int) from rfl, ← Int.natCast_pow, ← Int.natCast_pow]
    exact Int.ofNat_le.2 this
  exact ⟨h1.1, Int.lt_of_lt_of_le h1.2 h2⟩

section
variable (B b : Nat) (zs : List Int) (a : Int) (bad : Bool) (w : World) (h : Rd w B b zs a bad) (hB : Bytes zs) (hl : zs.length ≤ 140737488351232) (ha0 : 0 ≤ a) (ha1 : a ≤ 1000000000000000)
include h hB hl ha0 ha1

theorem number_any (m : Nat) (hm4 : m ≤ 4) :
    Calls Try.prog 84 #[.pointer (some ⟨b, 0, none⟩), .int .i64 m] w (RetNum w B b (.int .u32 (num zs m)) (rest zs m) (gone zs a m) (badn zs bad m)) := by
  by_cases hm : m ≤ zs.length
  · have := number_ok B b m zs a bad w h hB hm hm4 hl ha0 ha1
    simpa only [num, told, rest, gone, badn, if_pos hm] using this
  · have := number_bad B b m zs a bad w h (.inr (by omega))
    simpa only [num, told, rest, gone, badn, if_neg hm, show be [] = 0 from rfl] using this

omit hB in
theorem take_any (m : Nat) : Calls Try.prog 65 #[.pointer (some ⟨b, 0, none⟩), .int .i64 m] w (RetNext w B b (told zs m) (rest zs m) (gone zs a m) (badn zs bad m)) := by
  have hn : Calls Try.prog 85 #[.pointer (some ⟨b, 0, none⟩), .int .i64 m] w (RetNext w B b (told zs m) (rest zs m) (gone zs a m) (badn zs bad m)) := by
    by_cases hm : m ≤ zs.length
    · have := next_ok B b m zs a bad w h hm hl ha0 ha1
      simpa only [told, rest, gone, badn, if_pos hm] using this
    · have := next_bad B b m zs a bad w h (.inr (by omega))
      simpa only [told, rest, gone, badn, if_neg hm] using this
  have H := Lib.hid hn
  clear hn h hl ha0 ha1
  go_enter Try.func65, Try.ntmps65
  go_wp2_with fail
  refine H.out.mono ?_
  rintro e w1 ⟨A, n, c, rfl, hr⟩
  go_wp2
  go_ret
  exact ⟨A, n, c, rfl, hr⟩

theorem u16_any : Calls Try.prog 64 #[.pointer (some ⟨b, 0, none⟩)] w (RetNum w B b (.int .u16 (num zs 2)) (rest zs 2) (gone zs a 2) (badn zs bad 2)) := by
  have H := Lib.hid (number_any B b zs a bad w h hB hl ha0 ha1 2 (by omega))
  obtain ⟨n0, n1⟩ := num_lt hB 2 2 (by omega)
  clear h hB hl ha0 ha1
  simp only [Int.pow_succ, Int.pow_zero, Int.one_mul, Int.reduceMul] at n1
  go_enter Try.func64, Try.ntmps64
  go_wp2_with fail
  refine H.out.mono ?_
  rintro e w1 ⟨rfl, hr⟩
  go_wp2
  go_ret
  exact ⟨rfl, hr⟩

theorem u32_any : Calls Try.prog 63 #[.pointer (some ⟨b, 0, none⟩)] w (RetNum w B b (.int .u32 (num zs 4)) (rest zs 4) (gone zs a 4) (badn zs bad 4)) := by
  have H := Lib.hid (number_any B b zs a bad w h hB hl ha0 ha1 4 (by omega))
  clear h hB hl ha0 ha1
  go_enter Try.func63, Try.ntmps63
  go_wp2_with fail
  refine H.out.mono ?_
  rintro e w1 ⟨rfl, hr⟩
  go_wp2
  go_ret
  exact ⟨rfl, hr⟩

omit hB ha0 ha1 hl in
theorem left_any : Calls Try.prog 71 #[.pointer (some ⟨b, 0, none⟩)] w fun e w' => e = .returned (.int .i64 zs.length) ∧ w = w' := by
  obtain ⟨A, n, c, hb, h1, h2, h3, h4⟩ := h
  have Hn := Lib.hid h2.len
  have c0 : w.cell? ⟨b, 0, none⟩ = some (.slice A n c) := cell_of_row w b 0 _ 121 (0, 0) hb
  clear h2 h3 h4 hb
  go_enter Try.func71, Try.ntmps71
  go_wp2
  go_ret
  rw [Hn.out]
  exact ⟨rfl, rfl⟩

omit hB ha0 ha1 hl in
theorem bad_any : Calls Try.prog 66 #[.pointer (some ⟨b, 0, none⟩)] w fun e w' => e = .returned (.bool bad) ∧ w = w' := by
  obtain ⟨A, n, c, hb, h1, h2, h3, h4⟩ := h
  have c0 : w.cell? ⟨b, 2, none⟩ = some (.bool bad) := cell_of_row w b 2 _ 121 (0, 0) hb
  clear h2 h3 h4 hb
  go_enter Try.func66, Try.ntmps66
  go_wp2
  go_ret
  exact ⟨rfl, rfl⟩

end

end Go.Proofs.Ytlkidnacfljpkaa
