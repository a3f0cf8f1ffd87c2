/- A Reader's numbers, as contracts over this seat's translation. -/
import Derived.Test.YtlkidnacfljpkaaWord
namespace Go.Proofs.Ytlkidnacfljpkaa
open Go.RowKit
set_option linter.unusedVariables false

/-- Bytes as a number, the highest first. -/
def be (l : List Int) : Int := l.foldl (fun n b => n * 256 + b) 0

theorem be_snoc (l : List Int) (x : Int) : be (l ++ [x]) = be l * 256 + x := by simp [be]

theorem be_le_from (l : List Int) : ∀ (acc : Int) (n : Nat), Bytes l → 0 ≤ acc → acc < 256 ^ n → 0 ≤ l.foldl (fun n b => n * 256 + b) acc ∧ l.foldl (fun n b => n * 256 + b) acc < 256 ^ (n + l.length) := by
  induction l with
  | nil => intro acc n _ h0 h1; exact ⟨h0, h1⟩
  | cons x l ih =>
    intro acc n h h0 h1
    have hx := h x (by simp)
    have := ih (acc * 256 + x) (n + 1) (fun y hy => h y (List.mem_cons_of_mem _ hy)) (by omega) (by rw [Int.pow_succ]; omega)
    rw [List.foldl_cons, List.length_cons]
    rw [show n + 1 + l.length = n + (l.length + 1) by omega] at this
    exact this

theorem be_le (l : List Int) (h : Bytes l) : 0 ≤ be l ∧ be l < 256 ^ l.length := by
  have := be_le_from l 0 0 h (by omega) (by simp)
  rwa [Nat.zero_add] at this

/-- The next byte behind a number. -/
theorem or_byte (v x : Int) (h0 : 0 ≤ v) (h1 : v < 16777216) (x0 : 0 ≤ x) (x1 : x ≤ 255) : bits .or .u32 (v * 256) x = v * 256 + x := by
  rw [u32_or _ _ (by omega) (by omega) x0 (by omega)]
  obtain ⟨v, rfl⟩ := Int.eq_ofNat_of_zero_le h0
  obtain ⟨x, rfl⟩ := Int.eq_ofNat_of_zero_le x0
  rw [show ((v : Int) * 256).toNat = v <<< 8 by rw [Nat.shiftLeft_eq]; omega, Int.toNat_natCast, ← Nat.shiftLeft_add_eq_or_of_lt (by omega), Nat.shiftLeft_eq]
  omega

/-- What asking a Reader for a number leaves. -/
def RetNum (w : World) (B b : Nat) (v : Value) (zs : List Int) (a : Int) (bad : Bool) (e : Ending) (w' : World) : Prop :=
  e = .returned v ∧ Rd w' B b zs a bad ∧ w.grownBy w' (some b)

set_option maxHeartbeats 400000 in
theorem number_ok (B b m : Nat) (zs : List Int) (a : Int) (bad : Bool) (w : World) (h : Rd w B b zs a bad) (hB : Bytes zs) (hm : m ≤ zs.length) (hm4 : m ≤ 4) (hl : zs.length ≤ 140737488351232) (ha0 : 0 ≤ a) (ha1 : a ≤ 1000000000000000) :
    Calls Try.prog 84 #[.pointer (some ⟨b, 0, none⟩), .int .i64 m] w (RetNum w B b (.int .u32 (be (zs.take m))) (zs.drop m) (a + m) bad) := by
  go_enter Try.func84, Try.ntmps84
  go_wp2_with fail
  refine (next_ok B b m zs a bad w h hm hl ha0 ha1).mono ?_
  rintro e w1 ⟨A, n, c, rfl, hrow, hblk, hrd, hg⟩
  have Hn : Hid (n = m) := by have := hrow.len; rw [List.length_take] at this; exact (by omega : n = m)
  have hn4 : n ≤ 4 := by have := Hn.out; omega
  have HB : Hid (Bytes (zs.take m)) := fun x hx => hB x (List.mem_of_mem_take hx)
  clear hm hl hB hblk h
  generalize hys : zs.take m = ys at *
  have Hys := Lib.hid hys
  clear hys
  have Hlen := Lib.hid hrow.len
  go_wp2
  go_loop [5, 12] (fun v i => ∃ k : Nat, k ≤ n ∧ i = .int .i64 k ∧ v = .int .u32 (be (ys.take k))) (fun _ i => n - (intOf i).toNat)
  case atStart => exact ⟨0, Nat.zero_le _, rfl, rfl⟩
  case round =>
    obtain ⟨k, hk, rfl, rfl⟩ := hrel
    by_cases hlt : k < n
    · obtain ⟨x, ex⟩ := get_some (zs := ys) (k := k) (by have := Hlen.out; omega)
      obtain ⟨g, off, rfl, hg', hc⟩ := hrow.at (cellsOf_get (k := .u8) ex)
      have hx := HB.out x (List.mem_of_getElem? ex)
      obtain ⟨x0, x1⟩ := hx
      have HS : Hid (be (ys.take (k + 1)) = be (ys.take k) * 256 + x) := by rw [List.take_add_one, ex]; exact be_snoc _ _
      have hb := be_le (ys.take k) (fun y hy => HB.out y (List.mem_of_mem_take hy))
      have hv1 : be (ys.take k) < 16777216 := by
        refine Int.lt_of_lt_of_le hb.2 ?_
        have : (ys.take k).length ≤ 3 := by rw [List.length_take]; omega
        rcases h3 : (ys.take k).length with _ | _ | _ | _ | q <;> simp_all <;> omega
      have hv0 := hb.1
      clear ex hb
      have HO : Hid (bits .or .u32 (be (ys.take k) * 256) x = be (ys.take (k + 1))) := by rw [HS.out]; exact or_byte _ _ hv0 hv1 x0 x1
      go_wp2
      go_round
      case rel => exact ⟨k + 1, by omega, by go_num, by rw [HO.out]⟩
      case measure => simp [intOf]; omega
    · have HE : Hid (ys.take k = ys) := List.take_of_length_le (by have := Hlen.out; omega)
      go_wp2
      go_ret
      refine ⟨?_, hrd, hg⟩
      rw [HE.out]
      rfl

set_option maxHeartbeats 400000 in
theorem number_bad (B b : Nat) (m : Int) (zs : List Int) (a : Int) (bad : Bool) (w : World) (h : Rd w B b zs a bad) (hm : m < 0 ∨ (zs.length : Int) < m) :
    Calls Try.prog 84 #[.pointer (some ⟨b, 0, none⟩), .int .i64 m] w (RetNum w B b (.int .u32 0) [] a true) := by
  go_enter Try.func84, Try.ntmps84
  go_wp2_with fail
  refine (next_bad B b m zs a bad w h hm).mono ?_
  rintro e w1 ⟨A, n, c, rfl, hrow, hblk, hrd, hg⟩
  have hn : n = 0 := hrow.1.symm
  subst hn
  clear hblk h hrow hm
  go_wp2
  refine wp_loop_rounds 1 ?_
  rw [rounds_succ]
  go_wp2
  go_ret
  exact ⟨rfl, hrd, hg⟩

end Go.Proofs.Ytlkidnacfljpkaa
