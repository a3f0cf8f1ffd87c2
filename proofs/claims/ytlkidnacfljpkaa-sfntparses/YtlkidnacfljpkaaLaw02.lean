/- The document's Sum, and what all laws of layer 2 begin with. -/
import Derived.Test.YtlkidnacfljpkaaSums
namespace Go.Proofs.Ytlkidnacfljpkaa
open Go.RowKit
set_option linter.unusedVariables false

theorem worth_is (k : Nat) : (k % 4 = 0 ∧ worth k = 16777216) ∨ (k % 4 = 1 ∧ worth k = 65536) ∨ (k % 4 = 2 ∧ worth k = 256) ∨ (k % 4 = 3 ∧ worth k = 1) := by
  have : k % 4 = 0 ∨ k % 4 = 1 ∨ k % 4 = 2 ∨ k % 4 = 3 := by omega
  unfold worth
  rcases this with h | h | h | h <;> simp [h]

set_option maxHeartbeats 1000000 in
theorem refSum_any (A : Option Addr) (n c : Nat) (zs : List Int) (w : World) (hr : Row w A n (cellsOf .u8 zs)) (hB : Bytes zs) (hn : n ≤ 100000) :
    Calls Try.prog 42 #[.slice A n c] w (Ret w (.int .u32 (rs zs % 4294967296))) := by
  have Hl := Lib.hid hr.len
  have HB := Lib.hid hB
  clear hB
  go_enter Try.func42, Try.ntmps42
  go_wp2
  go_loopw [3, 8] (fun s i wr => ∃ k : Nat, k ≤ n ∧ i = .int .i64 k ∧ s = .int .u64 (rs (zs.take k)) ∧ Below w.heap.size w wr) (fun _ i _ => n - (intOf i).toNat)
  case atStart => exact ⟨0, Nat.zero_le _, rfl, by simp [rs], Below.refl _ _⟩
  case round =>
    obtain ⟨k, hk, rfl, rfl, hb⟩ := hrel
    have hrs := rs_le (zs.take k) (fun x hx => HB.out x (List.mem_of_mem_take hx))
    have hkl : ((zs.take k).length : Int) ≤ 100000 := by rw [List.length_take]; omega
    obtain ⟨r0, r1⟩ := hrs
    have r2 : rs (zs.take k) ≤ 427819008000000 := by omega
    clear r1 hkl
    by_cases hlt : k < n
    · obtain ⟨x, ex⟩ := get_some (zs := zs) (k := k) (by have := Hl.out; omega)
      obtain ⟨g, off, rfl, hg, hc⟩ := (hr.below hb).at (cellsOf_get (k := .u8) ex)
      obtain ⟨x0, x1⟩ := HB.out x (List.mem_of_getElem? ex)
      have hsn : Hid (rs (zs.take (k + 1)) = rs (zs.take k) + x * worth k) := by
        show _ = _
        rw [List.take_add_one, ex]
        have h1 := rs_snoc (zs.take k) x
        rw [show (zs.take k).length = k by rw [List.length_take]; have := Hl.out; omega] at h1
        exact h1
      have hs := hb.size
      clear ex
      generalize rs (zs.take k) = sv at *
      rcases worth_is k with ⟨h4, hw⟩ | ⟨h4, hw⟩ | ⟨h4, hw⟩ | ⟨h4, hw⟩
      all_goals
        have Hw := Lib.hid hw
        clear hw
        have hi4 : (k : Int) % 4 = ((k % 4 : Nat) : Int) := by omega
        rw [h4] at hi4
        go_wp2
        go_roundw
        case rel => exact ⟨k + 1, by omega, by go_num, by (rw [hsn.out, Hw.out] <;> go_num), hb.alloc hs _⟩
        case measure => simp [intOf]; omega
    · have HT : Hid (zs.take k = zs) := List.take_of_length_le (by have := Hl.out; omega)
      go_wp2
      go_ret
      refine ⟨?_, hb⟩
      rw [HT.out]
      rfl

set_option maxRecDepth 100000 in
/-- 'make([]byte, m)' as one equation. -/
theorem make_bytes (L : Int) (m : Nat) (hL : L = (m : Int)) (hm : m ≤ 140737488355328) (w : World) :
    (Instr.makeSlice 27 (.int .i64 L) (.int .i64 L)).run Try.prog w = .ok (.slice (some ⟨w.heap.size, 0, none⟩) m m) (w.alloc (.cells (cellsOf .u8 (List.replicate m 0)).toArray 5)) := by
  obtain ⟨i0, hi, hz0, hz1, hz2⟩ := info_parts Try.u8info
  subst hL
  have h := run_make (P := Try.prog) w 27 5 i0 (.int .u8 0) Try.underlying27 hi hz0 .i64 .i64 (m : Int) (m : Int) (by omega) (by omega) (by rw [hz2]; omega) (by omega)
  rw [h]
  simp only [Int.toNat_natCast, hz1, Nat.mul_one]
  congr 3
  rw [show (Value.int .u8 0).cells = #[.int .u8 0] from rfl]
  apply Array.ext'
  rw [toList_madeCells_one]
  simp [cellsOf]

end Go.Proofs.Ytlkidnacfljpkaa
