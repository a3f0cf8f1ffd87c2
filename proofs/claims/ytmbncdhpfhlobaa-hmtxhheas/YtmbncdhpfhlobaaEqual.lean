/- What bytes.Equal answers, as a contract over this seat's translation. -/
import Derived.Test.YtmbncdhpfhlobaaRef
import Derived.Laws.BytesArg
namespace Go.Proofs.Ytmbncdhpfhlobaa
open Go.RowKit
set_option linter.unusedVariables false

theorem convert_row {w : World} {A : Option Addr} {n : Nat} {xs : List Int} (h : Row w A n (cellsOf .u8 xs)) (c : Nat) : (convert 27 9 (.slice A n c)).run Try.prog w = .ok (.string (strOfNums xs)) w := by
  have hl := h.len
  rcases Nat.eq_zero_or_pos n with hn | hn
  · subst hn
    obtain rfl : xs = [] := List.eq_nil_of_length_eq_zero hl
    cases A with
    | none => exact run_convert_bytes_nil w 27 5 Try.underlying27 Try.underlying5 0 c 9 Try.underlying9
    | some a =>
      rw [run_convert_bytes_string w 27 9 5 _ 0 c Try.underlying27 Try.underlying5 Try.underlying9, run_bytesToString w a 0 c [] (by simp [loadCells, loadCellsFrom])]
      rfl
  · obtain ⟨g, off, rfl, _, hc⟩ := h.2 hn
    refine run_convert_bytes_arg w 27 5 Try.underlying27 Try.underlying5 g off n c xs hl (fun i hi => ?_) 9 Try.underlying9
    refine hc i _ ?_
    rw [List.getD_eq_getElem?_getD]
    have : xs[i]? = some xs[i] := List.getElem?_eq_getElem (by omega)
    rw [cellsOf_get this, this]
    rfl

theorem strOf_eq {xs ys : List Int} (hx : Bytes xs) (hy : Bytes ys) : ((strOfNums xs).toList == (strOfNums ys).toList) = sameB xs ys := by
  have key : ∀ (a b : List Int), Bytes a → Bytes b → a.map (fun n => UInt8.ofNat n.toNat) = b.map (fun n => UInt8.ofNat n.toNat) → a = b := by
    intro a
    induction a with
    | nil => intro b _ _ h; cases b with
      | nil => rfl
      | cons => simp at h
    | cons x a ih =>
      intro b ha hb h
      cases b with
      | nil => simp at h
      | cons y b =>
        simp only [List.map_cons, List.cons.injEq] at h
        have hx := ha x (by simp)
        have hy := hb y (by simp)
        have e : x = y := by
          have := congrArg UInt8.toNat h.1
          rw [UInt8.toNat_ofNat', UInt8.toNat_ofNat'] at this
          omega
        rw [e, ih b (fun z hz => ha z (List.mem_cons_of_mem _ hz)) (fun z hz => hb z (List.mem_cons_of_mem _ hz)) h.2]
  unfold sameB
  rw [Bool.eq_iff_iff, beq_iff_eq, decide_eq_true_iff, ByteArray.toList_eq, ByteArray.toList_eq, strOfNums_data, strOfNums_data]
  exact ⟨key xs ys hx hy, fun h => by rw [h]⟩

theorem equal_any (A B : Option Addr) (n c m d : Nat) (xs ys : List Int) (w : World) (hx : Row w A n (cellsOf .u8 xs)) (hy : Row w B m (cellsOf .u8 ys)) (bx : Bytes xs) (bY : Bytes ys) :
    Calls Try.prog 48 #[.slice A n c, .slice B m d] w (fun e w' => e = .returned (.bool (sameB xs ys)) ∧ w = w') := by
  have h1 := convert_row hx c
  have h2 := convert_row hy d
  have H := Lib.hid (strOf_eq bx bY)
  clear hx hy bx bY
  go_enter Try.func48, Try.ntmps48
  go_wp2
  go_ret
  rw [← H.out]
  exact ⟨rfl, rfl⟩

end Go.Proofs.Ytmbncdhpfhlobaa
