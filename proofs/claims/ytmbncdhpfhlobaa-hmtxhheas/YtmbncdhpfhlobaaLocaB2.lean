/- What package loca's Build answers, as a contract over this seat's translation. -/
import Derived.Test.YtmbncdhpfhlobaaLocaB
import Derived.Test.YtmbncdhpfhlobaaCells
namespace Go.Proofs.Ytmbncdhpfhlobaa
open Go.RowKit
set_option linter.unusedVariables false

/-- Is the table of these sizes long? Its bytes. -/
def longOf (l : List Int) : Bool := !fitB (scan 0 l)
def bytesOf (l : List Int) : List Int := plsB (longOf l) (scan 0 l)

theorem fit_at {l : List Int} (h : fitB l = true) {k : Nat} {x : Int} (hx : l[k]? = some x) : x % 2 = 0 ∧ x ≤ 131070 := by
  have := List.all_eq_true.1 h x (List.mem_of_getElem? hx)
  simpa using this

/-- What building leaves. -/
def RetBd (w : World) (l : List Int) (e : Ending) (w' : World) : Prop :=
  Below w.heap.size w w' ∧ ((okS 0 l = false ∧ e = .returned (.tuple #[.slice none 0 0, .bool false])) ∨ (okS 0 l = true ∧ ∃ A n c, e = .returned (.tuple #[.slice A n c, .bool (longOf l)]) ∧ OwnB w' w.heap.size A n c (bytesOf l)))

theorem cur_at {cur : Array Value} {n : Nat} {l : List Int} (h : cur.toList.take n = cellsOf .i64 l) {k : Nat} {x : Int} (hx : l[k]? = some x) : cur[k]? = some (.int .i64 x) := by
  have := cellsOf_get (k := .i64) hx
  rw [← h, List.getElem?_take] at this
  split at this
  · simpa using this
  · cases this

set_option maxRecDepth 100000 in
set_option maxHeartbeats 1000000 in
theorem locaBuild_short (A : Option Addr) (n c : Nat) (l : List Int) (w : World) (hr : Row w A n (cellsOf .i64 l)) (hn : n ≤ 65535) (hok : okS 0 l = true) (hfit : fitB (scan 0 l) = true) :
    Calls Try.prog 33 #[.slice A n c] w (RetBd w l) := by
  have Hn := Lib.hid hr.len
  have Hok := Lib.hid hok
  have Hfit := Lib.hid hfit
  have HL : Hid (longOf l = false) := by unfold longOf; rw [hfit]; exact rfl
  have HM := Lib.hid (scan_mem l hok)
  have HS := Lib.hid (scan_len l 0)
  have Hp := Lib.hid (placesOf_any A n c l w hr (by omega))
  clear hr hok hfit
  go_enter Try.func33, Try.ntmps33
  go_wp2_with fail
  refine Hp.out.mono ?_
  rintro e w1 ⟨hb1, h⟩
  rcases h with ⟨h, rfl⟩ | ⟨_, A1, n1, c1, rfl, hown⟩
  · exact absurd h (by rw [Hok.out]; decide)
  have Hn1 : Hid (n1 = n + 1) := by rw [← hown.len, HS.out, Hn.out]; exact rfl
  have hn1 : n1 ≤ 65536 := by have := Hn1.out; omega
  have hrow := hown.row
  rcases hown.shape with ⟨_, h, _⟩ | ⟨g, cur, rfl, hg0, hg1, hh, _, _, _, hcur⟩
  · have := HS.out
    rw [h] at this
    simp at this
  have HC : Hid (∀ (k : Nat) (x : Int), (scan 0 l)[k]? = some x → cur[k]? = some (.int .i64 x)) := fun k x hx => cur_at hcur hx
  clear hown hcur hg0 hg1
  go_wp2_with fail
  refine (fitShort_any _ _ _ _ _ hrow (by omega) HM.out).mono ?_
  rintro e w' ⟨rfl, rfl⟩
  rw [Hfit.out]
  have hs : StB w (w1.alloc (.cells #[.slice none 0 0] 79)) w1.heap.size [] g cur 3 := ⟨(wr_new w1).mono hb1.size, hb1.alloc hb1.size _, kept_alloc hh _, by decide, by decide⟩
  clear hrow hb1 hh
  go_wp2
  generalize w1.heap.size = b at *
  go_loopw [25] (fun i wr => ∃ k : Nat, k ≤ n1 ∧ i = .int .i64 k ∧ StB w wr b (plsB false ((scan 0 l).take k)) g cur 3) (fun i _ => n1 - (intOf i).toNat)
  case atStart => exact ⟨0, Nat.zero_le _, rfl, hs⟩
  case round =>
    clear hs
    obtain ⟨k, hk, rfl, hs⟩ := hrel
    by_cases hlt : k < n1
    · obtain ⟨x, hx⟩ := get_some (zs := scan 0 l) (k := k) (by rw [HS.out, Hn.out, ← Hn1.out]; exact hlt)
      have hc := hs.cell k _ (HC.out k x hx)
      obtain ⟨x0, x1⟩ := HM.out x (List.mem_of_getElem? hx)
      have HP : Hid (plsB false ((scan 0 l).take (k + 1)) = plsB false ((scan 0 l).take k) ++ b2 (x / 2)) := by rw [take_snocI _ k x hx, plsB_snoc]; exact rfl
      obtain ⟨_, x2⟩ := fit_at Hfit.out hx
      clear hx
      go_wp2_with fail
      with_reducible refine (wu16_any _ b _ (x / 2) _ hs.wr_ (by rw [plsB_len, List.length_take]; simp [eachB]; omega) (by omega) (by omega)).mono ?_
      rintro e w3 ⟨rfl, hw3, ht3⟩
      have hs3 := hs.turned hw3 ht3
      rw [← HP.out] at hs3
      clear hs hw3 ht3 hc
      go_wp2
      go_roundw
      case rel => exact ⟨k + 1, by omega, by go_num, hs3⟩
      case measure => simp [intOf]; omega
    · have HE : Hid ((scan 0 l).take k = scan 0 l) := List.take_of_length_le (by rw [HS.out, Hn.out, ← Hn1.out]; omega)
      rw [HE.out] at hs
      go_wp2_with fail
      refine (done_any _ b _ _ hs.wr_ (by rw [plsB_len, HS.out, Hn.out]; simp [eachB]; omega)).mono ?_
      rintro e w3 ⟨A3, n3, c3, rfl, hown3, hb3⟩
      go_wp2
      go_ret2
      refine ⟨hs.bel.trans (hb3.mono hs.bel.size), .inr ⟨Hok.out, A3, n3, c3, ?_, ?_⟩⟩
      · rw [HL.out]
        rfl
      · unfold bytesOf
        rw [HL.out]
        exact hown3.mono hs.bel.size

set_option maxRecDepth 100000 in
set_option maxHeartbeats 1000000 in
theorem locaBuild_long (A : Option Addr) (n c : Nat) (l : List Int) (w : World) (hr : Row w A n (cellsOf .i64 l)) (hn : n ≤ 65535) (hok : okS 0 l = true) (hfit : fitB (scan 0 l) = false) :
    Calls Try.prog 33 #[.slice A n c] w (RetBd w l) := by
  have Hn := Lib.hid hr.len
  have Hok := Lib.hid hok
  have Hfit := Lib.hid hfit
  have HL : Hid (longOf l = true) := by unfold longOf; rw [hfit]; exact rfl
  have HM := Lib.hid (scan_mem l hok)
  have HS := Lib.hid (scan_len l 0)
  have Hp := Lib.hid (placesOf_any A n c l w hr (by omega))
  clear hr hok hfit
  go_enter Try.func33, Try.ntmps33
  go_wp2_with fail
  refine Hp.out.mono ?_
  rintro e w1 ⟨hb1, h⟩
  rcases h with ⟨h, rfl⟩ | ⟨_, A1, n1, c1, rfl, hown⟩
  · exact absurd h (by rw [Hok.out]; decide)
  have Hn1 : Hid (n1 = n + 1) := by rw [← hown.len, HS.out, Hn.out]; exact rfl
  have hn1 : n1 ≤ 65536 := by have := Hn1.out; omega
  have hrow := hown.row
  rcases hown.shape with ⟨_, h, _⟩ | ⟨g, cur, rfl, hg0, hg1, hh, _, _, _, hcur⟩
  · have := HS.out
    rw [h] at this
    simp at this
  have HC : Hid (∀ (k : Nat) (x : Int), (scan 0 l)[k]? = some x → cur[k]? = some (.int .i64 x)) := fun k x hx => cur_at hcur hx
  clear hown hcur hg0 hg1
  go_wp2_with fail
  refine (fitShort_any _ _ _ _ _ hrow (by omega) HM.out).mono ?_
  rintro e w' ⟨rfl, rfl⟩
  rw [Hfit.out]
  have hs : StB w (w1.alloc (.cells #[.slice none 0 0] 79)) w1.heap.size [] g cur 3 := ⟨(wr_new w1).mono hb1.size, hb1.alloc hb1.size _, kept_alloc hh _, by decide, by decide⟩
  clear hrow hb1 hh
  go_wp2
  generalize w1.heap.size = b at *
  go_loopw [25] (fun i wr => ∃ k : Nat, k ≤ n1 ∧ i = .int .i64 k ∧ StB w wr b (plsB true ((scan 0 l).take k)) g cur 3) (fun i _ => n1 - (intOf i).toNat)
  case atStart => exact ⟨0, Nat.zero_le _, rfl, hs⟩
  case round =>
    clear hs
    obtain ⟨k, hk, rfl, hs⟩ := hrel
    by_cases hlt : k < n1
    · obtain ⟨x, hx⟩ := get_some (zs := scan 0 l) (k := k) (by rw [HS.out, Hn.out, ← Hn1.out]; exact hlt)
      have hc := hs.cell k _ (HC.out k x hx)
      obtain ⟨x0, x1⟩ := HM.out x (List.mem_of_getElem? hx)
      have HP : Hid (plsB true ((scan 0 l).take (k + 1)) = plsB true ((scan 0 l).take k) ++ b4 x) := by rw [take_snocI _ k x hx, plsB_snoc]; exact rfl
      clear hx
      go_wp2_with fail
      with_reducible refine (wu32_any _ b _ x _ hs.wr_ (by rw [plsB_len, List.length_take]; simp [eachB]; omega) (by omega) (by omega)).mono ?_
      rintro e w3 ⟨rfl, hw3, ht3⟩
      have hs3 := hs.turned hw3 ht3
      rw [← HP.out] at hs3
      clear hs hw3 ht3 hc
      go_wp2
      go_roundw
      case rel => exact ⟨k + 1, by omega, by go_num, hs3⟩
      case measure => simp [intOf]; omega
    · have HE : Hid ((scan 0 l).take k = scan 0 l) := List.take_of_length_le (by rw [HS.out, Hn.out, ← Hn1.out]; omega)
      rw [HE.out] at hs
      go_wp2_with fail
      refine (done_any _ b _ _ hs.wr_ (by rw [plsB_len, HS.out, Hn.out]; simp [eachB]; omega)).mono ?_
      rintro e w3 ⟨A3, n3, c3, rfl, hown3, hb3⟩
      go_wp2
      go_ret2
      refine ⟨hs.bel.trans (hb3.mono hs.bel.size), .inr ⟨Hok.out, A3, n3, c3, ?_, ?_⟩⟩
      · rw [HL.out]
        rfl
      · unfold bytesOf
        rw [HL.out]
        exact hown3.mono hs.bel.size

set_option maxRecDepth 100000 in
theorem locaBuild_not (A : Option Addr) (n c : Nat) (l : List Int) (w : World) (hr : Row w A n (cellsOf .i64 l)) (hn : n ≤ 65535) (hok : okS 0 l = false) :
    Calls Try.prog 33 #[.slice A n c] w (RetBd w l) := by
  have Hok := Lib.hid hok
  have Hp := Lib.hid (placesOf_any A n c l w hr (by omega))
  clear hr hok
  go_enter Try.func33, Try.ntmps33
  go_wp2_with fail
  refine Hp.out.mono ?_
  rintro e w1 ⟨hb1, h⟩
  rcases h with ⟨h, rfl⟩ | ⟨h, _⟩
  · clear h
    go_wp2
    go_ret2
    exact ⟨hb1, .inl ⟨Hok.out, rfl⟩⟩
  · exact absurd h (by rw [Hok.out]; decide)

theorem locaBuild_any (A : Option Addr) (n c : Nat) (l : List Int) (w : World) (hr : Row w A n (cellsOf .i64 l)) (hn : n ≤ 65535) : Calls Try.prog 33 #[.slice A n c] w (RetBd w l) := by
  cases hok : okS 0 l with
  | false => exact locaBuild_not A n c l w hr hn hok
  | true =>
    cases hfit : fitB (scan 0 l) with
    | false => exact locaBuild_long A n c l w hr hn hok hfit
    | true => exact locaBuild_short A n c l w hr hn hok hfit

end Go.Proofs.Ytmbncdhpfhlobaa
