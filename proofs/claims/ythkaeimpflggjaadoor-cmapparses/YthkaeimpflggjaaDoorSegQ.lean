/- seg: the segments of a table: contracts over this seat's translation. -/
import Derived.Test.YthkaeimpflggjaaDoorSegC
namespace Go.Proofs.YthkaeimpflggjaaDoor
open Go.RowKit
set_option linter.unusedVariables false

/-- A segment in memory. -/
structure Sg where
  a : Int
  b : Int
  d : Int
  A : Option Addr
  n : Nat
deriving Inhabited
def encS (x : Sg) : List Value := [.int .u16 x.a, .int .u16 x.b, .int .u16 x.d, .slice x.A x.n x.n]
theorem encS_len (x : Sg) : (encS x).length = 4 := rfl
theorem encS_one (x : Sg) : ∀ u ∈ encS x, u.oneCell' = true := by intro u hu; simp [encS] at hu; rcases hu with rfl | rfl | rfl | rfl <;> rfl
theorem Tryd.sginfo : (Tryd.prog.info? 90).map (fun i => (i.zero, i.size, i.bytes)) = some (some (.agg #[.int .u16 0, .int .u16 0, .int .u16 0, .slice none 0 0]), 4, 32) := by kernel_rfl

/-- Where a segment's glyphs stand. -/
def sgA (zs : List Int) (n g i : Nat) : Option Addr := if (sqAt zs n i).o = 0 then none else some ⟨g, 8 + 3 * n + i + ((sqAt zs n i).o / 2).toNat, none⟩
def sgn_ (zs : List Int) (n i : Nat) : Nat := if (sqAt zs n i).o = 0 then 0 else ((sqAt zs n i).b - (sqAt zs n i).a + 1).toNat
def sgAt (zs : List Int) (n g i : Nat) : Sg := ⟨(sqAt zs n i).a, (sqAt zs n i).b, (sqAt zs n i).d, sgA zs n g i, sgn_ zs n i⟩

/-- What looking for the glyphs leaves. -/
def RetGl (w : World) (zs : List Int) (n g i : Nat) (e : Ending) (w' : World) : Prop :=
  Below w.heap.size w w' ∧ ((sOff zs n i (sqAt zs n i) = false ∧ e = .returned (.tuple #[.slice none 0 0, .bool false])) ∨
    (sOff zs n i (sqAt zs n i) = true ∧ e = .returned (.tuple #[.slice (sgA zs n g i) (sgn_ zs n i) (sgn_ zs n i), .bool true])))

theorem num_cell {w : World} {g M : Nat} {zs : List Int} (hr : Row w (some ⟨g, 0, none⟩) M (cellsOf .u16 (nums zs M))) {i : Nat} (hi : i < M) : w.cell? ⟨g, i, none⟩ = some (.int .u16 (n2at zs (2 * i))) := by
  obtain ⟨g', off', e', _, hc⟩ := hr.at (cellsOf_get (nums_get zs hi))
  simp only [Option.some.injEq, Addr.mk.injEq, and_true] at e'
  obtain ⟨rfl, rfl⟩ := e'
  rw [Nat.zero_add] at hc
  exact hc

set_option maxRecDepth 100000 in
set_option maxHeartbeats 4000000 in
theorem sglyphs_any (g M : Nat) (zs : List Int) (n i : Nat) (w : World) (hr : Row w (some ⟨g, 0, none⟩) M (cellsOf .u16 (nums zs M))) (hB : Bytes zs) (hM2 : n2at zs 2 = 2 * (M : Int)) (hM3 : M ≤ 32767) (hn : 8 + 4 * n ≤ M) (hi : i < n) (hab : (sqAt zs n i).a ≤ (sqAt zs n i).b) :
    Calls Tryd.prog 76 #[.agg #[.int .u16 (sqAt zs n i).a, .int .u16 (sqAt zs n i).b, .int .u16 (sqAt zs n i).d, .slice none 0 0], .slice (some ⟨g, 0, none⟩) M M, .int .i64 (8 + 3 * (n : Int) + i)] w (RetGl w zs n g i) := by
  have hc := num_cell hr (i := 8 + 3 * n + i) (by omega)
  rw [show 2 * (8 + 3 * n + i) = 16 + 6 * n + 2 * i by omega] at hc
  have ho : (sqAt zs n i).o = n2at zs (16 + 6 * n + 2 * i) := rfl
  have HOff : Hid (sOff zs n i (sqAt zs n i) = (decide ((sqAt zs n i).o = 0) || (decide ((sqAt zs n i).o % 2 = 0) && decide (16 + 6 * (n : Int) + 2 * i + (sqAt zs n i).o + 2 * ((sqAt zs n i).b - (sqAt zs n i).a) + 2 ≤ 2 * (M : Int))))) := by show _ = _; unfold sOff; rw [hM2]
  have HA : Hid (sgA zs n g i = if (sqAt zs n i).o = 0 then none else some ⟨g, 8 + 3 * n + i + ((sqAt zs n i).o / 2).toNat, none⟩) := rfl
  have HN : Hid (sgn_ zs n i = if (sqAt zs n i).o = 0 then 0 else ((sqAt zs n i).b - (sqAt zs n i).a + 1).toNat) := rfl
  have HNo : Hid (∀ w', sOff zs n i (sqAt zs n i) = false → Below w.heap.size w w' → RetGl w zs n g i (.returned (.tuple #[.slice none 0 0, .bool false])) w') := fun w' h1 h2 => ⟨h2, .inl ⟨h1, rfl⟩⟩
  have HYes : Hid (∀ w', sOff zs n i (sqAt zs n i) = true → Below w.heap.size w w' → RetGl w zs n g i (.returned (.tuple #[.slice (sgA zs n g i) (sgn_ zs n i) (sgn_ zs n i), .bool true])) w') := fun w' h1 h2 => ⟨h2, .inr ⟨h1, rfl⟩⟩
  rw [← ho] at hc
  have k0 : 0 ≤ (sqAt zs n i).o ∧ (sqAt zs n i).o < 65536 := n2at_lt hB _
  have k1 : 0 ≤ (sqAt zs n i).a ∧ (sqAt zs n i).a < 65536 := n2at_lt hB _
  have k2 : 0 ≤ (sqAt zs n i).b ∧ (sqAt zs n i).b < 65536 := n2at_lt hB _
  clear hr hB hM2 ho
  generalize sqAt zs n i = x at *
  generalize sOff zs n i x = F at *
  generalize sgA zs n g i = SA at *
  generalize sgn_ zs n i = SN at *
  obtain ⟨xa, xb, xd, xo⟩ := x
  simp only at *
  have hA := (Below.refl w.heap.size w).alloc (Nat.le_refl _) (.cells #[.int .u16 xa, .int .u16 xb, .int .u16 xd, .slice none 0 0] 90)
  obtain ⟨p, hp⟩ : ∃ p : Nat, 8 + 3 * n + i = p := ⟨_, rfl⟩
  have hpI : 8 + 3 * (n : Int) + (i : Int) = (p : Int) := by omega
  have hpM : p < M := by omega
  have hgl : g < w.heap.size := World.block_lt_of_cell? _ _ hc
  have hgn : g ≠ w.heap.size := by omega
  have hgn' : w.heap.size ≠ g := by omega
  rw [hp] at hc HA
  rw [hpI]
  by_cases h0 : xo = 0
  · have HT : Hid (F = true ∧ SA = none ∧ SN = 0) := by
      refine ⟨?_, ?_, ?_⟩
      · rw [HOff.out, h0]; rfl
      · rw [HA.out, if_pos h0]
      · rw [HN.out, if_pos h0]
    have b0 : (xo == 0) = true := by simp [h0]
    clear h0 HOff HA HN
    go_enter Tryd.func76, Tryd.ntmps76
    go_wp2
    go_ret2
    have := HYes.out _ HT.out.1 hA
    rw [HT.out.2.1, HT.out.2.2] at this
    exact this
  · have b0 : (xo == 0) = false := by simp [h0]
    have hxo : 0 < xo := by omega
    by_cases h2 : xo % 2 = 0
    · have b2 : (xo % 2 != 0) = false := by simp [h2]
      obtain ⟨q, hq⟩ : ∃ q : Nat, xo / 2 = (q : Int) := ⟨(xo / 2).toNat, by omega⟩
      obtain ⟨r, hr⟩ : ∃ r : Nat, xb - xa + 1 = (r : Int) := ⟨(xb - xa + 1).toNat, by omega⟩
      have hto : (p : Int) + (q : Int) + xb - xa + 1 = (p : Int) + (q : Int) + (r : Int) := by omega
      by_cases h3 : p + q + r ≤ M
      · have HT : Hid (F = true ∧ SA = some ⟨g, p + q, none⟩ ∧ SN = r) := by
          refine ⟨?_, ?_, ?_⟩
          · rw [HOff.out, decide_eq_false h0, decide_eq_true h2, decide_eq_true (by omega)]; rfl
          · rw [HA.out, if_neg h0, hq]; rfl
          · rw [HN.out, if_neg h0, hr]; rfl
        have hr1 : 1 ≤ r := by omega
        clear h0 h2 HOff HA HN HNo
        go_enter Tryd.func76, Tryd.ntmps76
        go_wp2
        go_ret2
        have e1 : p + q + r - (p + q) = r := by omega
        rw [e1]
        have := HYes.out _ HT.out.1 hA
        rw [HT.out.2.1, HT.out.2.2] at this
        exact this
      · have HT : Hid (F = false) := by show _ = _; rw [HOff.out, decide_eq_false h0, decide_eq_true h2, decide_eq_false (by omega)]; rfl
        clear h0 h2 HOff HA HN
        go_enter Tryd.func76, Tryd.ntmps76
        go_wp2
        go_ret2
        exact HNo.out _ HT.out hA
    · have b2 : (xo % 2 != 0) = true := by simp [h2]
      have HT : Hid (F = false) := by show _ = _; rw [HOff.out, decide_eq_false h0, decide_eq_false h2]; rfl
      clear h0 h2 HOff HA HN
      go_enter Tryd.func76, Tryd.ntmps76
      go_wp2
      go_ret2
      exact HNo.out _ HT.out hA

end Go.Proofs.YthkaeimpflggjaaDoor
