/- Pairs that rise by gaps, as the laws of layer 09 lay them: a contract over this seat's translation. -/
import Derived.Test.YthkaeimpflggjaaRise
namespace Go.Proofs.Ythkaeimpflggjaa
open Go.RowKit
set_option linter.unusedVariables false

set_option maxRecDepth 100000 in
set_option maxHeartbeats 4000000 in
theorem rising09_any (A0 : Option Addr) (n0 c0 : Nat) (z0 : List Int) (A1 : Option Addr) (n1 c1 : Nat) (z1 : List Int) (w : World) (hr0 : Row w A0 n0 (cellsOf .u16 z0)) (hW0 : Wf .u16 z0) (hn0 : n0 ≤ 9223372036854775807)
    (hr1 : Row w A1 n1 (cellsOf .u16 z1)) (hW1 : Wf .u16 z1) (hn1 : n1 ≤ 9223372036854775807) :
    Calls Try.prog 24 #[.slice A0 n0 c0, .slice A1 n1 c1] w (RetRise 65534 w) := by
  obtain ⟨i1, hi1, hz01, hz11, hz21⟩ := info_parts Try.pairinfo
  obtain ⟨i2, hi2, hz02, hz12, hz22⟩ := info_parts Try.rpairinfo
  have H0 := Lib.hid hr0.len
  have H1 := Lib.hid hr1.len
  have HW0 := Lib.hid hW0
  have HW1 := Lib.hid hW1
  clear hW0 hW1
  go_enter Try.func24, Try.ntmps24
  go_wp2
  go_loopw [6, 7, 8, 13] (fun v x t i wr => ∃ (k : Nat) (l : List Pr) (B1 B2 : Option Addr) (d1 d2 : Nat) (a : Int), k ≤ n0 ∧ k ≤ 40 ∧ i = .int .i64 k ∧ t = .int .i64 a ∧ v = .slice B1 k d1 ∧ x = .slice B2 k d2 ∧ TwoP w wr B1 d1 B2 d2 k l ∧ -1 ≤ a ∧ a ≤ 65534 ∧ Hid (PrG l ∧ risesF 65534 (-1) l = true ∧ lastC (-1) l = a)) (fun _ _ _ i _ => n0 - (intOf i).toNat)
  case atStart => exact ⟨0, [], none, none, 0, 0, -1, Nat.zero_le _, by omega, rfl, rfl, rfl, rfl, ⟨OwnS.nil _ _ _ _ _, OwnS.nil _ _ _ _ _, Below.refl _ _⟩, by omega, by omega, Lib.hid ⟨fun p hp => by simp at hp, rfl, rfl⟩⟩
  case round =>
    obtain ⟨k, l, B1, B2, d1, d2, a, hk, hk40, rfl, rfl, rfl, rfl, hs, ha0, ha1, hI⟩ := hrel
    by_cases hlt : k < n0
    · obtain ⟨y, hy⟩ := getP (l := z0) (j := k) (by have := H0.out; omega)
      obtain ⟨g, off, rfl, hg, hcy⟩ := (hr0.below hs.bel).at (j := k) (u := .int .u16 y) (cellsOf_get hy)
      obtain ⟨y0, y1⟩ := bounds_u16 (HW0.out y (List.mem_of_getElem? hy))
      clear hy
      by_cases h40 : k < 40
      · by_cases hk1 : k < n1
        · obtain ⟨x, hx⟩ := getP (l := z1) (j := k) (by have := H1.out; omega)
          obtain ⟨g1, off1, rfl, hg1, hcx⟩ := (hr1.below hs.bel).at (j := k) (u := .int .u16 x) (cellsOf_get hx)
          obtain ⟨x0, x1⟩ := bounds_u16 (HW1.out x (List.mem_of_getElem? hx))
          have Hx := Lib.hid hx
          clear hx
          by_cases hbig : a + (1 + y % 2000) ≤ 65534
          · have HN : Hid (PrG (l ++ [⟨a + (1 + y % 2000), x⟩]) ∧ risesF 65534 (-1) (l ++ [⟨a + (1 + y % 2000), x⟩]) = true ∧ lastC (-1) (l ++ [⟨a + (1 + y % 2000), x⟩]) = a + (1 + y % 2000)) := by
              refine ⟨fun p hp => ?_, ?_, lastC_snoc _ _ _⟩
              · rcases List.mem_append.1 hp with h | h
                · exact hI.out.1 p h
                · simp at h; subst h; exact ⟨x0, x1⟩
              · rw [risesF_snoc, hI.out.2.1, hI.out.2.2]
                simp
                omega
            have hy2 : 0 ≤ y % 2000 ∧ y % 2000 < 2000 := by omega
            clear hI
            have hlen := hs.o1.len
            have hsz := hs.bel.size
            have F1 : IntKind.i32.wrap (a + (1 + y % 2000)) = a + (1 + y % 2000) := IntWalk.i32_in _ (by omega)
            go_upto_region 10 with fail
            generalize y % 2000 = yy at *
            have HC : Hid (∀ W : World, Below w.heap.size w W → W.cell? ⟨g1, off1 + k, none⟩ = some (.int .u16 x)) := by
              show ∀ _, _
              intro W hW
              obtain ⟨g', off', e', _, hc'⟩ := (hr1.below hW).at (j := k) (u := .int .u16 x) (cellsOf_get Hx.out)
              simp only [Option.some.injEq, Addr.mk.injEq, and_true] at e'
              obtain ⟨rfl, rfl⟩ := e'
              exact hc'
            have hB := hs.bel
            have F2 : IntKind.i64.wrap x = x := IntWalk.i64_in _ (by omega)
            go_region_held3 (fun w' => w'.cell? ⟨g1, off1 + k, none⟩ = some (.int .u16 x))
              (first | exact hcx | exact HC.out _ hB.drew | exact HC.out _ (hB.alloc hB.size _).drew | exact HC.out _ hB | exact HC.out _ (hB.alloc hB.size _) | exact HC.out _ ((hB.alloc hB.size _).alloc (by have := hB.size; simp; omega) _).drew | exact HC.out _ ((hB.alloc hB.size _).alloc (by have := hB.size; simp; omega) _))
              (first
                | (refine step_append_rowS rfl (.tmp 34) (.tmp 42) _ rfl 67 encP 2 encP_len (by omega) encP_one w.heap.size i1 _ 8 Try.underlying52 hi1 hz01 hz11 rfl hz21 B1 k d1 l rfl (hs.o1.alloc _).drew (some ⟨wr.heap.size, 0, none⟩) 1 1 [⟨a + (1 + yy), x⟩] rfl (rowS_vals encP_len wr 67 [⟨a + (1 + yy), x⟩] _ rfl 1 rfl).drew (by omega) (by omega) (by simp; omega) ?_; intro A3 c3 w3 ho3 hg3; obtain ⟨ho2, hB3⟩ := hs.one hg3; replace hB := hB3; have hs3 := hB3.size; clear hB3 hg3)
                | (refine step_append_rowS rfl (.tmp 34) (.tmp 42) _ rfl 67 encP 2 encP_len (by omega) encP_one w.heap.size i1 _ 8 Try.underlying52 hi1 hz01 hz11 rfl hz21 B1 k d1 l rfl ((hs.o1.alloc _).alloc _).drew (some ⟨wr.heap.size, 0, none⟩) 1 1 [⟨a + (1 + yy), x⟩] rfl ((rowS_vals encP_len wr 67 [⟨a + (1 + yy), x⟩] _ rfl 1 rfl).below ((Below.refl _ _).alloc (Nat.le_refl _) _)).drew (by omega) (by omega) (by simp; omega) ?_; intro A3 c3 w3 ho3 hg3; have hrow2 := hs.row2 (b := wr.heap.size + 1) ((rowS_at encQ_len (wr.alloc _) (wr.heap.size + 1) (by simp) 117 [⟨a + (1 + yy), x⟩] _ rfl 1 rfl).drew) (by omega) hg3; obtain ⟨ho2, hB3⟩ := hs.one2 hg3; replace hB := hB3; have hs3 := hB3.size; clear hB3 hg3)
                | (refine step_append_rowS rfl (.tmp 34) (.tmp 42) _ rfl 67 encP 2 encP_len (by omega) encP_one w.heap.size i1 _ 8 Try.underlying52 hi1 hz01 hz11 rfl hz21 B1 k d1 l rfl ((hs.o1.alloc _).alloc _).drew (some ⟨wr.heap.size + 1, 0, none⟩) 1 1 [⟨a + (1 + yy), x⟩] rfl (rowS_at encP_len (wr.alloc _) (wr.heap.size + 1) (by simp) 67 [⟨a + (1 + yy), x⟩] _ rfl 1 rfl).drew (by omega) (by omega) (by simp; omega) ?_; intro A3 c3 w3 ho3 hg3; have hrow2 := hs.row2 (b := wr.heap.size) (((rowS_vals encQ_len wr 117 [⟨a + (1 + yy), x⟩] _ rfl 1 rfl).below ((Below.refl _ _).alloc (Nat.le_refl _) _)).drew) (by omega) hg3; obtain ⟨ho2, hB3⟩ := hs.one2 hg3; replace hB := hB3; have hs3 := hB3.size; clear hB3 hg3)
                | (refine step_append_rowS rfl (.tmp 44) (.tmp 52) _ rfl 117 encQ 2 encQ_len (by omega) encQ_one w.heap.size i2 _ 16 Try.underlying53 hi2 hz02 hz12 rfl hz22 B2 k d2 l rfl (ho2.alloc _) (some ⟨w3.heap.size, 0, none⟩) 1 1 [⟨a + (1 + yy), x⟩] rfl (rowS_vals encQ_len w3 117 [⟨a + (1 + yy), x⟩] _ rfl 1 rfl) (by omega) (by omega) (by simp; omega) ?_; intro A4 c4 w4 ho4 hg4; have hs4 := TwoP.two ho3 ho2 hB ho4 hg4; replace hB := hs4.bel; clear hg4 ho4)
                | (refine step_append_rowS rfl (.tmp 44) (.tmp 52) _ rfl 117 encQ 2 encQ_len (by omega) encQ_one w.heap.size i2 _ 16 Try.underlying53 hi2 hz02 hz12 rfl hz22 B2 k d2 l rfl ho2 (some ⟨wr.heap.size, 0, none⟩) 1 1 [⟨a + (1 + yy), x⟩] rfl hrow2 (by omega) (by omega) hB.size ?_; intro A4 c4 w4 ho4 hg4; have hs4 := TwoP.two2 ho3 ho2 hB ho4 hg4; replace hB := hs4.bel; clear hg4 ho4)
                | (refine step_append_rowS rfl (.tmp 44) (.tmp 52) _ rfl 117 encQ 2 encQ_len (by omega) encQ_one w.heap.size i2 _ 16 Try.underlying53 hi2 hz02 hz12 rfl hz22 B2 k d2 l rfl ho2 (some ⟨wr.heap.size + 1, 0, none⟩) 1 1 [⟨a + (1 + yy), x⟩] rfl hrow2 (by omega) (by omega) hB.size ?_; intro A4 c4 w4 ho4 hg4; have hs4 := TwoP.two2 ho3 ho2 hB ho4 hg4; replace hB := hs4.bel; clear hg4 ho4))
            all_goals
              go_wp2
              go_roundw
              case rel => exact ⟨k + 1, _, A3, A4, c3, c4, _, by omega, by omega, by go_num, rfl, rfl, rfl, hs4, by omega, by omega, HN⟩
              case measure => simp [intOf]; omega
          · have hlen := hs.o1.len
            go_wp2
            go_ret2
            exact ⟨l, B1, B2, d1, d2, k, rfl, hs, hk40, hI.out.1, hI.out.2.1⟩
        · go_wp2
          go_ret2
          exact ⟨l, B1, B2, d1, d2, k, rfl, hs, hk40, hI.out.1, hI.out.2.1⟩
      · go_wp2
        go_ret2
        exact ⟨l, B1, B2, d1, d2, k, rfl, hs, hk40, hI.out.1, hI.out.2.1⟩
    · go_wp2
      go_ret2
      exact ⟨l, B1, B2, d1, d2, k, rfl, hs, hk40, hI.out.1, hI.out.2.1⟩

end Go.Proofs.Ythkaeimpflggjaa
