/- Layer 3's example, and the law SfntSearches. -/
import Derived.Test.YtpkejjbjhibbkaaBuild
namespace Go.Proofs.Ytpkejjbjhibbkaa
open Go.RowKit
set_option linter.unusedVariables false

def abcd : ByteArray := ⟨#[97, 98, 99, 100]⟩
def abcdT : Tab := ⟨abcd, none, 0, 0, []⟩

theorem abcd_list : abcd.toList = [97, 98, 99, 100] := by rw [ByteArray.toList_eq]; rfl
theorem abcd_build : buildB [abcdT] = true := by
  unfold buildB tagsB tagLs abcdT
  simp only [List.map_cons, List.map_nil, abcd_list]
  rfl
theorem abcd_len : (buildL [abcdT.pure]).length = 28 := by
  have h : abcdT.pure = (([97, 98, 99, 100] : List UInt8), ([] : List Int)) := by unfold Tab.pure abcdT; simp only [abcd_list]
  rw [h, buildL, show adjIx [(([97, 98, 99, 100] : List UInt8), ([] : List Int))] = none from rfl]
  show (writeL _).length = 28
  rw [writeL_len _ (by intro t ht; simp at ht; subst ht; rfl)]
  rfl
theorem abcd_ok (w : World) : abcdT.ok w := ⟨Row.empty _ _, (fun x hx => by cases hx), Nat.zero_le _⟩
theorem seven : sr1 7 = 64 ∧ sr2 7 = 2 ∧ sr3 7 = 48 := by decide

set_option maxHeartbeats 400000 in
theorem awake3_any (w : World) : Calls Try.prog 13 #[] w (True_ w) := by
  have h7 := fun W => search_any 7 W (by omega) (by omega)
  simp only [seven.1, seven.2.1, seven.2.2] at h7
  have H7 := Lib.hid h7
  have hA : Below w.heap.size w (w.alloc (.cells (encT abcdT).toArray 30)) := (Below.refl _ _).alloc (Nat.le_refl _) _
  have HA := Lib.hid hA
  have hb := fun c => build_any (some ⟨w.heap.size, 0, none⟩) 1 c [abcdT] (w.alloc (.cells (encT abcdT).toArray 30)) (rowS_vals encT_len w 30 [abcdT] _ rfl 1 rfl) (fun t ht => by simp at ht; subst ht; exact abcd_ok _) (by omega) (by omega)
  have HB := Lib.hid hb
  clear hb h7 hA
  go_enter Try.func13, Try.ntmps13
  go_wp2_with fail
  refine (H7.out _).mono ?_
  rintro e w' ⟨rfl, rfl⟩
  go_wp2_with fail
  refine (HB.out _).mono ?_
  rintro e w1 ⟨l', hp, _, A, n, c, rfl, hown, hb1⟩
  have hl' : l' = [abcdT] := List.perm_singleton.1 hp
  subst hl'
  rw [abcd_build, if_pos rfl] at hown
  have hn : n = 28 := by have := hown.len; rw [List.map_cons, List.map_nil, abcd_len] at this; exact this.symm
  subst hn
  have hbb := HA.out.trans (hb1.mono HA.out.size)
  clear hown hb1
  go_wp2
  go_ret
  exact ⟨rfl, hbb⟩

set_option maxRecDepth 100000 in
set_option maxHeartbeats 1000000 in
theorem law_SfntSearches (n : Int) (w : World) : Calls Try.prog 7 #[.int .i64 n] w (True_ w) := by
  by_cases h1 : n < 1
  · have hc : cntB n = false := by unfold cntB; simp; omega
    go_enter Try.func7, Try.ntmps7
    go_wp2_with fail
    refine (awake3_any _).mono ?_
    rintro e w1 ⟨rfl, hb⟩
    go_wp2_with fail
    refine (search_no _ _ hc).mono ?_
    rintro e w' ⟨rfl, rfl⟩
    go_wp2
    go_ret
    exact ⟨rfl, hb⟩
  · by_cases h2 : 64 < n
    · have hc : cntB n = false := by unfold cntB; simp; omega
      go_enter Try.func7, Try.ntmps7
      go_wp2_with fail
      refine (awake3_any _).mono ?_
      rintro e w1 ⟨rfl, hb⟩
      go_wp2_with fail
      refine (search_no _ _ hc).mono ?_
      rintro e w' ⟨rfl, rfl⟩
      go_wp2
      go_ret
      exact ⟨rfl, hb⟩
    · obtain ⟨m, rfl⟩ := Int.eq_ofNat_of_zero_le (show 0 ≤ n by omega)
      have m0 : 1 ≤ m := by omega
      have m1 : m ≤ 64 := by omega
      obtain ⟨_, e7, e8, e9⟩ := expo_spec m (by omega) m0
      obtain ⟨s1, s2, s3, s4, s5, s6, s7⟩ := sr_le m m0 m1
      have H3 : Hid (sr1 m + sr3 m = 16 * m) := by show _ = _; unfold sr3; omega
      have hs1 : sr1 m = 16 * 2 ^ expo m := rfl
      have hs2 : sr2 m = expo m := rfl
      have hse := fun W => search_any m W m0 m1
      have hre := fun W => rsearch_any m W m0 m1
      generalize sr1 m = x at *
      generalize sr2 m = y at *
      generalize sr3 m = z at *
      generalize expo m = q at *
      have HSE := Lib.hid hse
      have HRE := Lib.hid hre
      clear hse hre e8 e9
      have ex : (x == x) = true := by simp
      have ey : (y == y) = true := by simp
      have ez : (z == z) = true := by simp
      have e1 : (x + z == 16 * (m : Int)) = true := by rw [H3.out]; simp
      have e2 : (decide (z < x)) = true := by simp; exact s6
      rcases q with _ | _ | _ | _ | _ | _ | _ | q
      case succ.succ.succ.succ.succ.succ.succ => omega
      all_goals
        simp only [Nat.reduceAdd, Int.reducePow, Int.reduceMul, Int.mul_one, Int.pow_zero, Int.pow_one, Int.natCast_zero, Int.natCast_one] at hs1 hs2
        subst hs1 hs2
        go_enter Try.func7, Try.ntmps7
        go_wp2_with fail
        refine (awake3_any _).mono ?_
        rintro e w1 ⟨rfl, hb⟩
        go_wp2_with fail
        refine (HSE.out _).mono ?_
        rintro e w' ⟨rfl, rfl⟩
        go_wp2_with fail
        refine (HRE.out _).mono ?_
        rintro e w' ⟨rfl, rfl⟩
        go_wp2
        go_ret
        exact ⟨rfl, hb⟩

end Go.Proofs.Ytpkejjbjhibbkaa
