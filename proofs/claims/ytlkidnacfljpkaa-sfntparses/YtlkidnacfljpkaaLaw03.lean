/- Layer 3's example, and the law SfntSearches. -/
import Derived.Test.YtlkidnacfljpkaaBuild
namespace Go.Proofs.Ytlkidnacfljpkaa
open Go.RowKit
set_option linter.unusedVariables false

def abcd : ByteArray := ⟨#[97, 98, 99, 100]⟩
def abcdT : Tab := ⟨abcd, none, 0, 0, []⟩

theorem abcd_list : abcd.toList = [97, 98, 99, 100] := by rw [ByteArray.toList_eq]; rfl
theorem abcd_build : buildB [abcdT] = true := by
  unfold buildB tagsB tagLs abcdT
  simp only [List.map_cons, List.map_nil, abcd_list]
  rfl
theorem abcd_len : (buildL [abcdT.pure]).length = 28 := by
  have h : abcdT.pure = (([97, 98, 99, 100] : List UInt8), ([] : List Int)) := by unfold Tab.pure abcdT; simp only [abcd_list]
  rw [h, buildL, show adjIx [(([97, 98, 99, 100] : List UInt8), ([] : List Int))] = none from rfl]
  show (writeL _).length = 28
  rw [writeL_len _ (by intro t ht; simp at ht; subst ht; rfl)]
  rfl
theorem abcd_ok (w : World) : abcdT.ok w := ⟨Row.empty _ _, (fun x hx => by cases hx), Nat.zero_le _⟩
theorem seven : sr1 7 = 64 ∧ sr2 7 = 2 ∧ sr3 7 = 48 := by decide

set_option maxHeartbeats 400000 in
theorem awake3_any (w : World) : Calls Try.prog 6 #[] w (True_ w) := by
  have h7 := fun W => search_any 7 W (by omega) (by omega)
  simp only [seven.1, seven.2.1, seven.2.2] at h7
  have H7 := Lib.hid h7
  have hA : Below w.heap.size w (w.alloc (.cells (encT abcdT).toArray 30)) := (Below.refl _ _).alloc (Nat.le_refl _) _
  have HA := Lib.hid hA
  have hb := fun c => build_any (some ⟨w.heap.size, 0, none⟩) 1 c [abcdT] (w.alloc (.cells (encT abcdT).toArray 30)) (rowS_vals encT_len w 30 [abcdT] _ rfl 1 rfl) (fun t ht => by simp at ht; subst ht; exact abcd_ok _) (by omega) (by omega)
  have HB := Lib.hid hb
  clear hb h7 hA
  go_enter Try.func6, Try.ntmps6
  go_wp2_with fail
  refine (H7.out _).mono ?_
  rintro e w' ⟨rfl, rfl⟩
  go_wp2_with fail
  refine (HB.out _).mono ?_
  rintro e w1 ⟨l', hp, _, A, n, c, rfl, hown, hb1⟩
  have hl' : l' = [abcdT] := List.perm_singleton.1 hp
  subst hl'
  rw [abcd_build, if_pos rfl] at hown
  have hn : n = 28 := by have := hown.len; rw [List.map_cons, List.map_nil, abcd_len] at this; exact this.symm
  subst hn
  have hbb := HA.out.trans (hb1.mono HA.out.size)
  clear hown hb1
  go_wp2
  go_ret
  exact ⟨rfl, hbb⟩

end Go.Proofs.Ytlkidnacfljpkaa
