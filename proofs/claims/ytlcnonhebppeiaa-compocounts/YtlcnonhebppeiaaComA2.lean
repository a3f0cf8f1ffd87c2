/- compo: which parts may be: the matrix, and the part, as contracts over this seat's translation. -/
import Derived.Test.YtlcnonhebppeiaaComA
namespace Go.Proofs.Ytlcnonhebppeiaa
open Go.RowKit
set_option linter.unusedVariables false
set_option linter.unusedSimpArgs false

set_option maxRecDepth 100000 in
set_option maxHeartbeats 2000000 in
theorem cmat_any (p : Pt) (hp : p.ok) (w : World) : Calls Try.prog 99 #[p.val] w (Ret w (.bool (matB (knd p.f) p))) := by
  have hA := (Below.refl w.heap.size w).alloc (Nat.le_refl _) (.cells p.cells 89)
  have hk := heap_alloc_new w (.cells p.cells 89)
  have hK := w_and200 hp.f.1 hp.f.2
  have hin := knd_in p.f
  unfold Pt.val Pt.cells at *
  unfold matB straight unitB at *
  obtain ⟨f, i, x, y, xx, xy, yx, yy⟩ := p
  simp only at *
  generalize knd f = k at *
  obtain ⟨c0, c1, c2, c3, c4, c5, c6, c7⟩ := cells8 hk
  clear hk hp
  have HU := fun W => unit_any W
  rcases Decidable.em (xy = 0) with rfl | h1
  · rcases Decidable.em (yx = 0) with rfl | h2
    · skip
      by_cases k8 : k = 8
      · subst k8
        rw [if_pos rfl]
        by_cases h3 : xx = yy
        · subst h3
          rw [show decide (xx = xx) = true by simp]
          go_enter Try.func99, Try.ntmps99
          go_wp2
          go_ret
          exact ⟨rfl, hA⟩
        · have e3 : (xx == yy) = false := by simp [h3]
          rw [decide_eq_false h3]
          clear h3
          go_enter Try.func99, Try.ntmps99
          go_wp2
          go_ret
          exact ⟨rfl, hA⟩
      · by_cases k64 : k = 64
        · subst k64
          rw [if_neg (by decide), if_pos rfl]
          go_enter Try.func99, Try.ntmps99
          go_wp2
          go_ret
          exact ⟨rfl, hA⟩
        · by_cases k128 : k = 128
          · subst k128
            rw [if_neg (by decide), if_neg (by decide), if_pos rfl]
            go_enter Try.func99, Try.ntmps99
            go_wp2
            go_ret
            exact ⟨rfl, hA⟩
          · rw [if_neg k8, if_neg k64, if_neg k128]
            have e8 : (k == 8) = false := by simp [k8]
            have e64 : (k == 64) = false := by simp [k64]
            have e128 : (k == 128) = false := by simp [k128]
            clear k8 k64 k128 hin
            by_cases u1 : xx = 16384
            · subst u1
              by_cases u2 : yy = 16384
              · subst u2
                go_enter Try.func99, Try.ntmps99
                go_upto_region 3 with fail
                generalize w.alloc _ = V at *
                have hx0 : Ext V.drew V.drew := Ext.refl _
                have q4 : V.drew.cell? ⟨w.heap.size, 4, none⟩ = _ := c4
                have q5 : V.drew.cell? ⟨w.heap.size, 5, none⟩ = _ := c5
                have q6 : V.drew.cell? ⟨w.heap.size, 6, none⟩ = _ := c6
                have q7 : V.drew.cell? ⟨w.heap.size, 7, none⟩ = _ := c7
                refine regT_start 5 (Ext V.drew) (by kernel_rfl) ?_
                refine regT_take (i := 0) (d := some 17) (v := ?_) [] hx0 rfl rfl (by kernel_rfl) (by kernel_rfl) (by kernel_rfl) (by kernel_rfl) (by kernel_rfl) (by decide) (fun _ _ _ h => h) (Or.inl ⟨by rfl, ?_⟩) ?_
                rotate_left
                · intro w' hx; (go_simp <;> with_reducible rfl)
                simp only [Act.put, List.setIfInBounds_toArray, List.set_cons_zero, List.set_cons_succ]
                refine regT_take (i := 1) (d := some 18) (v := ?_) [] hx0 rfl rfl (by kernel_rfl) (by kernel_rfl) (by kernel_rfl) (by kernel_rfl) (by kernel_rfl) (by decide) (fun _ _ _ h => h) (Or.inl ⟨by rfl, ?_⟩) ?_
                rotate_left
                · intro w' hx; have r4 := hx.cell q4; have r5 := hx.cell q5; have r6 := hx.cell q6; have r7 := hx.cell q7; (go_simp <;> with_reducible rfl)
                simp only [Act.put, List.setIfInBounds_toArray, List.set_cons_zero, List.set_cons_succ]
                refine regT_one 2 _ (by kernel_rfl) rfl ?_
                intro K hK
                go_simp
                refine (unit_any _).mono ?_
                rintro e W4 ⟨rfl, hb⟩
                have hX1 := hx0.call hb
                refine hK.out _ _ (fun _ => hX1) ?_
                clear hK K
                refine regT_one 3 _ (by kernel_rfl) rfl ?_
                intro K hK
                go_simp
                refine hK.out _ _ (fun _ => hX1) ?_
                clear hK K
                refine regT_one 4 _ (by kernel_rfl) rfl ?_
                intro K hK
                go_simp
                refine hK.out _ _ (fun _ => hX1) ?_
                clear hK K
                refine regT_done (by kernel_rfl) ?_ _
                go_wp2
                go_ret
                exact ⟨rfl, Below.trans hA.drew (Below.mono hX1 hA.size)⟩
              · have f2 : (yy == 16384) = false := by simp [u2]
                have f3 : decide (yy = 16384) = false := decide_eq_false u2
                rw [decide_eq_false (show ¬ ([16384, 0, 0, yy] : List Int) = [16384, 0, 0, 16384] from fun h => u2 (by simpa using h))]
                clear u2
                go_enter Try.func99, Try.ntmps99
                go_upto_region 3 with fail
                generalize w.alloc _ = V at *
                have hx0 : Ext V.drew V.drew := Ext.refl _
                have q4 : V.drew.cell? ⟨w.heap.size, 4, none⟩ = _ := c4
                have q5 : V.drew.cell? ⟨w.heap.size, 5, none⟩ = _ := c5
                have q6 : V.drew.cell? ⟨w.heap.size, 6, none⟩ = _ := c6
                have q7 : V.drew.cell? ⟨w.heap.size, 7, none⟩ = _ := c7
                refine regT_start 5 (Ext V.drew) (by kernel_rfl) ?_
                refine regT_take (i := 0) (d := some 17) (v := ?_) [] hx0 rfl rfl (by kernel_rfl) (by kernel_rfl) (by kernel_rfl) (by kernel_rfl) (by kernel_rfl) (by decide) (fun _ _ _ h => h) (Or.inl ⟨by rfl, ?_⟩) ?_
                rotate_left
                · intro w' hx; (go_simp <;> with_reducible rfl)
                simp only [Act.put, List.setIfInBounds_toArray, List.set_cons_zero, List.set_cons_succ]
                refine regT_take (i := 1) (d := some 18) (v := ?_) [] hx0 rfl rfl (by kernel_rfl) (by kernel_rfl) (by kernel_rfl) (by kernel_rfl) (by kernel_rfl) (by decide) (fun _ _ _ h => h) (Or.inl ⟨by rfl, ?_⟩) ?_
                rotate_left
                · intro w' hx; have r4 := hx.cell q4; have r5 := hx.cell q5; have r6 := hx.cell q6; have r7 := hx.cell q7; (go_simp <;> with_reducible rfl)
                simp only [Act.put, List.setIfInBounds_toArray, List.set_cons_zero, List.set_cons_succ]
                refine regT_one 2 _ (by kernel_rfl) rfl ?_
                intro K hK
                go_simp
                refine (unit_any _).mono ?_
                rintro e W4 ⟨rfl, hb⟩
                have hX1 := hx0.call hb
                refine hK.out _ _ (fun _ => hX1) ?_
                clear hK K
                refine regT_one 3 _ (by kernel_rfl) rfl ?_
                intro K hK
                go_simp
                refine hK.out _ _ (fun _ => hX1) ?_
                clear hK K
                refine regT_one 4 _ (by kernel_rfl) rfl ?_
                intro K hK
                go_simp
                refine hK.out _ _ (fun _ => hX1) ?_
                clear hK K
                refine regT_done (by kernel_rfl) ?_ _
                go_wp2
                go_ret
                exact ⟨rfl, Below.trans hA.drew (Below.mono hX1 hA.size)⟩
            · have f1 : (xx == 16384) = false := by simp [u1]
              have f3 : decide (xx = 16384) = false := decide_eq_false u1
              rw [decide_eq_false (show ¬ ([xx, 0, 0, yy] : List Int) = [16384, 0, 0, 16384] from fun h => u1 (List.cons.inj h).1)]
              clear u1
              go_enter Try.func99, Try.ntmps99
              go_upto_region 3 with fail
              generalize w.alloc _ = V at *
              have hx0 : Ext V.drew V.drew := Ext.refl _
              have q4 : V.drew.cell? ⟨w.heap.size, 4, none⟩ = _ := c4
              have q5 : V.drew.cell? ⟨w.heap.size, 5, none⟩ = _ := c5
              have q6 : V.drew.cell? ⟨w.heap.size, 6, none⟩ = _ := c6
              have q7 : V.drew.cell? ⟨w.heap.size, 7, none⟩ = _ := c7
              refine regT_start 5 (Ext V.drew) (by kernel_rfl) ?_
              refine regT_take (i := 0) (d := some 17) (v := ?_) [] hx0 rfl rfl (by kernel_rfl) (by kernel_rfl) (by kernel_rfl) (by kernel_rfl) (by kernel_rfl) (by decide) (fun _ _ _ h => h) (Or.inl ⟨by rfl, ?_⟩) ?_
              rotate_left
              · intro w' hx; (go_simp <;> with_reducible rfl)
              simp only [Act.put, List.setIfInBounds_toArray, List.set_cons_zero, List.set_cons_succ]
              refine regT_take (i := 1) (d := some 18) (v := ?_) [] hx0 rfl rfl (by kernel_rfl) (by kernel_rfl) (by kernel_rfl) (by kernel_rfl) (by kernel_rfl) (by decide) (fun _ _ _ h => h) (Or.inl ⟨by rfl, ?_⟩) ?_
              rotate_left
              · intro w' hx; have r4 := hx.cell q4; have r5 := hx.cell q5; have r6 := hx.cell q6; have r7 := hx.cell q7; (go_simp <;> with_reducible rfl)
              simp only [Act.put, List.setIfInBounds_toArray, List.set_cons_zero, List.set_cons_succ]
              refine regT_one 2 _ (by kernel_rfl) rfl ?_
              intro K hK
              go_simp
              refine (unit_any _).mono ?_
              rintro e W4 ⟨rfl, hb⟩
              have hX1 := hx0.call hb
              refine hK.out _ _ (fun _ => hX1) ?_
              clear hK K
              refine regT_one 3 _ (by kernel_rfl) rfl ?_
              intro K hK
              go_simp
              refine hK.out _ _ (fun _ => hX1) ?_
              clear hK K
              refine regT_one 4 _ (by kernel_rfl) rfl ?_
              intro K hK
              go_simp
              refine hK.out _ _ (fun _ => hX1) ?_
              clear hK K
              refine regT_done (by kernel_rfl) ?_ _
              go_wp2
              go_ret
              exact ⟨rfl, Below.trans hA.drew (Below.mono hX1 hA.size)⟩
    · have e2 : (yx == 0) = false := by simp [h2]
      have d2 : decide (yx = 0) = false := decide_eq_false h2
      have du : ¬ (([xx, 0, yx, yy] : List Int) = [16384, 0, 0, 16384]) := fun h => by
        simp at h
        exact h2 h.2.1
      rw [d2]
      clear h2
      by_cases k8 : k = 8
      · subst k8
        rw [if_pos rfl]
        by_cases h3 : xx = yy
        · subst h3
          rw [show decide (xx = xx) = true by simp]
          go_enter Try.func99, Try.ntmps99
          go_wp2
          go_ret
          exact ⟨rfl, hA⟩
        · have e3 : (xx == yy) = false := by simp [h3]
          rw [decide_eq_false h3]
          clear h3
          go_enter Try.func99, Try.ntmps99
          go_wp2
          go_ret
          exact ⟨rfl, hA⟩
      · by_cases k64 : k = 64
        · subst k64
          rw [if_neg (by decide), if_pos rfl]
          go_enter Try.func99, Try.ntmps99
          go_wp2
          go_ret
          exact ⟨rfl, hA⟩
        · by_cases k128 : k = 128
          · subst k128
            rw [if_neg (by decide), if_neg (by decide), if_pos rfl]
            go_enter Try.func99, Try.ntmps99
            go_wp2
            go_ret
            exact ⟨rfl, hA⟩
          · rw [if_neg k8, if_neg k64, if_neg k128]
            have e8 : (k == 8) = false := by simp [k8]
            have e64 : (k == 64) = false := by simp [k64]
            have e128 : (k == 128) = false := by simp [k128]
            clear k8 k64 k128 hin
            rw [decide_eq_false du]
            by_cases u1 : xx = 16384
            · subst u1
              go_enter Try.func99, Try.ntmps99
              go_upto_region 3 with fail
              generalize w.alloc _ = V at *
              have hx0 : Ext V.drew V.drew := Ext.refl _
              have q4 : V.drew.cell? ⟨w.heap.size, 4, none⟩ = _ := c4
              have q5 : V.drew.cell? ⟨w.heap.size, 5, none⟩ = _ := c5
              have q6 : V.drew.cell? ⟨w.heap.size, 6, none⟩ = _ := c6
              have q7 : V.drew.cell? ⟨w.heap.size, 7, none⟩ = _ := c7
              refine regT_start 5 (Ext V.drew) (by kernel_rfl) ?_
              refine regT_take (i := 0) (d := some 17) (v := ?_) [] hx0 rfl rfl (by kernel_rfl) (by kernel_rfl) (by kernel_rfl) (by kernel_rfl) (by kernel_rfl) (by decide) (fun _ _ _ h => h) (Or.inl ⟨by rfl, ?_⟩) ?_
              rotate_left
              · intro w' hx; (go_simp <;> with_reducible rfl)
              simp only [Act.put, List.setIfInBounds_toArray, List.set_cons_zero, List.set_cons_succ]
              refine regT_take (i := 1) (d := some 18) (v := ?_) [] hx0 rfl rfl (by kernel_rfl) (by kernel_rfl) (by kernel_rfl) (by kernel_rfl) (by kernel_rfl) (by decide) (fun _ _ _ h => h) (Or.inl ⟨by rfl, ?_⟩) ?_
              rotate_left
              · intro w' hx; have r4 := hx.cell q4; have r5 := hx.cell q5; have r6 := hx.cell q6; have r7 := hx.cell q7; (go_simp <;> with_reducible rfl)
              simp only [Act.put, List.setIfInBounds_toArray, List.set_cons_zero, List.set_cons_succ]
              refine regT_one 2 _ (by kernel_rfl) rfl ?_
              intro K hK
              go_simp
              refine (unit_any _).mono ?_
              rintro e W4 ⟨rfl, hb⟩
              have hX1 := hx0.call hb
              refine hK.out _ _ (fun _ => hX1) ?_
              clear hK K
              refine regT_one 3 _ (by kernel_rfl) rfl ?_
              intro K hK
              go_simp
              refine hK.out _ _ (fun _ => hX1) ?_
              clear hK K
              refine regT_one 4 _ (by kernel_rfl) rfl ?_
              intro K hK
              go_simp
              refine hK.out _ _ (fun _ => hX1) ?_
              clear hK K
              refine regT_done (by kernel_rfl) ?_ _
              go_wp2
              go_ret
              exact ⟨rfl, Below.trans hA.drew (Below.mono hX1 hA.size)⟩
            · have f1 : (xx == 16384) = false := by simp [u1]
              have f3 : decide (xx = 16384) = false := decide_eq_false u1
              clear u1
              go_enter Try.func99, Try.ntmps99
              go_upto_region 3 with fail
              generalize w.alloc _ = V at *
              have hx0 : Ext V.drew V.drew := Ext.refl _
              have q4 : V.drew.cell? ⟨w.heap.size, 4, none⟩ = _ := c4
              have q5 : V.drew.cell? ⟨w.heap.size, 5, none⟩ = _ := c5
              have q6 : V.drew.cell? ⟨w.heap.size, 6, none⟩ = _ := c6
              have q7 : V.drew.cell? ⟨w.heap.size, 7, none⟩ = _ := c7
              refine regT_start 5 (Ext V.drew) (by kernel_rfl) ?_
              refine regT_take (i := 0) (d := some 17) (v := ?_) [] hx0 rfl rfl (by kernel_rfl) (by kernel_rfl) (by kernel_rfl) (by kernel_rfl) (by kernel_rfl) (by decide) (fun _ _ _ h => h) (Or.inl ⟨by rfl, ?_⟩) ?_
              rotate_left
              · intro w' hx; (go_simp <;> with_reducible rfl)
              simp only [Act.put, List.setIfInBounds_toArray, List.set_cons_zero, List.set_cons_succ]
              refine regT_take (i := 1) (d := some 18) (v := ?_) [] hx0 rfl rfl (by kernel_rfl) (by kernel_rfl) (by kernel_rfl) (by kernel_rfl) (by kernel_rfl) (by decide) (fun _ _ _ h => h) (Or.inl ⟨by rfl, ?_⟩) ?_
              rotate_left
              · intro w' hx; have r4 := hx.cell q4; have r5 := hx.cell q5; have r6 := hx.cell q6; have r7 := hx.cell q7; (go_simp <;> with_reducible rfl)
              simp only [Act.put, List.setIfInBounds_toArray, List.set_cons_zero, List.set_cons_succ]
              refine regT_one 2 _ (by kernel_rfl) rfl ?_
              intro K hK
              go_simp
              refine (unit_any _).mono ?_
              rintro e W4 ⟨rfl, hb⟩
              have hX1 := hx0.call hb
              refine hK.out _ _ (fun _ => hX1) ?_
              clear hK K
              refine regT_one 3 _ (by kernel_rfl) rfl ?_
              intro K hK
              go_simp
              refine hK.out _ _ (fun _ => hX1) ?_
              clear hK K
              refine regT_one 4 _ (by kernel_rfl) rfl ?_
              intro K hK
              go_simp
              refine hK.out _ _ (fun _ => hX1) ?_
              clear hK K
              refine regT_done (by kernel_rfl) ?_ _
              go_wp2
              go_ret
              exact ⟨rfl, Below.trans hA.drew (Below.mono hX1 hA.size)⟩
  · have e1 : (xy == 0) = false := by simp [h1]
    have d1 : decide (xy = 0) = false := decide_eq_false h1
    have du : ¬ (([xx, xy, yx, yy] : List Int) = [16384, 0, 0, 16384]) := fun h => by
      simp at h
      exact h1 h.2.1
    rw [d1]
    clear h1
    by_cases k8 : k = 8
    · subst k8
      rw [if_pos rfl]
      by_cases h3 : xx = yy
      · subst h3
        rw [show decide (xx = xx) = true by simp]
        go_enter Try.func99, Try.ntmps99
        go_wp2
        go_ret
        exact ⟨rfl, hA⟩
      · have e3 : (xx == yy) = false := by simp [h3]
        rw [decide_eq_false h3]
        clear h3
        go_enter Try.func99, Try.ntmps99
        go_wp2
        go_ret
        exact ⟨rfl, hA⟩
    · by_cases k64 : k = 64
      · subst k64
        rw [if_neg (by decide), if_pos rfl]
        go_enter Try.func99, Try.ntmps99
        go_wp2
        go_ret
        exact ⟨rfl, hA⟩
      · by_cases k128 : k = 128
        · subst k128
          rw [if_neg (by decide), if_neg (by decide), if_pos rfl]
          go_enter Try.func99, Try.ntmps99
          go_wp2
          go_ret
          exact ⟨rfl, hA⟩
        · rw [if_neg k8, if_neg k64, if_neg k128]
          have e8 : (k == 8) = false := by simp [k8]
          have e64 : (k == 64) = false := by simp [k64]
          have e128 : (k == 128) = false := by simp [k128]
          clear k8 k64 k128 hin
          rw [decide_eq_false du]
          by_cases u1 : xx = 16384
          · subst u1
            go_enter Try.func99, Try.ntmps99
            go_upto_region 3 with fail
            generalize w.alloc _ = V at *
            have hx0 : Ext V.drew V.drew := Ext.refl _
            have q4 : V.drew.cell? ⟨w.heap.size, 4, none⟩ = _ := c4
            have q5 : V.drew.cell? ⟨w.heap.size, 5, none⟩ = _ := c5
            have q6 : V.drew.cell? ⟨w.heap.size, 6, none⟩ = _ := c6
            have q7 : V.drew.cell? ⟨w.heap.size, 7, none⟩ = _ := c7
            refine regT_start 5 (Ext V.drew) (by kernel_rfl) ?_
            refine regT_take (i := 0) (d := some 17) (v := ?_) [] hx0 rfl rfl (by kernel_rfl) (by kernel_rfl) (by kernel_rfl) (by kernel_rfl) (by kernel_rfl) (by decide) (fun _ _ _ h => h) (Or.inl ⟨by rfl, ?_⟩) ?_
            rotate_left
            · intro w' hx; (go_simp <;> with_reducible rfl)
            simp only [Act.put, List.setIfInBounds_toArray, List.set_cons_zero, List.set_cons_succ]
            refine regT_take (i := 1) (d := some 18) (v := ?_) [] hx0 rfl rfl (by kernel_rfl) (by kernel_rfl) (by kernel_rfl) (by kernel_rfl) (by kernel_rfl) (by decide) (fun _ _ _ h => h) (Or.inl ⟨by rfl, ?_⟩) ?_
            rotate_left
            · intro w' hx; have r4 := hx.cell q4; have r5 := hx.cell q5; have r6 := hx.cell q6; have r7 := hx.cell q7; (go_simp <;> with_reducible rfl)
            simp only [Act.put, List.setIfInBounds_toArray, List.set_cons_zero, List.set_cons_succ]
            refine regT_one 2 _ (by kernel_rfl) rfl ?_
            intro K hK
            go_simp
            refine (unit_any _).mono ?_
            rintro e W4 ⟨rfl, hb⟩
            have hX1 := hx0.call hb
            refine hK.out _ _ (fun _ => hX1) ?_
            clear hK K
            refine regT_one 3 _ (by kernel_rfl) rfl ?_
            intro K hK
            go_simp
            refine hK.out _ _ (fun _ => hX1) ?_
            clear hK K
            refine regT_one 4 _ (by kernel_rfl) rfl ?_
            intro K hK
            go_simp
            refine hK.out _ _ (fun _ => hX1) ?_
            clear hK K
            refine regT_done (by kernel_rfl) ?_ _
            go_wp2
            go_ret
            exact ⟨rfl, Below.trans hA.drew (Below.mono hX1 hA.size)⟩
          · have f1 : (xx == 16384) = false := by simp [u1]
            have f3 : decide (xx = 16384) = false := decide_eq_false u1
            clear u1
            go_enter Try.func99, Try.ntmps99
            go_upto_region 3 with fail
            generalize w.alloc _ = V at *
            have hx0 : Ext V.drew V.drew := Ext.refl _
            have q4 : V.drew.cell? ⟨w.heap.size, 4, none⟩ = _ := c4
            have q5 : V.drew.cell? ⟨w.heap.size, 5, none⟩ = _ := c5
            have q6 : V.drew.cell? ⟨w.heap.size, 6, none⟩ = _ := c6
            have q7 : V.drew.cell? ⟨w.heap.size, 7, none⟩ = _ := c7
            refine regT_start 5 (Ext V.drew) (by kernel_rfl) ?_
            refine regT_take (i := 0) (d := some 17) (v := ?_) [] hx0 rfl rfl (by kernel_rfl) (by kernel_rfl) (by kernel_rfl) (by kernel_rfl) (by kernel_rfl) (by decide) (fun _ _ _ h => h) (Or.inl ⟨by rfl, ?_⟩) ?_
            rotate_left
            · intro w' hx; (go_simp <;> with_reducible rfl)
            simp only [Act.put, List.setIfInBounds_toArray, List.set_cons_zero, List.set_cons_succ]
            refine regT_take (i := 1) (d := some 18) (v := ?_) [] hx0 rfl rfl (by kernel_rfl) (by kernel_rfl) (by kernel_rfl) (by kernel_rfl) (by kernel_rfl) (by decide) (fun _ _ _ h => h) (Or.inl ⟨by rfl, ?_⟩) ?_
            rotate_left
            · intro w' hx; have r4 := hx.cell q4; have r5 := hx.cell q5; have r6 := hx.cell q6; have r7 := hx.cell q7; (go_simp <;> with_reducible rfl)
            simp only [Act.put, List.setIfInBounds_toArray, List.set_cons_zero, List.set_cons_succ]
            refine regT_one 2 _ (by kernel_rfl) rfl ?_
            intro K hK
            go_simp
            refine (unit_any _).mono ?_
            rintro e W4 ⟨rfl, hb⟩
            have hX1 := hx0.call hb
            refine hK.out _ _ (fun _ => hX1) ?_
            clear hK K
            refine regT_one 3 _ (by kernel_rfl) rfl ?_
            intro K hK
            go_simp
            refine hK.out _ _ (fun _ => hX1) ?_
            clear hK K
            refine regT_one 4 _ (by kernel_rfl) rfl ?_
            intro K hK
            go_simp
            refine hK.out _ _ (fun _ => hX1) ?_
            clear hK K
            refine regT_done (by kernel_rfl) ?_ _
            go_wp2
            go_ret
            exact ⟨rfl, Below.trans hA.drew (Below.mono hX1 hA.size)⟩
end Go.Proofs.Ytlcnonhebppeiaa
