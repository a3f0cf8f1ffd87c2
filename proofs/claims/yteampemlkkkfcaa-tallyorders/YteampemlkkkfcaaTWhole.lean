/- The law TallyWhole. -/
import Derived.Test.YteampemlkkkfcaaZero
import Derived.Deep.RegionWith
import Derived.Deep.DeepCutAuto
namespace Go.Proofs.Yteampemlkkkfcaa
open Go.RowKit
set_option linter.unusedVariables false

/-- Join of two slices that were just laid side by side. -/
theorem join2_any (V : World) (b : Nat) (A1 A2 : Option Addr) (n1 c1 n2 c2 : Nat) (ys1 ys2 : List Int) (hb : b = V.heap.size) (h1 : Row V A1 n1 (cellsOf .u8 ys1)) (h2 : Row V A2 n2 (cellsOf .u8 ys2)) (hl : n1 + n2 ≤ 140737488351232) :
    Calls Try.prog 36 #[.slice (some ⟨b, 0, none⟩) 2 2] (V.alloc (.cells #[.slice A1 n1 c1, .slice A2 n2 c2] 22)) (RetB V (ys1 ++ ys2)) := by
  subst hb
  have ha : Below V.heap.size V (V.alloc (.cells #[.slice A1 n1 c1, .slice A2 n2 c2] 22)) := (Below.refl _ _).alloc (Nat.le_refl _) _
  have hj : joined [⟨A1, n1, c1, ys1⟩, ⟨A2, n2, c2, ys2⟩] = ys1 ++ ys2 := by simp [joined]
  refine (join_any _ 2 2 [⟨A1, n1, c1, ys1⟩, ⟨A2, n2, c2, ys2⟩] _ (row_vals V 22 _ 2 rfl) ?_ (by omega) (by rw [hj, List.length_append, h1.len, h2.len]; exact hl)).mono ?_
  · intro p hp
    simp at hp
    rcases hp with rfl | rfl
    · exact h1.below ha
    · exact h2.below ha
  · rintro e w' ⟨A, n, c, rfl, ho, hb⟩
    rw [hj] at ho
    exact ⟨A, n, c, rfl, ho.mono (by simp), ha.trans (hb.mono (by simp))⟩

/-- Join of three slices that were just laid side by side. -/
theorem join3_any (V : World) (b : Nat) (A1 A2 A3 : Option Addr) (n1 c1 n2 c2 n3 c3 : Nat) (ys1 ys2 ys3 : List Int) (hb : b = V.heap.size) (h1 : Row V A1 n1 (cellsOf .u8 ys1)) (h2 : Row V A2 n2 (cellsOf .u8 ys2)) (h3 : Row V A3 n3 (cellsOf .u8 ys3)) (hl : n1 + n2 + n3 ≤ 140737488351232) :
    Calls Try.prog 36 #[.slice (some ⟨b, 0, none⟩) 3 3] (V.alloc (.cells #[.slice A1 n1 c1, .slice A2 n2 c2, .slice A3 n3 c3] 22)) (RetB V (ys1 ++ (ys2 ++ ys3))) := by
  subst hb
  have ha : Below V.heap.size V (V.alloc (.cells #[.slice A1 n1 c1, .slice A2 n2 c2, .slice A3 n3 c3] 22)) := (Below.refl _ _).alloc (Nat.le_refl _) _
  have hj : joined [⟨A1, n1, c1, ys1⟩, ⟨A2, n2, c2, ys2⟩, ⟨A3, n3, c3, ys3⟩] = ys1 ++ (ys2 ++ ys3) := by simp [joined]
  refine (join_any _ 3 3 [⟨A1, n1, c1, ys1⟩, ⟨A2, n2, c2, ys2⟩, ⟨A3, n3, c3, ys3⟩] _ (row_vals V 22 _ 3 rfl) ?_ (by omega) (by rw [hj, List.length_append, List.length_append, h1.len, h2.len, h3.len]; omega)).mono ?_
  · intro p hp
    simp at hp
    rcases hp with rfl | rfl | rfl
    · exact h1.below ha
    · exact h2.below ha
    · exact h3.below ha
  · rintro e w' ⟨A, n, c, rfl, ho, hb⟩
    rw [hj] at ho
    exact ⟨A, n, c, rfl, ho.mono (by simp), ha.trans (hb.mono (by simp))⟩

theorem whole_sum (ps : List Int) (f : Nat) (hf : f + 4 ≤ ps.length) (h4 : f % 4 = 0) :
    rs ((zeroedL ps f 4).take f ++ (b4 ((2981146554 - rs (zeroedL ps f 4)) % 4294967296) ++ (zeroedL ps f 4).drop (f + 4))) % 4294967296 = 2981146554 := by
  have e1 : (zeroedL ps f 4).take f = ps.take f := by
    unfold zeroedL
    rw [List.take_append_of_le_length (by rw [List.length_take]; omega), List.take_take, Nat.min_self]
  have e2 : (zeroedL ps f 4).drop (f + 4) = ps.drop (f + 4) := by
    unfold zeroedL
    rw [List.drop_append, List.drop_of_length_le (by rw [List.length_take]; omega), List.length_take, Nat.min_eq_left (by omega), show f + 4 - f = 4 by omega]
    simp
  have e3 : rs (zeroedL ps f 4) = rs (ps.take f) + rs (ps.drop (f + 4)) := by
    unfold zeroedL
    rw [rs_append _ _ (by rw [List.length_take]; omega), rs_append _ _ (by simp)]
    simp [List.replicate, rs]
  rw [e1, e2, rs_append _ _ (by rw [List.length_take]; omega), rs_append _ _ (by rw [b4_len]), rs_b4 _ (by omega) (by omega), e3]
  omega

/-- What the first statement of the law leaves. -/
def Cut4 (w : World) (ps : List Int) (s0 : Value) (wx : World) : Prop := ∃ A n c, s0 = .slice A n c ∧ OwnB wx w.heap.size A n c ps ∧ Below w.heap.size w wx

set_option maxRecDepth 100000 in
set_option maxHeartbeats 4000000 in
theorem law_TallyWhole (A : Option Addr) (n c : Nat) (zs : List Int) (a : Int) (w : World) (hr : Row w A n (cellsOf .u8 zs)) (hB : Bytes zs) (hn : n ≤ 9223372036854775807) (a0 : 0 ≤ a) (a1 : a ≤ 255) :
    Calls Try.prog 11 #[.slice A n c, .int .u8 a] w (True_ w) := by
  have hmk : ∀ W : World, (Instr.makeSlice 22 (.int .i64 4) (.int .i64 4)).run Try.prog W = .ok (.slice (some ⟨W.heap.size, 0, none⟩) 4 4) (W.alloc (.cells #[.int .u8 0, .int .u8 0, .int .u8 0, .int .u8 0] 5)) := fun W => make_bytes 4 4 rfl (by omega) W
  have Hlc : Hid ((zs.take (200 : Int).toNat).length ≤ 200) := by show _ ≤ _; rw [List.length_take]; simp; omega
  go_enter Try.func11, Try.ntmps11
  go_wp2_with fail
  refine (awake2_any w).mono ?_
  rintro e w0 ⟨rfl, hb0⟩
  have hr0 := hr.below hb0
  have hs0 := hb0.size
  clear hr
  go_upto_region 3 with fail
  go_cut [0] (fun s0 wx => Cut4 w (zs.take (200 : Int).toNat ++ [0, 0, 0, 0]) s0 wx)
  case first =>
    go_region_with (first
      | (go_at_call 15; refine (cut_any _ _ _ zs 200 _ ?_ hn (by omega)).mono ?_; (first | exact hr0.drew | exact (hr0.below ((Below.refl _ _).alloc (Nat.le_refl _) _)).drew); rintro e w1 ⟨A1, n1, k1, rfl, hown1, hb1⟩)
      | (go_at_call 36; refine (join2_any _ _ A1 _ n1 k1 4 4 (zs.take (200 : Int).toNat) [0, 0, 0, 0] ?_ ?_ ?_ ?_).mono ?_; (first | rfl | simp); (first | exact hown1.row | exact hown1.row.below ((Below.refl _ _).alloc (Nat.le_refl _) _)); (first | exact row_lit w1 .u8 5 [0, 0, 0, 0] 4 rfl | exact (row_lit w0 .u8 5 [0, 0, 0, 0] 4 rfl).drew.below hb1); (have := hown1.len; have := Hlc.out; omega); rintro e w2 ⟨A2, n2, k2, rfl, hown2, hb2⟩))
    all_goals go_wp2_with fail
    all_goals go_meet
    · have h1 := hb1.size
      have h2 : Below w.heap.size w w1 := hb0.drew.trans (hb1.mono hs0)
      have h3 := h2.size
      exact ⟨A2, n2, k2, rfl, hown2.mono (by simp; omega), (h2.alloc h3 _).trans (hb2.mono (by simp; omega))⟩
    · have h2 : Below w.heap.size w w1 := (hb0.alloc hs0 _).drew.trans (hb1.mono (by simp; omega))
      have h3 := h2.size
      exact ⟨A2, n2, k2, rfl, hown2.mono h3, h2.trans (hb2.mono h3)⟩
  case rest =>
    obtain ⟨A1, n1, k1, rfl, hown1, hb1⟩ := hcut
    have hB1 : Bytes (zs.take (200 : Int).toNat ++ [0, 0, 0, 0]) := bytes_append (cut_bytes hB _) (by intro x hx; simp at hx; omega)
    have hl1 : 4 ≤ n1 ∧ n1 ≤ 204 := by
      have h1 := hown1.len
      have h2 := Hlc.out
      rw [List.length_append] at h1
      simp only [List.length_cons, List.length_nil] at h1
      omega
    obtain ⟨l0, l1⟩ := hl1
    generalize zs.take (200 : Int).toNat ++ [0, 0, 0, 0] = ps at *
    have hrow1 := hown1.row
    have Hl := Lib.hid hown1.len
    have HB := Lib.hid hB1
    clear hown1 hB1 hmk hr0 hs0 hb0 Hlc hB hn
    obtain ⟨f, hf⟩ : ∃ f : Nat, 4 * (a % ((n1 : Int) / 4)) = (f : Int) := Int.eq_ofNat_of_zero_le (by have := Int.emod_nonneg a (show (n1 : Int) / 4 ≠ 0 by omega); omega)
    have hfb : f + 4 ≤ n1 ∧ f % 4 = 0 := by
      have h1 := Int.emod_lt_of_pos a (show (0 : Int) < (n1 : Int) / 4 by omega)
      omega
    obtain ⟨f0, f1⟩ := hfb
    have hq4 : (n1 : Int) / 4 ≠ 0 := by omega
    have hF : spanF n1 f = f := by unfold spanF; rw [if_neg (by omega)]; omega
    have hT : spanT n1 f 4 = (f : Int) + (4 : Nat) := by unfold spanT spanN; rw [hF, if_neg (by omega)]; omega
    have HF := Lib.hid hF
    have HT := Lib.hid hT
    clear hF hT
    go_wp2_with fail
    refine (zeroed_any _ _ _ ps f 4 f 4 _ hrow1 (by omega) (by omega) (by omega) (by omega) (by omega) HF.out HT.out f0).mono ?_
    rintro e w2 ⟨A2, n2, k2, rfl, hown2, hb2'⟩
    have hb2 : Below w.heap.size w w2 := hb1.trans (hb2'.mono hb1.size)
    obtain rfl : n2 = n1 := by
      have := hown2.len
      rw [zeroedL] at this
      simp only [List.length_append, List.length_take, List.length_replicate, List.length_drop, Hl.out] at this
      omega
    have HW := Lib.hid (whole_sum ps f (by have := Hl.out; omega) f1)
    have hBz : Bytes (zeroedL ps f 4) := bytes_append (fun x hx => HB.out x (List.mem_of_mem_take hx)) (bytes_append (fun x hx => by have := List.eq_of_mem_replicate hx; omega) (fun x hx => HB.out x (List.mem_of_mem_drop hx)))
    have HBz := Lib.hid hBz
    have hq2 := hown2.row
    have hcap := hown2.cap
    have hs2 := hb2.size
    obtain ⟨g, hA2⟩ : ∃ g, A2 = some ⟨g, 0, none⟩ := by
      rcases hown2.shape with ⟨_, _, h, _⟩ | ⟨g, _, h, _⟩
      · omega
      · exact ⟨g, h⟩
    subst hA2
    clear hb1 hb2' hrow1 hown2 HF HT hBz hf hq4
    generalize zeroedL ps f 4 = qs at *
    have hqa := hq2.take (k := f) (by omega)
    have hqb := hq2.drop (f + 4)
    rw [cellsOf_take] at hqa
    rw [cellsOf_drop] at hqb
    simp only [Option.map_some, Addr.add_lit, Nat.zero_add] at hqb
    have Hqa := Lib.hid hqa
    have Hqb := Lib.hid hqb
    clear hqa hqb
    obtain ⟨ad, had⟩ : ∃ x, (2981146554 - rs qs) % 4294967296 = x := ⟨_, rfl⟩
    have hadb : 0 ≤ ad ∧ ad < 4294967296 := by omega
    obtain ⟨ad0, ad1⟩ := hadb
    rw [had] at HW
    have Had := Lib.hid had
    have HBj : Hid (Bytes (qs.take f ++ (b4 ad ++ qs.drop (f + 4)))) := bytes_append (fun x hx => HBz.out x (List.mem_of_mem_take hx)) (bytes_append (b4_bytes _) (fun x hx => HBz.out x (List.mem_of_mem_drop hx)))
    have Hql := Lib.hid hq2.len
    clear had
    by_cases hc4 : k2 = f + 4
    · obtain rfl : n2 = f + 4 := by omega
      subst hc4
      have x1 : IntKind.i64.wrap ((f : Int) + 4) = (f : Int) + 4 := IntWalk.i64_in _ (by omega)
      have x2 : (0 : Int) ≤ (f : Int) + 4 := by omega
      have x3 : ((f : Int) + 4).toNat = f + 4 := by omega
      have x4 : (f : Int) + 4 ≤ ((f + 4 : Nat) : Int) := by omega
      have x5 : (0 ≤ (f : Int) + 4 ∧ (f : Int) + 4 ≤ ((f + 4 : Nat) : Int)) := ⟨x2, x4⟩
      have x6 : (f : Int) ≤ ((f + 4 : Nat) : Int) := by omega
      have x7 : f ≤ f + 4 := by omega
      go_upto_region 6 with fail
      go_region_with (first
        | (go_at_call 45; refine (adjust_rs_any _ _ _ qs _ ?_ HBz.out (by omega)).mono ?_; exact hq2.drew; rintro e w3 ⟨rfl, hb3⟩; rw [Had.out])
        | (go_at_call 39; refine (b4_any ad _ ad0 ad1).mono ?_; rintro e w4 ⟨A4, n4, k4, rfl, hown4, hb4⟩)
        | (go_at_call 36; refine (join3_any w4 _ (some ⟨g, 0, none⟩) A4 _ f (f + 4) n4 k4 0 0 (qs.take f) (b4 ad) (qs.drop (f + 4)) rfl ?_ hown4.row ?_ ?_).mono ?_; exact (Hqa.out.drew.below hb3).below hb4; (rw [List.drop_of_length_le (by have := Hql.out; omega)]; exact Row.empty _ _); (have h4 := hown4.len; rw [b4_len] at h4; omega); rintro e w5 ⟨A5, n5, k5, rfl, hown5, hb5⟩)
        | (go_at_call 43; refine (sum_rs_any _ _ _ _ _ hown5.row HBj.out ?_).mono ?_; (have h5 := hown5.len; rw [List.length_append, List.length_append, b4_len, List.length_take, List.length_drop, Hql.out] at h5; omega); rintro e w6 ⟨rfl, hb6⟩; rw [HW.out]))
      all_goals go_wp2
      all_goals go_ret
      all_goals
        have h3 : Below w.heap.size w w3 := hb2.drew.trans (hb3.mono hs2)
        have h4 : Below w.heap.size w w4 := h3.trans (hb4.mono h3.size)
        have h5 : Below w.heap.size w w5 := h4.trans (hb5.mono h4.size)
        exact ⟨rfl, h5.trans (hb6.mono h5.size)⟩
    · skip
      have x1 : IntKind.i64.wrap ((f : Int) + 4) = (f : Int) + 4 := IntWalk.i64_in _ (by omega)
      have x2 : (0 : Int) ≤ (f : Int) + 4 := by omega
      have x3 : ((f : Int) + 4).toNat = f + 4 := by omega
      have x4 : (f : Int) + 4 ≤ (n2 : Int) := by omega
      have x5 : (0 ≤ (f : Int) + 4 ∧ (f : Int) + 4 ≤ (n2 : Int)) := ⟨x2, x4⟩
      have x6 : (f : Int) ≤ (k2 : Int) := by omega
      have x7 : f ≤ k2 := by omega
      go_upto_region 6 with fail
      go_region_with (first
        | (go_at_call 45; refine (adjust_rs_any _ _ _ qs _ ?_ HBz.out (by omega)).mono ?_; exact hq2.drew; rintro e w3 ⟨rfl, hb3⟩; rw [Had.out])
        | (go_at_call 39; refine (b4_any ad _ ad0 ad1).mono ?_; rintro e w4 ⟨A4, n4, k4, rfl, hown4, hb4⟩)
        | (go_at_call 36; refine (join3_any w4 _ (some ⟨g, 0, none⟩) A4 (some ⟨g, f + 4, none⟩) f k2 n4 k4 (n2 - (f + 4)) (k2 - (f + 4)) (qs.take f) (b4 ad) (qs.drop (f + 4)) rfl ?_ hown4.row ?_ ?_).mono ?_; exact (Hqa.out.drew.below hb3).below hb4; exact (Hqb.out.drew.below hb3).below hb4; (have h4 := hown4.len; rw [b4_len] at h4; omega); rintro e w5 ⟨A5, n5, k5, rfl, hown5, hb5⟩)
        | (go_at_call 43; refine (sum_rs_any _ _ _ _ _ hown5.row HBj.out ?_).mono ?_; (have h5 := hown5.len; rw [List.length_append, List.length_append, b4_len, List.length_take, List.length_drop, Hql.out] at h5; omega); rintro e w6 ⟨rfl, hb6⟩; rw [HW.out]))
      all_goals go_wp2
      all_goals go_ret
      all_goals
        have h3 : Below w.heap.size w w3 := hb2.drew.trans (hb3.mono hs2)
        have h4 : Below w.heap.size w w4 := h3.trans (hb4.mono h3.size)
        have h5 : Below w.heap.size w w5 := h4.trans (hb5.mono h4.size)
        exact ⟨rfl, h5.trans (hb6.mono h5.size)⟩

end Go.Proofs.Yteampemlkkkfcaa
