/- What the document's Same of tables answers, as a contract over this seat's translation. -/
import Derived.Test.YtlkidnacfljpkaaRZero
namespace Go.Proofs.Ytlkidnacfljpkaa
open Go.RowKit
set_option linter.unusedVariables false

theorem eqK_not {a b : List Tab} {k n : Nat} (h : eqT (a.getD k default) (b.getD k default) = false) (hn : k < n) : eqK a b n = false := by
  unfold eqK
  rw [List.all_eq_false]
  exact ⟨k, List.mem_range.2 hn, by rw [h]; simp⟩

set_option maxRecDepth 100000 in
set_option maxHeartbeats 2000000 in
theorem rsame_any (A B : Option Addr) (n c m d : Nat) (a b : List Tab) (w : World) (ha : RowS encT 2 w A n a) (hb : RowS encT 2 w B m b) (fa : ∀ t ∈ a, t.ok w) (fb : ∀ t ∈ b, t.ok w) (hn : n ≤ 1000000) (hm : m ≤ 1000000) :
    Calls Try.prog 16 #[.slice A n c, .slice B m d] w (Ret w (.bool (sameL a b))) := by
  have Ha := Lib.hid ha.len
  have Hb := Lib.hid hb.len
  have Fa := Lib.hid fa
  have Fb := Lib.hid fb
  clear fa fb
  by_cases hnm : n = m
  · subst hnm
    have hne : ((n : Int) != (n : Int)) = false := by simp
    go_enter Try.func16, Try.ntmps16
    go_wp2
    clear hne
    go_loopw [13] (fun i wr => ∃ k : Nat, k ≤ n ∧ i = .int .i64 k ∧ eqK a b k = true ∧ Below w.heap.size w wr) (fun i _ => n - (intOf i).toNat)
    case atStart => exact ⟨0, Nat.zero_le _, rfl, rfl, Below.refl _ _⟩
    case round =>
      obtain ⟨k, hk, rfl, hE, hbel⟩ := hrel
      have HE := Lib.hid hE
      clear hE
      by_cases hlt : k < n
      · obtain ⟨x, hx⟩ : ∃ x, a[k]? = some x := ⟨_, List.getElem?_eq_getElem (by have := Ha.out; omega)⟩
        obtain ⟨y, hy⟩ : ∃ y, b[k]? = some y := ⟨_, List.getElem?_eq_getElem (by have := Hb.out; omega)⟩
        have hxo := (Fa.out x (List.mem_of_getElem? hx)).below hbel
        have hyo := (Fb.out y (List.mem_of_getElem? hy)).below hbel
        obtain ⟨g, off, rfl, hg, hc⟩ := (ha.below hbel).at encT_len (by omega) hx
        obtain ⟨g', off', rfl, hg', hc'⟩ := (hb.below hbel).at encT_len (by omega) hy
        have HX := Lib.hid (getD_get hx)
        have HY := Lib.hid (getD_get hy)
        have N0 := gw_cell (show wr.cell? ⟨g, off + k * 2, none⟩ = some (.string x.tag) from hc 0 _ rfl)
        have N1 := gw_cell (show wr.cell? ⟨g, off + k * 2 + 1, none⟩ = some (.slice x.A x.n x.c) from hc 1 _ rfl)
        have M0 := gw_cell (show wr.cell? ⟨g', off' + k * 2, none⟩ = some (.string y.tag) from hc' 0 _ rfl)
        have M1 := gw_cell (show wr.cell? ⟨g', off' + k * 2 + 1, none⟩ = some (.slice y.A y.n y.c) from hc' 1 _ rfl)
        have HS : Hid (∀ q os, Calls Try.prog 10 #[.slice x.A x.n x.c, .slice y.A y.n y.c] (gw wr q os) fun e w' => e = .returned (.bool (sameB x.zs y.zs)) ∧ Below (gw wr q os).heap.size (gw wr q os) w') := fun q os =>
          (same_any _ _ _ _ _ _ _ _ _ (hxo.below (gw_below wr q os)).1 (hyo.below (gw_below wr q os)).1 (by have := hxo.2.2; omega) (by have := hyo.2.2; omega)).mono fun e w' ⟨he, z, hw⟩ => ⟨he, by rw [hw]; exact below_drewN (Below.refl _ _) z⟩
        have HQ : Hid (eqT (a.getD k default) (b.getD k default) = (decide (x.tag.toList = y.tag.toList) && sameB x.zs y.zs)) := by show eqT _ _ = _; rw [HX.out, HY.out]; rfl
        have hk0 : (0 : Int) ≤ (k : Int) := by omega
        have hk1 : (k : Int) < (n : Int) := by omega
        obtain ⟨xt, xA, xn, xc, xz⟩ := x
        obtain ⟨yt, yA, yn, yc, yz⟩ := y
        simp only at N0 N1 M0 M1 HS HQ
        generalize sameB xz yz = sm at *
        clear hx hy hxo hyo hc hc' HX HY
        cases e1 : (xt.toList == yt.toList) with
        | false =>
          have HF : Hid (sameL a b = false) := by
            show sameL a b = false
            unfold sameL
            rw [eqK_not (k := k) (by rw [HQ.out]; simp at e1; simp [e1]) (by have := Ha.out; omega)]
            simp
          go_wp2_with fail
          refine region_below (by kernel_rfl) (by kernel_rfl) ?_
          repeat (first | go_big_quiet_step (first | (go_at_call 10; exact calls_gw (HS.out _ _))) | quiet_step (first | (go_at_call 10; exact calls_gw (HS.out _ _))))
          refine wpQuiet_nil ?_
          rintro _ ⟨p, rfl⟩
          have hB3 := hbel.trans ((gw_below wr p.n p.os).mono hbel.size)
          clear N0 N1 M0 M1 HS
          go_wp2
          go_ret
          exact ⟨by rw [HF.out]; rfl, hB3⟩
        | true =>
          cases sm with
          | false =>
            have HF : Hid (sameL a b = false) := by
              show sameL a b = false
              unfold sameL
              rw [eqK_not (k := k) (by rw [HQ.out]; simp) (by have := Ha.out; omega)]
              simp
            go_wp2_with fail
            refine region_below (by kernel_rfl) (by kernel_rfl) ?_
            repeat (first | go_big_quiet_step (first | (go_at_call 10; exact calls_gw (HS.out _ _))) | quiet_step (first | (go_at_call 10; exact calls_gw (HS.out _ _))))
            refine wpQuiet_nil ?_
            rintro _ ⟨p, rfl⟩
            have hB3 := hbel.trans ((gw_below wr p.n p.os).mono hbel.size)
            clear N0 N1 M0 M1 HS
            go_wp2
            go_ret
            exact ⟨by rw [HF.out]; rfl, hB3⟩
          | true =>
            have HF : Hid (eqK a b (k + 1) = true) := by
              show eqK a b (k + 1) = true
              rw [eqK_succ, HE.out, HQ.out]
              simp at e1
              simp [e1]
            go_wp2_with fail
            refine region_below (by kernel_rfl) (by kernel_rfl) ?_
            repeat (first | go_big_quiet_step (first | (go_at_call 10; exact calls_gw (HS.out _ _))) | quiet_step (first | (go_at_call 10; exact calls_gw (HS.out _ _))))
            refine wpQuiet_nil ?_
            rintro _ ⟨p, rfl⟩
            have hB3 := hbel.trans ((gw_below wr p.n p.os).mono hbel.size)
            clear N0 N1 M0 M1 HS
            go_wp2
            go_roundw
            case rel => exact ⟨k + 1, by omega, by go_num, HF.out, hB3⟩
            case measure => simp [intOf]; omega
      · obtain rfl : k = n := by omega
        have HF : Hid (sameL a b = true) := by
          show sameL a b = true
          unfold sameL
          rw [Ha.out, Hb.out, HE.out]
          simp
        go_wp2
        go_ret
        exact ⟨by rw [HF.out]; rfl, hbel⟩
  · have hne : ((n : Int) != (m : Int)) = true := by simp; omega
    have HF : Hid (sameL a b = false) := by
      show sameL a b = false
      unfold sameL
      rw [Ha.out, Hb.out]
      simp [hnm]
    go_enter Try.func16, Try.ntmps16
    go_wp2
    go_ret
    exact ⟨by rw [HF.out]; rfl, Below.refl _ _⟩

end Go.Proofs.Ytlkidnacfljpkaa
