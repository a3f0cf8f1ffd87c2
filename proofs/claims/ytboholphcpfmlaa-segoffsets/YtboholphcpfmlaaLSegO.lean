/- The law SegOffsets. -/
import Derived.Test.YtboholphcpfmlaaSegO
import Derived.Test.YtboholphcpfmlaaLSegA
namespace Go.Proofs.Ytboholphcpfmlaa
open Go.RowKit
set_option linter.unusedVariables false

set_option maxRecDepth 100000 in
set_option maxHeartbeats 8000000 in
theorem law_SegOffsets (a0 : Int) (A1 : Option Addr) (n1 c1 : Nat) (z1 : List Int) (d a3 : Int) (w : World) (l0 : 0 ≤ a0) (u0 : a0 ≤ 65535) (hr1 : Row w A1 n1 (cellsOf .u16 z1)) (hW1 : Wf .u16 z1) (hn1 : n1 ≤ 9223372036854775807) (hc1 : n1 ≤ c1) (d0 : 0 ≤ d) (d1 : d ≤ 65535) (l3 : 0 ≤ a3) (u3 : a3 ≤ 65535) :
    Calls Try.prog 6 #[.int .u16 a0, .slice A1 n1 c1, .int .u16 d, .int .u16 a3] w (True_ w) := by
  obtain ⟨m, hm, hmn, hm20⟩ : ∃ m : Nat, min (n1 : Int) 20 = m ∧ m ≤ n1 ∧ m ≤ 20 := ⟨min n1 20, by omega, by omega, by omega⟩
  obtain ⟨s, hs⟩ : ∃ x, a0 % 60000 = x := ⟨_, rfl⟩
  have s0 : 0 ≤ s := by omega
  have s1 : s < 60000 := by omega
  by_cases hm0 : m = 0
  · have b0 : ((m : Int) == 0) = true := by simp [hm0]
    clear hm0
    go_enter Try.func6, Try.ntmps6
    go_wp2_with fail
    with_reducible refine (awake09_any w).mono ?_
    rintro e w0 ⟨rfl, hb0⟩
    go_wp2
    go_ret
    exact ⟨rfl, hb0⟩
  · have b0 : ((m : Int) == 0) = false := by simp; omega
    obtain ⟨g1, off1, rfl, hg1, _⟩ := hr1.2 (by omega)
    have hl1 := hr1.len
    have hgl : (z1.take m).length = m := by rw [List.length_take]; omega
    have HGet : Hid (∀ k x W, z1[k]? = some x → Below w.heap.size w W → W.cell? ⟨g1, off1 + k, none⟩ = some (.int .u16 x)) := by
      show ∀ _ _ _, _
      intro k x W hx hW
      obtain ⟨g', off', e', _, hc'⟩ := (hr1.below hW).at (j := k) (u := .int .u16 x) (cellsOf_get hx)
      simp only [Option.some.injEq, Addr.mk.injEq, and_true] at e'
      obtain ⟨rfl, rfl⟩ := e'
      exact hc'
    have HW := Lib.hid (fun (k : Nat) x (h : z1[k]? = some x) => bounds_u16 (hW1 x (List.mem_of_getElem? h)))
    have HS2 : Hid (∀ W, Calls Try.prog 29 #[.int .i64 2] W (RetB W (srB 2))) := fun W => rsearch9_any 2 W (by omega) (by omega)
    have hmc : (m : Int) ≤ (c1 : Int) := by omega
    have hmz : (0 : Int) ≤ (m : Int) := by omega
    have Hgl := Lib.hid hgl
    clear hW1 hr1 hgl
    go_enter Try.func6, Try.ntmps6
    go_wp2_with fail
    with_reducible refine (awake09_any w).mono ?_
    rintro e w0 ⟨rfl, hb⟩
    have hgt := Got.nil w0
    go_wp2_with (first
      | (go_at_call 28; refine (b2_any _ _ (by omega) (by omega)).mono ?_; rintro e wn ⟨A2, n2, c2, rfl, o, hbn⟩; replace hgt := hgt.add (c := c2) hbn o; replace hb := hb.trans (hbn.mono hb.size); clear o hbn)
      | (go_at_call 29; refine (HS2.out _).mono ?_; rintro e wn ⟨A2, n2, c2, rfl, o, hbn⟩; replace hgt := hgt.add (c := c2) hbn o; replace hb := hb.trans (hbn.mono hb.size); clear o hbn)
      | (go_at_call 27; refine (joinN_any _ _ _ 14 _ rfl rfl rfl hgt (by omega) (by simp [joined, b2, srB])).mono ?_; rintro e wn ⟨A2, n2, c2, rfl, o, hbn⟩; simp only [joined, List.nil_append, List.cons_append, List.flatMap_cons, List.flatMap_nil, List.append_nil] at o; replace o := o.mono hb.size; clear hgt; replace hb := hb.trans (hbn.mono hb.size); clear hbn))
    try rw [hs]
    have HO : Hid (OwnB wn w.heap.size A2 n2 c2 (offHd m s (s + m - 1) d ++ ((z1.take m).take 0).flatMap b2)) := by
      show OwnB _ _ _ _ _ _
      rw [List.take_zero, List.flatMap_nil, List.append_nil]
      exact o
    have HB := Lib.hid hb
    clear o hb hm b0 hs HS2
    generalize hgs : z1.take m = gs at *
    have HG2 : Hid (∀ (k : Nat) x, gs[k]? = some x → z1[k]? = some x) := fun k x h => by rw [← hgs, List.getElem?_take] at h; split at h; exact h; cases h
    clear hgs
    go_loopw [11, 61] (fun v i wr => ∃ (k : Nat) (Ap : Option Addr) (np cp : Nat), k ≤ m ∧ i = .int .i64 k ∧ v = .slice Ap np cp ∧ OwnB wr w.heap.size Ap np cp (offHd m s (s + m - 1) d ++ (gs.take k).flatMap b2) ∧ Below w.heap.size w wr) (fun _ i _ => m - (intOf i).toNat)
    case atStart => exact ⟨0, A2, n2, c2, Nat.zero_le _, rfl, rfl, HO.out, HB.out⟩
    case round =>
      clear HO HB
      obtain ⟨k, Ap, np, cp, hk, rfl, rfl, hown, hb⟩ := hrel
      have hnl := hown.len
      have hfl := flat_b2_len (gs.take k)
      rw [List.length_append, hfl, List.length_take, show (offHd m s (s + m - 1) d).length = 32 from rfl] at hnl
      by_cases hlt : k < m
      · obtain ⟨x, hx⟩ := getP (l := gs) (j := k) (by have := Hgl.out; omega)
        have hcx := HGet.out k x wr (HG2.out k x hx) hb
        obtain ⟨x0, x1⟩ := HW.out k x (HG2.out k x hx)
        have HF := Lib.hid (flat_b2_snoc hx)
        clear hx
        go_wp2_with fail
        refine (b2_any x _ (by omega) (by omega)).mono ?_
        rintro e w2 ⟨A3, n3, c3, rfl, o3, hb3⟩
        have hgt := ((Got.nil w2).put (c := cp) (hown.below hb3).row).put (c := c3) o3.row
        have hb4 := hb.trans (hb3.mono hb.size)
        have HJ := Lib.hid (joinN_any w2 _ _ 2 _ rfl rfl rfl hgt (by omega) (by have h22 : (b2 x).length = 2 := rfl; simp only [joined, List.nil_append, List.cons_append, List.flatMap_cons, List.flatMap_nil, List.append_nil, List.length_append]; rw [hfl, List.length_take, show (offHd m s (s + m - 1) d).length = 32 from rfl]; omega))
        simp only [joined, List.nil_append, List.cons_append, List.flatMap_cons, List.flatMap_nil, List.append_nil, List.map_cons, List.map_nil, BsV.val] at HJ
        rw [List.append_assoc, ← HF.out] at HJ
        clear hgt o3 hb3 hown hb hcx
        go_wp2_with fail
        refine HJ.out.mono ?_
        rintro e w5 ⟨A5, n5, c5, rfl, o5, hb5⟩
        go_wp2
        go_roundw
        case rel => exact ⟨k + 1, A5, n5, c5, by omega, by go_num, rfl, o5.mono hb4.size, hb4.trans (hb5.mono hb4.size)⟩
        case measure => simp [intOf]; omega
      · have HE : Hid (offHd m s (s + m - 1) d ++ (gs.take k).flatMap b2 = offTab gs s d) := by
          show _ = _
          rw [List.take_of_length_le (by have := Hgl.out; omega)]
          unfold offTab
          rw [Hgl.out]
        rw [HE.out] at hown
        have hg := Hgl.out
        have HR := Lib.hid (off_right (gs := gs) (s := s) (d := d) (by omega) (by omega) s0 s1 d0 (by omega))
        have HBy := Lib.hid (off_bytes (gs := gs) (s := s) (d := d) (by omega) (by omega) s0 s1 d0 (by omega))
        have HLk := Lib.hid (fun j x => off_look (gs := gs) (s := s) (d := d) (j := j) (x := x) (by omega) (by omega) s0 s1 d0 (by omega))
        have HOt := Lib.hid (fun code => off_other (gs := gs) (s := s) (d := d) (code := code) (by omega) (by omega) s0 s1 d0 (by omega))
        have hln := hown.len
        rw [offTab_len] at hln
        have HP := Lib.hid (sparse_any Ap np cp _ wr hown.row HBy.out (by omega) hown.cap)
        rw [hg] at HOt
        clear HE hown hnl hfl
        generalize offTab gs s d = zs at *
        go_wp2_with fail
        with_reducible refine HP.out.mono ?_
        rintro e w2 ⟨hb2, ⟨hf, _⟩ | ⟨_, A2', c2', g2, rfl, hown2, hnum2⟩⟩
        · rw [HR.out.1] at hf; cases hf
        have hmp := SMap.of HBy.out HR.out.1 hown2 hnum2
        rw [HR.out.2] at hmp ⊢
        have hbw := hb.trans (hb2.mono hb.size)
        have hA : Below w2.heap.size w2 (w2.alloc (.cells #[.slice A2' 2 c2'] 32)) := (Below.refl _ _).alloc (Nat.le_refl _) _
        have hbx : BoxS w (w2.alloc (.cells #[.slice A2' 2 c2'] 32)) w2.heap.size A2' 2 c2' zs g2 := ⟨heap_alloc_new w2 _, hmp.below hA, hbw.trans (hA.mono hbw.size)⟩
        clear HP hown2 hnum2 hb hb2 hbw hmp hA HR HBy hln
        unfold smV
        go_wp2
        generalize w2.heap.size = bx at *
        go_loopw [83] (fun i wr => ∃ k : Nat, k ≤ m ∧ i = .int .i64 k ∧ BoxS w wr bx A2' 2 c2' zs g2) (fun i _ => m - (intOf i).toNat)
        case atStart => exact ⟨0, Nat.zero_le _, rfl, hbx⟩
        case round =>
          clear hbx
          obtain ⟨j, hj, rfl, hbx⟩ := hrel
          have kb := hbx.cell
          by_cases hlt' : j < m
          · obtain ⟨x, hx⟩ := getP (l := gs) (j := j) (by omega)
            have hcx := HGet.out j x wr (HG2.out j x hx) hbx.bel
            obtain ⟨x0, x1⟩ := HW.out j x (HG2.out j x hx)
            have hv := HLk.out j x hx x0 (by omega)
            have F : IntKind.u16.wrap (x + d) = (x + d) % 65536 := IntKind.wrap_u16 _
            clear hx
            by_cases hx0 : x = 0
            · rw [if_pos hx0] at hv
              have HC := Lib.hid (hbx.look (by omega) (s + (j : Int)) 0 hv (by omega) (by omega))
              have bx0 : (x == 0) = true := by simp [hx0]
              clear hv hx0
              go_wp2_with fail
              with_reducible refine HC.out.mono ?_
              rintro e w3 ⟨rfl, hb3⟩
              have hbx3 := hbx.below hb3
              go_wp2
              go_roundw
              case rel => exact ⟨j + 1, by omega, by go_num, hbx3⟩
              case measure => simp [intOf]; omega
            · rw [if_neg hx0] at hv
              have HC := Lib.hid (hbx.look (by omega) (s + (j : Int)) ((x + d) % 65536) hv (by omega) (by omega))
              have bx0 : (x == 0) = false := by simp [hx0]
              have bn : ((x + d) % 65536 != (x + d) % 65536) = false := by simp
              clear hv hx0
              go_wp2_with fail
              with_reducible refine HC.out.mono ?_
              rintro e w3 ⟨rfl, hb3⟩
              have hbx3 := hbx.below hb3
              go_wp2
              go_roundw
              case rel => exact ⟨j + 1, by omega, by go_num, hbx3⟩
              case measure => simp [intOf]; omega
          · by_cases hin : s ≤ a3 ∧ a3 ≤ s + (m : Int) - 1
            · obtain ⟨hi1, hi2⟩ := hin
              go_wp2
              go_ret
              exact ⟨rfl, hbx.bel⟩
            · have hv := HOt.out a3 l3 u3 (by omega)
              have HC := Lib.hid (hbx.look (by omega) a3 0 hv (by omega) (by omega))
              by_cases hi1 : s ≤ a3
              · have hi2 : ¬ a3 ≤ s + (m : Int) - 1 := by omega
                clear hin hv
                go_wp2_with fail
                with_reducible refine HC.out.mono ?_
                rintro e w3 ⟨rfl, hb3⟩
                have hbx3 := hbx.below hb3
                go_wp2
                go_ret
                exact ⟨rfl, hbx3.bel⟩
              · clear hin hv
                go_wp2_with fail
                with_reducible refine HC.out.mono ?_
                rintro e w3 ⟨rfl, hb3⟩
                have hbx3 := hbx.below hb3
                go_wp2
                go_ret
                exact ⟨rfl, hbx3.bel⟩

end Go.Proofs.Ytboholphcpfmlaa
