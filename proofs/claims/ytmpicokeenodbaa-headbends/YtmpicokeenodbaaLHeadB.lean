/- The law HeadBends. -/
import Derived.Test.YtmpicokeenodbaaLHeadF
import Derived.Test.YtmpicokeenodbaaLMaxpB
import Derived.Deep.DeepCutAuto
namespace Go.Proofs.Ytmpicokeenodbaa
open Go.RowKit
set_option linter.unusedVariables false

set_option maxRecDepth 100000 in
set_option maxHeartbeats 4000000 in
theorem law_HeadBends (h : Hd) (a x d : Int) (w : World) (ho : h.ok) (a0 : 0 ≤ a) (a1 : a ≤ 255) (x0 : 0 ≤ x) (x1 : x ≤ 255) (d0 : 0 ≤ d) (d1 : d ≤ 255) :
    Calls Try.prog 5 #[hdV h, .int .u8 a, .int .u8 x, .int .u8 d] w (True_ w) := by
  have hA : Below w.heap.size w (w.alloc (.cells (hdC h) 28)) := (Below.refl _ _).alloc (Nat.le_refl _) _
  have hk := heap_alloc_new w (.cells (hdC h) 28)
  obtain ⟨k, hak⟩ : ∃ k : Nat, a % 54 = k := ⟨(a % 54).toNat, by omega⟩
  obtain ⟨l, hdl⟩ : ∃ l : Nat, d % 54 = l := ⟨(d % 54).toNat, by omega⟩
  have hk54 : k < 54 := by omega
  have hl54 : l < 54 := by omega
  have hU : ∃ U, 16 + h.un % 16369 = U ∧ 16 ≤ U ∧ U ≤ 16384 := ⟨16 + h.un % 16369, rfl, by omega, by omega⟩
  obtain ⟨U, hU, U0, U1⟩ := hU
  have hok : Hd.ok { h with un := U } := ⟨ho.rv, ho.ad, ho.fl, ⟨by simp only; omega, by simp only; omega⟩, ho.cr, ho.mo, ho.box, ho.st, ho.lo, ho.hi⟩
  have hne : hdRight { h with un := U } = true := by unfold hdRight; simp [U0, U1]
  have hun := ho.un
  have Hby := Lib.hid (fun W => hbytes_any { h with un := U } W hok hne)
  have HB := Lib.hid (hdL_bytes { h with un := U })
  have HL := Lib.hid (hdL_len { h with un := U })
  generalize hdL { h with un := U } = L at *
  obtain ⟨rv, ad, fl, un, cr, mo, y0, y1, y2, y3, st, lo, hi, lg⟩ := h
  simp only [hdC] at hA hk hU Hby hun
  obtain ⟨un0, un1⟩ := hun
  clear hok hne ho
  have Hak := Lib.hid hak
  have Hdl := Lib.hid hdl
  have HU := Lib.hid hU
  clear hak hU hdl
  go_enter Try.func5, Try.ntmps5
  go_wp2_with fail
  generalize w.alloc _ = V at *
  refine (awake5_any V).mono ?_
  rintro e w1 ⟨rfl, hb1⟩
  have hk1 := kept_block hk hb1
  have hB1 := hA.trans (hb1.mono hA.size)
  clear hk hA hb1
  have c3 : w1.cell? ⟨w.heap.size, 3, none⟩ = some (.int .u16 un) := (cells14 hk1).2.2.2.1
  have f0 := thawed hk1
  have hk2 := set_block hk1 3 (.int .u16 U)
  have hB2 := below_set (Nat.le_refl _) 3 (.int .u16 U) hB1
  simp only [List.setIfInBounds_toArray, List.set_cons_zero, List.set_cons_succ] at hk2
  have hU := HU.out
  clear hk1 hB1
  go_upto_region 4 with fail
  try rw [hU]
  clear hU c3 f0
  generalize w1.setCell _ _ = w2 at *
  obtain ⟨c0, c1, c2, c3, c4, c5, c6, c7, c8, c9, c10, c11, c12, c13⟩ := cells14 hk2
  go_wp2_with fail
  refine (Hby.out w2).mono ?_
  rintro e w3 ⟨A3, n3, k3, rfl, hown, hb3⟩
  have hl3 := hown.len
  rw [HL.out] at hl3
  subst hl3
  have hcap : (54 : Int) ≤ (k3 : Int) := by have := hown.cap; omega
  have hB3 := hB2.trans (hb3.mono hB2.size)
  have hlt2 := lt_of_block hk2
  clear c0 c1 c2 c3 c4 c5 c6 c7 c8 c9 c10 c11 c12 c13
  clear hk2 hB2 hb3
  obtain ⟨y, hy⟩ := get_some (zs := L) (k := k) (by rw [HL.out]; exact hk54)
  obtain ⟨yl, yu⟩ := HB.out y (List.mem_of_getElem? hy)
  obtain ⟨gb, rfl, hgB, hgl, fz, hset⟩ := hown.set (j := k) hk54
  have cy : w3.cell? ⟨gb, k, none⟩ = some (.int .u8 y) := by
    obtain ⟨g', off', e', _, cy⟩ := hown.row.at (j := k) (u := .int .u8 y) (cellsOf_get hy)
    simp only [Option.some.injEq, Addr.mk.injEq, and_true] at e'
    obtain ⟨rfl, rfl⟩ := e'
    simpa using cy
  have hS := hset (bits .xor .u8 y x)
  have hv := xor_byte y x yl yu x0 x1
  generalize hbx : bits .xor .u8 y x = v at *
  have hi0 : (0 : Int) ≤ (k : Int) := by omega
  have hi1 : (k : Int) < 54 := by omega
  have Hbx := Lib.hid hbx
  have Hy := Lib.hid hy
  have hak := Hak.out
  have hB4 := below_set (B := w.heap.size) (g := gb) (by omega) k (.int .u8 v) hB3
  clear hy hset hbx hown hB3
  go_upto_region 6 with fail
  try rw [Hbx.out]
  have HB4 := Lib.hid (set_bytes HB.out k hv.1 hv.2)
  have HL4 : Hid ((L.set k v).length = 54) := by show (L.set k v).length = 54; rw [List.length_set]; exact HL.out
  clear cy fz hgB hgl Hbx Hy yl yu hak
  generalize w3.setCell _ _ = w4 at *
  generalize L.set k v = L' at *
  have hr4 := hS.row
  clear hS
  go_wp2_with fail
  refine (hparse_any _ 54 k3 L' w4 hr4 HB4.out).mono ?_
  rintro e w5 ⟨rfl, hb5⟩
  have hB5 := hB4.trans (hb5.mono hB4.size)
  have hr5 := hr4.below hb5
  clear hB4 hr4 hb5
  have key : ∃ (m' : Hd) (ev : Int), hdTold L' = hdR m' ev ∧ ((hrt L' = true ∧ ev = 0) ∨ (hrt L' = false ∧ ev = 2)) := by
    cases hR : hrt L' with
    | true => exact ⟨_, _, hdTold_yes hR, .inl ⟨rfl, rfl⟩⟩
    | false => exact ⟨_, _, hdTold_no hR, .inr ⟨rfl, rfl⟩⟩
  obtain ⟨m', ev, hm', hev⟩ := key
  rw [hm']
  have Hev := Lib.hid hev
  clear hm' hev
  have hA6 : Below w5.heap.size w5 (w5.alloc (.cells (hdC m') 28)) := (Below.refl _ _).alloc (Nat.le_refl _) _
  have hr6 := hr5.below hA6
  have hB6 := hB5.trans (hA6.mono hB5.size)
  obtain ⟨r0, r1, r2, r3, r4, r5, r6, r7, r8, r9, r10, r11, r12, r13⟩ := m'
  simp only [hdC] at hr6 hB6
  clear hA6 hr5 hB5
  go_upto_region 7 with fail
  generalize w5.alloc _ = w6 at *
  have hdl := Hdl.out
  go_wp2_with fail
  clear hdl
  try rw [Hdl.out]
  refine (hparse_len _ _ _ _ (by omega)).mono ?_
  rintro e w7 ⟨rfl, hb7⟩
  have hA8 : Below w7.heap.size w7 (w7.alloc (.cells (hdC hd0) 28)) := (Below.refl _ _).alloc (Nat.le_refl _) _
  have hr8 := (hr6.below hb7).below hA8
  have hB8' := hB6.trans (hb7.mono hB6.size)
  have hB8 := hB8'.trans (hA8.mono hB8'.size)
  simp only [hdC, hd0] at hr8 hB8
  clear hr6 hB6 hb7 hA8 hB8'
  simp only [hd0]
  go_upto_region 8 with fail
  generalize w7.alloc _ = w8 at *
  have hA9 : Below w8.heap.size w8 (w8.alloc (.cells #[.int .u8 0] 5)) := (Below.refl _ _).alloc (Nat.le_refl _) _
  have ho9 := row_one w8 .u8 0 5
  have hr9 := hr8.below hA9
  have hB9 := hB8.trans (hA9.mono hB8.size)
  have hg : Got (w8.alloc (.cells #[.int .u8 0] 5)) ([] ++ [⟨some ⟨gb, 0, none⟩, 54, k3, L'⟩] ++ [⟨some ⟨w8.heap.size, 0, none⟩, 1, 1, [0]⟩]) := ((Got.nil _).put hr9).put ho9
  have hsz : w8.heap.size + 1 = (w8.alloc (.cells #[.int .u8 0] 5)).heap.size := by simp
  have Hsz := Lib.hid hsz
  clear hr8 hB8 hA9 ho9 hsz
  go_wp2_with fail
  generalize w8.alloc _ = w9 at *
  refine (joinN_any w9 _ _ 2 _ rfl Hsz.out rfl hg (by omega) (by have := HL4.out; simp [joined]; omega)).mono ?_
  rintro e w10 ⟨A10, n10, c10, rfl, o10, hb10⟩
  have hl10 : n10 = 55 := by
    have h1 := o10.len
    have h2 := HL4.out
    simp [joined] at h1
    omega
  have hr10 := hr9.below hb10
  have hB10 := hB9.trans (hb10.mono hB9.size)
  clear hg o10 hb10 hr9 hB9
  subst hl10
  go_wp2_with fail
  refine (hparse_len _ 55 _ _ (by omega)).mono ?_
  rintro e w11 ⟨rfl, hb11⟩
  have hA12 : Below w11.heap.size w11 (w11.alloc (.cells (hdC hd0) 28)) := (Below.refl _ _).alloc (Nat.le_refl _) _
  have hr12 := (hr10.below hb11).below hA12
  have hB12' := hB10.trans (hb11.mono hB10.size)
  have hB12 := hB12'.trans (hA12.mono hB12'.size)
  simp only [hdC, hd0] at hr12 hB12
  clear hr10 hB10 hb11 hA12 hB12'
  simp only [hd0]
  go_upto_region 9 with fail
  generalize w11.alloc _ = w12 at *
  have HRR := Lib.hid (rright5_any _ 54 k3 L' w12 hr12 HB4.out)
  rcases Hev.out with ⟨hR, rfl⟩ | ⟨hR, rfl⟩
  all_goals
    rw [hR] at HRR
    clear hR Hev
    go_wp2_with fail
    refine HRR.out.mono ?_
    rintro e w13 ⟨rfl, q, rfl⟩
    have hB13 := below_drewN hB12 q
    go_wp2
    go_ret
    exact ⟨rfl, hB13⟩

end Go.Proofs.Ytmpicokeenodbaa
