/- The law SegBuilds. -/
import Derived.Test.YthkaeimpflggjaaRise9
import Derived.Test.YthkaeimpflggjaaSegN
import Derived.Test.YthkaeimpflggjaaGlyM
import Derived.Test.YthkaeimpflggjaaLSegA
namespace Go.Proofs.Ythkaeimpflggjaa
open Go.RowKit
set_option linter.unusedVariables false

theorem atP9 {w : World} {A : Option Addr} {n : Nat} {l : List Pr} {j : Nat} {p : Pr} (h : RowS encP 2 w A n l) (hj : l[j]? = some p) :
    ∃ g off, A = some ⟨g, off, none⟩ ∧ g < w.heap.size ∧ w.cell? ⟨g, off + j * 2, none⟩ = some (.int .i32 p.code) ∧ w.cell? ⟨g, off + j * 2 + 1, none⟩ = some (.int .u16 p.glyph) := by
  obtain ⟨g, off, e, hg, hc⟩ := h.at encP_len (by omega) hj
  exact ⟨g, off, e, hg, hc 0 _ rfl, hc 1 _ rfl⟩

/-- A map in a box, and pairs. -/
structure BLS (w wr : World) (bx : Nat) (A2 : Option Addr) (N c2 : Nat) (zs : List Int) (g : Nat) (A1 : Option Addr) (m : Nat) (l : List Pr) : Prop where
  b : BoxS w wr bx A2 N c2 zs g
  row : RowS encP 2 wr A1 m l
theorem BLS.below {w wr w' : World} {bx : Nat} {A2 : Option Addr} {N c2 : Nat} {zs : List Int} {g : Nat} {A1 : Option Addr} {m : Nat} {l : List Pr} (h : BLS w wr bx A2 N c2 zs g A1 m l) (hb : Below wr.heap.size wr w') : BLS w w' bx A2 N c2 zs g A1 m l := ⟨h.b.below hb, h.row.below hb⟩

set_option maxRecDepth 100000 in
set_option maxHeartbeats 4000000 in
theorem law_SegBuilds (A0 : Option Addr) (n0 c0 : Nat) (z0 : List Int) (A1 : Option Addr) (n1 c1 : Nat) (z1 : List Int) (code : Int) (w : World) (hr0 : Row w A0 n0 (cellsOf .u16 z0)) (hW0 : Wf .u16 z0) (hn0 : n0 ≤ 9223372036854775807)
    (hr1 : Row w A1 n1 (cellsOf .u16 z1)) (hW1 : Wf .u16 z1) (hn1 : n1 ≤ 9223372036854775807) (k0 : -2147483648 ≤ code) (k1 : code ≤ 2147483647) :
    Calls Try.prog 6 #[.slice A0 n0 c0, .slice A1 n1 c1, .int .i32 code] w (True_ w) := by
  go_enter Try.func6, Try.ntmps6
  go_wp2_with fail
  with_reducible refine (awake09_any w).mono ?_
  rintro e w0 ⟨rfl, hb0⟩
  have HRi := Lib.hid (rising09_any A0 n0 c0 z0 A1 n1 c1 z1 w0 (hr0.below hb0) hW0 hn0 (hr1.below hb0) hW1 hn1)
  clear hr0 hW0 hn0 hr1 hW1 hn1
  go_wp2_with fail
  with_reducible refine HRi.out.mono ?_
  rintro e w1 ⟨l, B1, B2, d1, d2, m, rfl, hT, hm40, hPG, hris⟩
  have hb1 := hb0.trans (hT.bel.mono hb0.size)
  have hlen := hT.o1.len
  obtain ⟨e0, e1, e2, e3, e4, e5⟩ := sOut_right hPG hris (by omega)
  have HG := Lib.hid (sbuild_any B1 m d1 l w1 (hT.o1.row encP_len) (by omega) hPG)
  have hrl := hT.o1.row encP_len
  have hrq := hT.o2.row encQ_len
  have hrn := runsF_len folS l
  have Hris := Lib.hid hris
  have HPG := Lib.hid hPG
  have Hlook := Lib.hid e3
  have HokQ : Hid (∀ p ∈ l, 0 ≤ p.code ∧ p.code ≤ 65534 ∧ 0 ≤ p.glyph ∧ p.glyph ≤ 65535) := fun p hp => by
    have a1 := risesF_mem Hris.out p hp
    have a2 := HPG.out p hp
    omega
  have HE0 := Lib.hid e0
  clear hT hb0 HRi hris hPG e0 e3
  go_wp2_with fail
  with_reducible refine HG.out.mono ?_
  rintro e w2 ⟨Az, nz, cz, rfl, hownz, hbz⟩
  have hlz := hownz.len
  have hb2 := hb1.trans (hbz.mono hb1.size)
  have HP := Lib.hid (sparse_any Az nz cz _ w2 hownz.row e4 (by omega) hownz.cap)
  have hrz := hownz.row
  replace hrl := hrl.below hbz
  replace hrq := hrq.below hbz
  clear hownz HG hbz hb1
  go_wp2_with fail
  with_reducible refine HP.out.mono ?_
  rintro e w3 ⟨hb3', ⟨hf, _⟩ | ⟨_, A2, c2, g2, rfl, hown2, hnum2⟩⟩
  · rw [e1] at hf; cases hf
  have hm := SMap.of e4 e1 hown2 hnum2
  rw [e2] at hm ⊢
  have hb3 := hb2.trans (hb3'.mono hb2.size)
  replace hrz := hrz.below hb3'
  replace hrl := hrl.below hb3'
  replace hrq := hrq.below hb3'
  rw [e5] at hlz
  clear HP hown2 hnum2 hb3' hb2 e1 e2 e4 e5
  unfold smV
  have HRu : Hid (∀ W, RowS encQ 2 W B2 m l → Calls Try.prog 29 #[.slice B2 m d2] W (Ret W (.int .i64 (runsF folS l).length))) := fun W h => rruns9_any B2 m d2 l W h (by omega) HokQ.out
  generalize hN : (runsF folS l).length = M at *
  have hA : Below w3.heap.size w3 (w3.alloc (.cells #[.slice A2 (M + 1) c2] 59)) := (Below.refl _ _).alloc (Nat.le_refl _) _
  have hs : BLS w (w3.alloc (.cells #[.slice A2 (M + 1) c2] 59)) w3.heap.size A2 (M + 1) c2 (sOut l) g2 B1 m l := ⟨⟨heap_alloc_new w3 _, hm.below hA, hb3.trans (hA.mono hb3.size)⟩, hrl.below hA⟩
  replace hrz := hrz.below hA
  replace hrq := hrq.below hA
  have HGr := Lib.hid (fun W => ssegments_any A2 (M + 1) c2 W)
  unfold smV at HGr
  have HRB := Lib.hid (rbuild9_any B2 m d2 l _ hrq (by omega) HokQ.out)
  rw [← HE0.out] at HRB
  clear hm hb3 hrl hA hN HokQ
  go_wp2_with fail
  with_reducible refine HRB.out.mono ?_
  rintro e w4 ⟨Ay, ny, cy, rfl, howny, hb4⟩
  generalize w3.heap.size = bx at *
  replace hs := hs.below hb4
  replace hrz := hrz.below hb4
  replace hrq := hrq.below hb4
  have hly := howny.len
  have HSm := Lib.hid (same_any Az Ay nz cz ny cy _ _ w4 hrz howny.row (by omega) (by have := hrz.len; omega))
  rw [sameB_refl] at HSm
  clear hb4 hrz howny HRB
  go_wp2_with fail
  with_reducible refine HSm.out.mono ?_
  rintro e w5 ⟨rfl, q5, hw5⟩
  have hb5 : Below w4.heap.size w4 w5 := by rw [hw5]; exact below_drewN (Below.refl _ _) q5
  replace hs := hs.below hb5
  replace hrq := hrq.below hb5
  have kb := hs.b.cell
  clear HSm hw5 hb5
  have eN : ((M : Int) + 1 != (M : Int) + 1) = false := by simp
  have eN2 : (((M + 1 : Nat) : Int) != (M : Int) + 1) = false := by simp
  go_wp2_with fail
  with_reducible refine (HGr.out _).mono ?_
  rintro e w6 ⟨rfl, hb6⟩
  replace hs := hs.below hb6
  replace hrq := hrq.below hb6
  clear hb6 HGr kb
  go_wp2_with fail
  with_reducible refine (HRu.out _ hrq).mono ?_
  rintro e w7 ⟨rfl, hb7⟩
  replace hs := hs.below hb7
  clear hb7 HRu hrq
  have HLk : Hid (∀ (W : World) (c : Int), BLS w W bx A2 (M + 1) c2 (sOut l) g2 B1 m l → -2147483648 ≤ c → c ≤ 2147483647 → Calls Try.prog 30 #[.agg #[.slice A2 (M + 1) c2], .int .i32 c] W (Ret W (.int .u16 (glyphOf c l)))) := fun W c h a b => h.b.look (by omega) c _ (Hlook.out c) a b
  clear Hlook HE0
  generalize sOut l = zs at *
  go_wp2
  clear eN eN2
  have Hlen := Lib.hid hlen
  go_loopw [12, 49] (fun v i wr => ∃ k : Nat, k ≤ m ∧ i = .int .i64 k ∧ v = .int .u16 (glyphOf code (l.take k)) ∧ BLS w wr bx A2 (M + 1) c2 zs g2 B1 m l) (fun _ i _ => m - (intOf i).toNat)
  case atStart => exact ⟨0, Nat.zero_le _, rfl, rfl, hs⟩
  case round =>
    clear hs
    obtain ⟨k, hk, rfl, rfl, hs⟩ := hrel
    by_cases hlt : k < m
    · obtain ⟨y, hy⟩ := getP (l := l) (j := k) (by omega)
      obtain ⟨g, off, rfl, hg, q0, q1⟩ := atP9 hs.row hy
      have hyr := risesF_mem Hris.out y (List.mem_of_getElem? hy)
      have hyg := HPG.out y (List.mem_of_getElem? hy)
      have HV := Lib.hid (glyphOf_mem Hris.out hy)
      have HT1 : Hid (y.code = code → glyphOf code (l.take (k + 1)) = y.glyph) := fun h => glyphOf_this Hris.out hy h
      have HT2 : Hid (y.code ≠ code → glyphOf code (l.take (k + 1)) = glyphOf code (l.take k)) := fun h => by rw [take_snoc hy, glyphOf_other h]
      clear hy
      have hA := (Below.refl wr.heap.size wr).alloc (Nat.le_refl _) (.cells #[.int .i32 y.code, .int .u16 y.glyph] 67)
      replace hs := hs.below hA
      have x0 : (wr.alloc (.cells #[.int .i32 y.code, .int .u16 y.glyph] 67)).cell? ⟨wr.heap.size, 0, none⟩ = some (.int .i32 y.code) := cell_of_row _ _ 0 _ _ _ (heap_alloc_new wr _)
      have x1 : (wr.alloc (.cells #[.int .i32 y.code, .int .u16 y.glyph] 67)).cell? ⟨wr.heap.size, 1, none⟩ = some (.int .u16 y.glyph) := cell_of_row _ _ 1 _ _ _ (heap_alloc_new wr _)
      have xb := hs.b.cell
      have HC : Hid (∀ n os, Calls Try.prog 30 #[.agg #[.slice A2 (M + 1) c2], .int .i32 y.code] (gw (wr.alloc (.cells #[.int .i32 y.code, .int .u16 y.glyph] 67)) n os) (Ret (gw (wr.alloc (.cells #[.int .i32 y.code, .int .u16 y.glyph] 67)) n os) (.int .u16 y.glyph))) := by
        show ∀ _ _, _
        intro n os
        have h := HLk.out _ y.code (hs.below (gw_below _ n os)) (by omega) (by omega)
        rw [HV.out] at h
        exact h
      clear hA HV
      obtain ⟨yc, yg⟩ := y
      simp only at *
      have eg : (yg != yg) = false := by simp
      go_wp2_with fail
      generalize wr.alloc (.cells #[.int .i32 yc, .int .u16 yg] 67) = V at *
      generalize wr.heap.size = by_ at *
      have X0 := gw_cell x0
      have X1 := gw_cell x1
      have XB := gw_cell xb
      refine region_below (by kernel_rfl) (by kernel_rfl) ?_
      repeat (first | go_big_quiet_step (first | (go_at_call 30; exact calls_gw (HC.out _ _))) | quiet_step (first | (go_at_call 30; exact calls_gw (HC.out _ _))))
      refine wpQuiet_nil ?_
      rintro _ ⟨z, rfl⟩
      have y0 := X0 z.n z.os
      have y1 := X1 z.n z.os
      replace hs := hs.below (gw_below V z.n z.os)
      clear X0 X1 XB HC x0 x1 xb q0 q1
      generalize gw V z.n z.os = U at *
      by_cases hc : yc = code
      · have ec : (yc == code) = true := by simp [hc]
        have HT := Lib.hid (HT1.out hc)
        clear HT1 HT2 hc
        go_wp2
        go_roundw
        case rel => exact ⟨k + 1, by omega, by go_num, by rw [HT.out], hs⟩
        case measure => simp [intOf]; omega
      · have ec : (yc == code) = false := by simp [hc]
        have HT := Lib.hid (HT2.out hc)
        clear HT1 HT2 hc
        go_wp2
        go_roundw
        case rel => exact ⟨k + 1, by omega, by go_num, by rw [HT.out], hs⟩
        case measure => simp [intOf]; omega
    · have HE : Hid (glyphOf code (l.take k) = glyphOf code l) := by show _ = _; rw [List.take_of_length_le (by omega)]
      have H1 : Hid (glyphOf (-1) l = 0) := glyphOf_none Hris.out (.inl (by omega))
      have H2 : Hid (glyphOf 65535 l = 0) := glyphOf_none Hris.out (.inr (by omega))
      have H3 : Hid (glyphOf 65536 l = 0) := glyphOf_none Hris.out (.inr (by omega))
      have HA1 := Lib.hid (fun W h => HLk.out W (-1) h (by omega) (by omega))
      have HA2 := Lib.hid (fun W h => HLk.out W 65535 h (by omega) (by omega))
      have HA4 := Lib.hid (fun W h => HLk.out W 65536 h (by omega) (by omega))
      have HA3 := Lib.hid (fun W h => HLk.out W code h k0 k1)
      rw [H1.out] at HA1
      rw [H2.out] at HA2
      rw [H3.out] at HA4
      rw [HE.out]
      have kb := hs.b.cell
      have ev : (glyphOf code l == glyphOf code l) = true := by simp
      clear HLk H1 H2 H3 HE Hris HPG
      generalize glyphOf code l = gv at *
      go_wp2_with (go_at_call 30; (first | (with_reducible refine (HA3.out _ hs).mono ?_) | (with_reducible refine (HA1.out _ hs).mono ?_) | (with_reducible refine (HA2.out _ hs).mono ?_) | (with_reducible refine (HA4.out _ hs).mono ?_)); rintro e wn ⟨rfl, hbn⟩; replace hs := hs.below hbn; replace kb := hs.b.cell; clear hbn)
      go_ret
      exact ⟨rfl, hs.b.bel⟩

end Go.Proofs.Ythkaeimpflggjaa
