/- The law GroupAgrees. -/
import Derived.Test.YtboholphcpfmlaaLGrpB
import Derived.Test.YtboholphcpfmlaaLSegA
namespace Go.Proofs.Ytboholphcpfmlaa
open Go.RowKit
set_option linter.unusedVariables false

def isSmall (p : Pr) : Bool := decide (p.code < 65535)
theorem risesF_mono {most : Int} : ∀ {l : List Pr} {a b : Int}, a ≤ b → risesF most b l = true → risesF most a l = true
  | [], _, _, _, _ => rfl
  | p :: r, a, b, hab, h => by
    obtain ⟨h1, h2, h3⟩ := risesF_cons h
    rw [risesF, h3, Bool.and_true, decide_eq_true_eq]
    omega
theorem risesF_small {most : Int} : ∀ {l : List Pr} {ah : Int}, risesF most ah l = true → risesF 65534 ah (l.filter isSmall) = true
  | [], _, _ => rfl
  | p :: r, ah, h => by
    obtain ⟨h1, h2, h3⟩ := risesF_cons h
    have ih := risesF_small h3
    rw [List.filter_cons]
    split
    · rename_i hs
      unfold isSmall at hs
      simp at hs
      rw [risesF, ih, Bool.and_true, decide_eq_true_eq]
      omega
    · exact risesF_mono (by omega) ih
theorem risesF_weak {m m' : Int} (h : m ≤ m') : ∀ {l : List Pr} {ah : Int}, risesF m ah l = true → risesF m' ah l = true
  | [], _, _ => rfl
  | p :: r, ah, hr => by
    obtain ⟨h1, h2, h3⟩ := risesF_cons hr
    rw [risesF, risesF_weak h h3, Bool.and_true, decide_eq_true_eq]
    omega

/-- Two maps in boxes, and pairs. -/
structure AG (w wr : World) (b1 : Nat) (A1 : Option Addr) (N1 c1 : Nat) (rs : List Rn) (b2 : Nat) (A2 : Option Addr) (N2 c2 : Nat) (zs : List Int) (g2 : Nat) (A : Option Addr) (m : Nat) (l : List Pr) : Prop where
  g : BoxG w wr b1 A1 N1 c1 rs
  s : BoxS w wr b2 A2 N2 c2 zs g2
  row : RowS encP 2 wr A m l
theorem AG.below {w wr w' : World} {b1 : Nat} {A1 : Option Addr} {N1 c1 : Nat} {rs : List Rn} {b2 : Nat} {A2 : Option Addr} {N2 c2 : Nat} {zs : List Int} {g2 : Nat} {A : Option Addr} {m : Nat} {l : List Pr} (h : AG w wr b1 A1 N1 c1 rs b2 A2 N2 c2 zs g2 A m l) (hb : Below wr.heap.size wr w') : AG w w' b1 A1 N1 c1 rs b2 A2 N2 c2 zs g2 A m l := ⟨h.g.below hb, h.s.below hb, h.row.below hb⟩

set_option maxRecDepth 100000 in
set_option maxHeartbeats 4000000 in
theorem law_GroupAgrees (A0 : Option Addr) (n0 c0 : Nat) (z0 : List Int) (A1 : Option Addr) (n1 c1 : Nat) (z1 : List Int) (code : Int) (w : World) (hr0 : Row w A0 n0 (cellsOf .u32 z0)) (hW0 : Wf .u32 z0) (hn0 : n0 ≤ 9223372036854775807)
    (hr1 : Row w A1 n1 (cellsOf .u16 z1)) (hW1 : Wf .u16 z1) (hn1 : n1 ≤ 9223372036854775807) (k0 : -2147483648 ≤ code) (k1 : code ≤ 2147483647) :
    Calls Try.prog 12 #[.slice A0 n0 c0, .slice A1 n1 c1, .int .i32 code] w (True_ w) := by
  obtain ⟨i0, hi, hz0, hz1, hz2⟩ := info_parts Try.pairinfo
  go_enter Try.func12, Try.ntmps12
  go_wp2_with fail
  with_reducible refine (awake10_any w).mono ?_
  rintro e w0 ⟨rfl, hb0⟩
  have HRi := Lib.hid (rising10_any A0 n0 c0 z0 A1 n1 c1 z1 w0 (hr0.below hb0) hW0 hn0 (hr1.below hb0) hW1 hn1)
  clear hr0 hW0 hn0 hr1 hW1 hn1
  go_wp2_with fail
  with_reducible refine HRi.out.mono ?_
  rintro e w1 ⟨l, B1, B2, d1, d2, m, rfl, hT, hm40, hPG, hris⟩
  have hb1 := Lib.hid (hb0.trans (hT.bel.mono hb0.size))
  have hlen := hT.o1.len
  have hrl := hT.o1.row encP_len
  have HPG := Lib.hid hPG
  have Hris := Lib.hid hris
  clear hT hb0 HRi hris hPG
  go_wp2
  go_loopw [9, 28] (fun v i wr => ∃ (k ms : Nat) (As : Option Addr) (cs : Nat), k ≤ m ∧ i = .int .i64 k ∧ v = .slice As ms cs ∧ OwnS 42 encP 2 wr w1.heap.size As ms cs ((l.take k).filter isSmall) ∧ Below w1.heap.size w1 wr) (fun _ i _ => m - (intOf i).toNat)
  case atStart => exact ⟨0, 0, none, 0, Nat.zero_le _, rfl, rfl, OwnS.nil _ _ _ _ _, Below.refl _ _⟩
  case round =>
    obtain ⟨k, ms, As, cs, hk, rfl, rfl, hown, hb⟩ := hrel
    have hms : ms ≤ k := by have h1 := hown.len; have h2 := List.length_filter_le isSmall (l.take k); rw [List.length_take] at h2; omega
    by_cases hlt : k < m
    · obtain ⟨y, hy⟩ := getP (l := l) (j := k) (by omega)
      obtain ⟨g, off, rfl, hg, q0, q1⟩ := atP (hrl.below hb) hy
      have HT : Hid ((l.take (k + 1)).filter isSmall = (l.take k).filter isSmall ++ if isSmall y then [y] else []) := by
        show _ = _
        rw [take_snoc hy, List.filter_append, List.filter_cons]
        rfl
      have HS : Hid (isSmall y = decide (y.code < 65535)) := rfl
      have hA := (Below.refl wr.heap.size wr).alloc (Nat.le_refl _) (.cells #[.int .i32 y.code, .int .u16 y.glyph] 42)
      have hown1 := hown.below hA
      have hbA := hb.trans (hA.mono hb.size)
      clear hy hown hA hb
      obtain ⟨yc, yg⟩ := y
      simp only at *
      by_cases hs : yc < 65535
      · have HT2 : Hid ((l.take (k + 1)).filter isSmall = (l.take k).filter isSmall ++ [⟨yc, yg⟩]) := by show _ = _; rw [HT.out, HS.out, decide_eq_true hs]; rfl
        clear HT HS
        have hsz := hbA.size
        have hsz' : w1.heap.size ≤ wr.heap.size + 1 := by simpa using hsz
        go_wp2_with (at_builtin; refine wpList_append_rowS rfl (.tmp 35) (.tmp 37) _ rfl 42 encP 2 encP_len (by omega) encP_one w1.heap.size i0 _ 8 Try.underlying24 hi hz0 hz1 rfl hz2 _ ms cs _ rfl (hown1.alloc _) (some ⟨wr.heap.size + 1, 0, none⟩) 1 1 [⟨yc, yg⟩] rfl (rowS_at encP_len (wr.alloc (.cells #[.int .i32 yc, .int .u16 yg] 42)) (wr.heap.size + 1) (by simp) 42 [⟨yc, yg⟩] _ rfl 1 rfl) (by omega) (by omega) (by simp; omega) ?_; intro A6 c6 w6 ho6 hg6)
        go_roundw
        case rel => exact ⟨k + 1, ms + 1, A6, c6, by omega, by go_num, rfl, by rw [HT2.out]; exact ho6, (hbA.alloc hbA.size _).grown hg6 (hbA.alloc hbA.size _).size (fun q e => (hown1.from_ q e).1)⟩
        case measure => simp [intOf]; omega
      · have HT2 : Hid ((l.take (k + 1)).filter isSmall = (l.take k).filter isSmall) := by show _ = _; rw [HT.out, HS.out, decide_eq_false hs]; simp
        go_wp2
        go_roundw
        case rel => exact ⟨k + 1, ms, As, cs, by omega, by go_num, rfl, by rw [HT2.out]; exact hown1, hbA⟩
        case measure => simp [intOf]; omega
    · have HE : Hid ((l.take k).filter isSmall = l.filter isSmall) := by show _ = _; rw [List.take_of_length_le (by omega)]
      rw [HE.out] at hown
      have hsr : risesF 65534 (-1) (l.filter isSmall) = true := risesF_small Hris.out
      have hsg : PrG (l.filter isSmall) := fun p hp => HPG.out p (List.mem_filter.1 hp).1
      have hbw := hb1.out.trans (hb.mono hb1.out.size)
      have hlk := hown.len
      clear HE HPG Hris hrl hb hb1
      generalize l.filter isSmall = s at *
      obtain ⟨e0, e1, e2, e3, e4, e5⟩ := gOut_right hsg (risesF_weak (by omega) hsr) (by omega)
      obtain ⟨f0, f1, f2, f3, f4, f5⟩ := sOut_right hsg hsr (by omega)
      have hrg := runsF_len folG s
      have hrs := runsF_len folS s
      have HG := Lib.hid (gbuild_any As ms cs s wr (hown.row encP_len) (by omega) hsg)
      have hrow := hown.row encP_len
      have HLG : Hid (∀ c, lookR (runsF folG s) c = glyphOf c s) := fun c => lookG_runs 65534 c s (-1) hsg hsr
      have Hmem := Lib.hid (fun p (hp : p ∈ s) => risesF_mem hsr p hp)
      have HSB := Lib.hid (fun (W : World) (h : RowS encP 2 W As ms s) => sbuild_any As ms cs s W h (by omega) hsg)
      clear hown e0 f0
      go_wp2_with fail
      with_reducible refine HG.out.mono ?_
      rintro e w2 ⟨Az, nz, cz, rfl, hownz, hbz⟩
      have hlz := hownz.len
      replace hbw := hbw.trans (hbz.mono hbw.size)
      replace hrow := hrow.below hbz
      have HP := Lib.hid (gparse_any Az nz cz _ w2 hownz.row e4 (by omega) hownz.cap)
      clear hownz HG hbz
      go_wp2_with fail
      with_reducible refine HP.out.mono ?_
      rintro e w3 ⟨hb3, ⟨hf, _⟩ | ⟨_, A2, c2, rfl, hown2⟩⟩
      · rw [e1] at hf; cases hf
      have hm := GMap.of e4 e1 hown2
      rw [e3] at hm
      rw [e2] at hm ⊢
      replace hbw := hbw.trans (hb3.mono hbw.size)
      replace hrow := hrow.below hb3
      clear HP hown2 hb3 e1 e2 e3 e4 e5 hlz
      unfold gmV
      generalize hN1 : (runsF folG s).length = N1 at *
      have hA : Below w3.heap.size w3 (w3.alloc (.cells #[.slice A2 N1 c2] 63)) := (Below.refl _ _).alloc (Nat.le_refl _) _
      have hsg1 : BoxG w (w3.alloc (.cells #[.slice A2 N1 c2] 63)) w3.heap.size A2 N1 c2 (runsF folG s) := ⟨heap_alloc_new w3 _, hm.below hA, hbw.trans (hA.mono hbw.size)⟩
      replace hrow := hrow.below hA
      clear hm hbw hA hN1
      have HS1 := Lib.hid (HSB.out _ hrow)
      clear HSB
      go_wp2_with fail
      with_reducible refine HS1.out.mono ?_
      rintro e w4 ⟨Ay, ny, cy, rfl, howny, hb4⟩
      have hly := howny.len
      replace hsg1 := hsg1.below hb4
      replace hrow := hrow.below hb4
      have HP2 := Lib.hid (sparse_any Ay ny cy _ w4 howny.row f4 (by omega) howny.cap)
      clear howny HS1 hb4
      generalize w3.heap.size = b1 at *
      go_wp2_with fail
      with_reducible refine HP2.out.mono ?_
      rintro e w5 ⟨hb5, ⟨hf, _⟩ | ⟨_, A3, c3, g3, rfl, hown3, hnum3⟩⟩
      · rw [f1] at hf; cases hf
      have hm3 := SMap.of f4 f1 hown3 hnum3
      rw [f2] at hm3 ⊢
      replace hsg1 := hsg1.below hb5
      replace hrow := hrow.below hb5
      clear HP2 hown3 hnum3 hb5 f1 f2 f4 f5 hly
      unfold smV
      have HF3 := Lib.hid f3
      have hN2b : (runsF folS s).length + 1 ≤ 100 := by omega
      generalize (runsF folS s).length + 1 = N2 at *
      have hA5 : Below w5.heap.size w5 (w5.alloc (.cells #[.slice A3 N2 c3] 32)) := (Below.refl _ _).alloc (Nat.le_refl _) _
      have hs : AG w (w5.alloc (.cells #[.slice A3 N2 c3] 32)) b1 A2 N1 c2 (runsF folG s) w5.heap.size A3 N2 c3 (sOut s) g3 As ms s := ⟨hsg1.below hA5, ⟨heap_alloc_new w5 _, hm3.below hA5, hsg1.bel.trans (hA5.mono hsg1.bel.size)⟩, hrow.below hA5⟩
      clear hsg1 hm3 hrow hA5 f3
      go_wp2
      generalize w5.heap.size = b2_ at *
      have HG2 : Hid (∀ (W : World) (c : Int), AG w W b1 A2 N1 c2 (runsF folG s) b2_ A3 N2 c3 (sOut s) g3 As ms s → -2147483648 ≤ c → c ≤ 2147483647 → Calls Try.prog 37 #[.agg #[.slice A2 N1 c2], .int .i32 c] W (Ret W (.int .u16 (glyphOf c s)))) := fun W c h a b => HLG.out c ▸ h.g.map.look (by omega) c a b
      have HS2 : Hid (∀ (W : World) (c : Int), AG w W b1 A2 N1 c2 (runsF folG s) b2_ A3 N2 c3 (sOut s) g3 As ms s → -2147483648 ≤ c → c ≤ 2147483647 → Calls Try.prog 23 #[.agg #[.slice A3 N2 c3], .int .i32 c] W (Ret W (.int .u16 (glyphOf c s)))) := fun W c h a b => h.s.look (by omega) c _ (HF3.out c) a b
      clear HLG HF3
      generalize runsF folG s = rs at *
      generalize sOut s = zs at *
      go_loopw [60] (fun i wr => ∃ k : Nat, k ≤ ms ∧ i = .int .i64 k ∧ AG w wr b1 A2 N1 c2 rs b2_ A3 N2 c3 zs g3 As ms s) (fun i _ => ms - (intOf i).toNat)
      case atStart => exact ⟨0, Nat.zero_le _, rfl, hs⟩
      case round =>
        clear hs
        obtain ⟨k', hk', rfl, hs⟩ := hrel
        by_cases hlt' : k' < ms
        · obtain ⟨y, hy⟩ := getP (l := s) (j := k') (by omega)
          obtain ⟨g, off, rfl, hg, q0, q1⟩ := atP hs.row hy
          have hyr := Hmem.out y (List.mem_of_getElem? hy)
          clear hy
          have hA := (Below.refl wr.heap.size wr).alloc (Nat.le_refl _) (.cells #[.int .i32 y.code, .int .u16 y.glyph] 42)
          replace hs := hs.below hA
          have x0 : (wr.alloc (.cells #[.int .i32 y.code, .int .u16 y.glyph] 42)).cell? ⟨wr.heap.size, 0, none⟩ = some (.int .i32 y.code) := cell_of_row _ _ 0 _ _ _ (heap_alloc_new wr _)
          have xg := hs.g.cell
          have xs := hs.s.cell
          clear hA
          obtain ⟨yc, yg⟩ := y
          simp only at *
          have W1 : IntKind.i32.wrap (yc + 1) = yc + 1 := IntWalk.i32_in _ (by omega)
          have u1 : (glyphOf yc s != glyphOf yc s) = false := by simp
          have u2 : (glyphOf (yc + 1) s != glyphOf (yc + 1) s) = false := by simp
          have C1 : Hid (∀ n os, Calls Try.prog 37 #[.agg #[.slice A2 N1 c2], .int .i32 yc] (gw (wr.alloc (.cells #[.int .i32 yc, .int .u16 yg] 42)) n os) (Ret (gw (wr.alloc (.cells #[.int .i32 yc, .int .u16 yg] 42)) n os) (.int .u16 (glyphOf yc s)))) := fun n os => HG2.out _ yc (hs.below (gw_below _ n os)) (by omega) (by omega)
          have C2 : Hid (∀ n os, Calls Try.prog 23 #[.agg #[.slice A3 N2 c3], .int .i32 yc] (gw (wr.alloc (.cells #[.int .i32 yc, .int .u16 yg] 42)) n os) (Ret (gw (wr.alloc (.cells #[.int .i32 yc, .int .u16 yg] 42)) n os) (.int .u16 (glyphOf yc s)))) := fun n os => HS2.out _ yc (hs.below (gw_below _ n os)) (by omega) (by omega)
          have C3 : Hid (∀ n os, Calls Try.prog 37 #[.agg #[.slice A2 N1 c2], .int .i32 (yc + 1)] (gw (wr.alloc (.cells #[.int .i32 yc, .int .u16 yg] 42)) n os) (Ret (gw (wr.alloc (.cells #[.int .i32 yc, .int .u16 yg] 42)) n os) (.int .u16 (glyphOf (yc + 1) s)))) := fun n os => HG2.out _ (yc + 1) (hs.below (gw_below _ n os)) (by omega) (by omega)
          have C4 : Hid (∀ n os, Calls Try.prog 23 #[.agg #[.slice A3 N2 c3], .int .i32 (yc + 1)] (gw (wr.alloc (.cells #[.int .i32 yc, .int .u16 yg] 42)) n os) (Ret (gw (wr.alloc (.cells #[.int .i32 yc, .int .u16 yg] 42)) n os) (.int .u16 (glyphOf (yc + 1) s)))) := fun n os => HS2.out _ (yc + 1) (hs.below (gw_below _ n os)) (by omega) (by omega)
          generalize glyphOf yc s = v1 at *
          generalize glyphOf (yc + 1) s = v2 at *
          go_wp2_with fail
          generalize wr.alloc (.cells #[.int .i32 yc, .int .u16 yg] 42) = V at *
          generalize wr.heap.size = by_ at *
          have X0 := gw_cell x0
          have XG := gw_cell xg
          have XS := gw_cell xs
          refine region_below (by kernel_rfl) (by kernel_rfl) ?_
          repeat (first | go_big_quiet_step (first | (go_at_call 37; (first | (with_reducible exact calls_gw (C1.out _ _)) | (with_reducible exact calls_gw (C3.out _ _)))) | (go_at_call 23; (first | (with_reducible exact calls_gw (C2.out _ _)) | (with_reducible exact calls_gw (C4.out _ _))))) | quiet_step (first | (go_at_call 37; (first | (with_reducible exact calls_gw (C1.out _ _)) | (with_reducible exact calls_gw (C3.out _ _)))) | (go_at_call 23; (first | (with_reducible exact calls_gw (C2.out _ _)) | (with_reducible exact calls_gw (C4.out _ _))))))
          refine wpQuiet_nil ?_
          rintro _ ⟨z, rfl⟩
          replace hs := hs.below (gw_below V z.n z.os)
          clear X0 XG XS C1 C2 C3 C4 x0 xg xs q0 q1
          generalize gw V z.n z.os = U at *
          go_wp2
          go_roundw
          case rel => exact ⟨k' + 1, by omega, by go_num, hs⟩
          case measure => simp [intOf]; omega
        · have xg := hs.g.cell
          have xs := hs.s.cell
          have u1 : (glyphOf code s == glyphOf code s) = true := by simp
          have C1 : Hid (∀ n os, Calls Try.prog 37 #[.agg #[.slice A2 N1 c2], .int .i32 code] (gw wr n os) (Ret (gw wr n os) (.int .u16 (glyphOf code s)))) := fun n os => HG2.out _ code (hs.below (gw_below _ n os)) k0 k1
          have C2 : Hid (∀ n os, Calls Try.prog 23 #[.agg #[.slice A3 N2 c3], .int .i32 code] (gw wr n os) (Ret (gw wr n os) (.int .u16 (glyphOf code s)))) := fun n os => HS2.out _ code (hs.below (gw_below _ n os)) k0 k1
          clear HG2 HS2
          generalize glyphOf code s = v1 at *
          go_wp2_with fail
          have XG := gw_cell xg
          have XS := gw_cell xs
          refine region_below (by kernel_rfl) (by kernel_rfl) ?_
          repeat (first | go_big_quiet_step (first | (go_at_call 37; exact calls_gw (C1.out _ _)) | (go_at_call 23; exact calls_gw (C2.out _ _))) | quiet_step (first | (go_at_call 37; exact calls_gw (C1.out _ _)) | (go_at_call 23; exact calls_gw (C2.out _ _))))
          refine wpQuiet_nil ?_
          rintro _ ⟨z, rfl⟩
          replace hs := hs.below (gw_below wr z.n z.os)
          go_wp2
          go_ret
          exact ⟨rfl, hs.g.bel⟩

end Go.Proofs.Ytboholphcpfmlaa
