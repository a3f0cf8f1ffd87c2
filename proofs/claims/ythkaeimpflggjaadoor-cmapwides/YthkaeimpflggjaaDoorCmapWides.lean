/- Codes beyond ffff are found in wide tables alone, below it both kinds tell the same: the law CmapWides is true. No condition on the arguments; the variable punchcut/cmap.ranked holds what the program's own text lays there (the card ties it to the program). -/
import Derived.Test.YthkaeimpflggjaaDoorRows
import Derived.Test.YthkaeimpflggjaaDoorCards
import Derived.Test.YthkaeimpflggjaaDoorTie
import Derived.SevenTiedAt
import Derived.LaidMore
import Derived.Stop.Joined
import Derived.WalkKit
import Derived.ProofKit
import Derived.OpenShut
import Derived.ShutString
import Derived.ChangeOld
import Derived.Below
import Derived.Lib.SmallJoins
import Derived.Test.YthkaeimpflggjaaDoorBase2
import Derived.Test.YthkaeimpflggjaaDoorBase6
import Derived.Test.YthkaeimpflggjaaDoorBase9

namespace Go.Proofs.YthkaeimpflggjaaDoor
open Go.RowKit
set_option linter.unusedVariables false

theorem risesF_last {most : Int} : ∀ {l : List Pr} {ah : Int}, risesF most ah l = true → ah ≤ most → lastC ah l ≤ most
  | [], _, _, h => h
  | p :: r, ah, h, _ => by
    obtain ⟨_, h2, h3⟩ := risesF_cons h
    exact risesF_last (l := r) (ah := p.code) h3 h2
theorem far_rises {l : List Pr} {x g : Int} (h : risesF 65534 (-1) l = true) (x0 : 65536 ≤ x) (x1 : x ≤ 1114111) : risesF (cMost true) (-1) (l ++ [⟨x, g⟩]) = true := by
  have hl := risesF_last h (by omega)
  show risesF 1114111 (-1) (l ++ [⟨x, g⟩]) = true
  rw [risesF_snoc, risesF_mono (show (65534 : Int) ≤ 1114111 by omega) h, Bool.true_and, decide_eq_true_eq]
  simp only
  omega
theorem far_sOut {l : List Pr} {x g : Int} (x0 : 65536 ≤ x) : sOut (l ++ [⟨x, g⟩]) = [] := by
  unfold sOut sGood
  rw [risesF_snoc, decide_eq_false (p := lastC (-1) l < (⟨x, g⟩ : Pr).code ∧ (⟨x, g⟩ : Pr).code ≤ 65534) (by simp only; omega)]
  simp
theorem far_narrow {l : List Pr} {x g : Int} (x0 : 65536 ≤ x) : cOut (l ++ [⟨x, g⟩]) false = [] := by
  have h : sOut (l ++ [⟨x, g⟩]) = [] := far_sOut x0
  unfold cOut cTab
  simp [h]
theorem far_PrG {l : List Pr} {x g : Int} (h : PrG l) (g0 : 0 ≤ g) (g1 : g ≤ 65535) : PrG (l ++ [⟨x, g⟩]) := by
  intro p hp
  rcases List.mem_append.1 hp with h1 | h1
  · exact h p h1
  · simp at h1
    subst h1
    exact ⟨g0, g1⟩

/-- Two maps in boxes, and pairs. -/
structure BWC (w wr : World) (bx : Nat) (X1 : Option Addr) (x1 y1 : Nat) (X2 : Option Addr) (x2 y2 : Nat) (t : List Int) (A : Option Addr) (c g : Nat) (by_ : Nat) (Y1 : Option Addr) (u1 v1 : Nat) (Y2 : Option Addr) (u2 v2 : Nat) (t' : List Int) (A' : Option Addr) (c' g' : Nat) (Al : Option Addr) (m : Nat) (l : List Pr) : Prop where
  b : BoxC w wr bx true X1 x1 y1 X2 x2 y2 t A c g
  b' : BoxC w wr by_ false Y1 u1 v1 Y2 u2 v2 t' A' c' g'
  row : RowS encP 2 wr Al m l
theorem BWC.below {w wr w' : World} {bx : Nat} {X1 : Option Addr} {x1 y1 : Nat} {X2 : Option Addr} {x2 y2 : Nat} {t : List Int} {A : Option Addr} {c g : Nat} {by_ : Nat} {Y1 : Option Addr} {u1 v1 : Nat} {Y2 : Option Addr} {u2 v2 : Nat} {t' : List Int} {A' : Option Addr} {c' g' : Nat} {Al : Option Addr} {m : Nat} {l : List Pr} (h : BWC w wr bx X1 x1 y1 X2 x2 y2 t A c g by_ Y1 u1 v1 Y2 u2 v2 t' A' c' g' Al m l) (hb : Below wr.heap.size wr w') : BWC w w' bx X1 x1 y1 X2 x2 y2 t A c g by_ Y1 u1 v1 Y2 u2 v2 t' A' c' g' Al m l := ⟨h.b.below hb, h.b'.below hb, h.row.below hb⟩

theorem belowCellW {W w' : World} (hb : Below W.heap.size W w') {a : Addr} {v : Value} (h : W.cell? a = some v) : w'.cell? a = some v := (hb.cell (World.block_lt_of_cell? W _ h)).trans h
theorem atPW {w : World} {A : Option Addr} {n : Nat} {l : List Pr} {j : Nat} {p : Pr} (h : RowS encP 2 w A n l) (hj : l[j]? = some p) :
    ∃ g off, A = some ⟨g, off, none⟩ ∧ g < w.heap.size ∧ w.cell? ⟨g, off + j * 2, none⟩ = some (.int .i32 p.code) ∧ w.cell? ⟨g, off + j * 2 + 1, none⟩ = some (.int .u16 p.glyph) := by
  obtain ⟨g, off, e, hg, hc⟩ := h.at encP_len (by omega) hj
  exact ⟨g, off, e, hg, hc 0 _ rfl, hc 1 _ rfl⟩
theorem far_at {l : List Pr} {p : Pr} {m : Nat} (h : l.length = m) : (l ++ [p])[m]? = some p := by subst h; simp

set_option maxRecDepth 100000 in
set_option maxHeartbeats 8000000 in
theorem law_CmapWides (A0 : Option Addr) (n0 c0 : Nat) (z0 : List Int) (A1 : Option Addr) (n1 c1 : Nat) (z1 : List Int) (code glyph : Int) (w : World) (hR : Rk w) (hr0 : Row w A0 n0 (cellsOf .u16 z0)) (hW0 : Wf .u16 z0) (hn0 : n0 ≤ 9223372036854775807)
    (hr1 : Row w A1 n1 (cellsOf .u16 z1)) (hW1 : Wf .u16 z1) (hn1 : n1 ≤ 9223372036854775807) (k0 : -2147483648 ≤ code) (k1 : code ≤ 2147483647) (g0 : 0 ≤ glyph) (g1 : glyph ≤ 65535) :
    Calls Tryd.prog 7 #[.slice A0 n0 c0, .slice A1 n1 c1, .int .i32 code, .int .u16 glyph] w (True_ w) := by
  obtain ⟨i1, hi1, hz01, hz11, hz21⟩ := info_parts Tryd.pairinfo
  have HAw := Lib.hid (awake11_any w hR)
  go_enter Tryd.func7, Tryd.ntmps7
  go_wp2_with fail
  with_reducible refine HAw.out.mono ?_
  rintro e w0 ⟨rfl, hb0⟩
  have HRi := Lib.hid (rising11_any A0 n0 c0 z0 A1 n1 c1 z1 w0 (hr0.below hb0) hW0 hn0 (hr1.below hb0) hW1 hn1)
  clear hr0 hW0 hn0 hr1 hW1 hn1 HAw
  go_wp2_with fail
  with_reducible refine HRi.out.mono ?_
  rintro e w1 ⟨l, B1, B2, d1, d2, m, rfl, hT, hm40, hPG, hris⟩
  have hb1 := hb0.trans (hT.bel.mono hb0.size)
  have hlen := hT.o1.len
  have hrl := hT.o1.row encP_len
  have hRw := hR.below hb1
  clear hT hb0 HRi hR
  have F1 : IntKind.i32.wrap ((max code 0).tmod 1048576) = (max code 0) % 1048576 := by
    rw [Int.tmod_eq_emod_of_nonneg (by omega)]
    exact IntWalk.i32_in _ (by omega)
  have F2 : IntKind.i32.wrap (65536 + (max code 0) % 1048576) = 65536 + (max code 0) % 1048576 := IntWalk.i32_in _ (by omega)
  have x0 : 65536 ≤ 65536 + (max code 0) % 1048576 := by omega
  have x1 : 65536 + (max code 0) % 1048576 ≤ 1114111 := by omega
  generalize hX : 65536 + (max code 0) % 1048576 = X at *
  go_upto_region 5 with (first
    | (at_builtin; refine wpList_append_rowS rfl (.tmp 26) (.tmp 27) _ rfl 45 encP 2 encP_len (by omega) encP_one w1.heap.size i1 _ 8 Tryd.underlying24 hi1 hz01 hz11 rfl hz21 (some ⟨w1.heap.size, 0, none⟩) 0 0 [] rfl (ownS_lit w1 w1.heap.size 45 encP 2 encP_len [] #[] rfl 0 rfl (Nat.le_refl _) (by simp only [maxLen]; omega)) B1 m d1 l rfl (hrl.below ((Below.refl _ _).alloc (Nat.le_refl _) _)) (by omega) (by omega) (by simp) ?_; intro A2 c2 w2 ho2 hg2; have hb2 := ((Below.refl w1.heap.size w1).alloc (Nat.le_refl _) (.cells #[] 45)).grown hg2 (by simp) (fun q e => by simp [blockOf] at e; omega); clear hg2; simp only [List.nil_append, Nat.zero_add] at ho2; rw [show 0 + m = m from Nat.zero_add m])
    | (at_builtin; refine wpList_append_rowS rfl (.tmp 28) (.tmp 35) _ rfl 45 encP 2 encP_len (by omega) encP_one w1.heap.size i1 _ 8 Tryd.underlying24 hi1 hz01 hz11 rfl hz21 A2 m c2 l rfl (ho2.alloc _) (some ⟨w2.heap.size, 0, none⟩) 1 1 [⟨X, glyph⟩] rfl (rowS_vals encP_len w2 45 [⟨X, glyph⟩] _ rfl 1 rfl) (by omega) (by omega) (by have := hb2.size; simp; omega) ?_; intro A3 c3 w3 ho3 hg3))
  have hb3 := (hb2.alloc hb2.size (.cells #[.int .i32 X, .int .u16 glyph] 45)).grown hg3 (by have := hb2.size; simp; omega) (fun q e => (ho2.from_ q e).1)
  have hb := hb1.trans (hb3.mono hb1.size)
  have hrf := ho3.row encP_len
  replace hrl := hrl.below hb3
  replace hRw := hRw.below hb3
  clear hg3 ho2 ho3 hb2 hb3 hb1 F1 F2
  obtain ⟨e0, e1, e2, e3, e4, e5, e6⟩ := cOut_right (wd := true) (far_PrG hPG g0 g1) (far_rises hris x0 x1) (by simp; omega)
  obtain ⟨j0, j1, j2, j3, j4, j5, j6⟩ := cOut_right (wd := false) hPG hris (by omega)
  have HG := Lib.hid (cbuild_any A3 (m + 1) c3 _ true w3 hrf (by omega) (far_PrG hPG g0 g1) (by omega))
  rw [e0] at HG
  have HPGf := far_PrG (x := X) hPG g0 g1
  have hrisf := far_rises (g := glyph) hris x0 x1
  have HNo := Lib.hid (fun W (h : RowS encP 2 W A3 (m + 1) (l ++ [⟨X, glyph⟩])) => cbuild_any A3 (m + 1) c3 _ false W h (by omega) HPGf (by
    show (sOut (l ++ [⟨X, glyph⟩])).length ≤ 12000000
    rw [far_sOut x0]
    exact Nat.zero_le _))
  rw [far_narrow x0] at HNo
  have HGb := Lib.hid (fun W (h : RowS encP 2 W B1 m l) => cbuild_any B1 m d1 l false W h (by omega) hPG (by omega))
  rw [j0] at HGb
  have Hlx := Lib.hid (fun c => e3 c)
  have Hly := Lib.hid (fun c => j3 c)
  have Hax : Hid (cLook true (cTab (l ++ [⟨X, glyph⟩]) true) X = glyph) := by
    show _ = _
    rw [e3]
    exact glyphOf_mem (p := ⟨X, glyph⟩) hrisf (far_at hlen)
  have Hay : Hid (cLook false (cTab l false) X = 0) := by
    show _ = _
    rw [j3]
    exact glyphOf_none hris (Or.inr (by omega))
  have Hmem : Hid (∀ (k : Nat) (y : Pr), l[k]? = some y → cLook true (cTab (l ++ [⟨X, glyph⟩]) true) y.code = y.glyph ∧ cLook false (cTab l false) y.code = y.glyph ∧ -1 < y.code ∧ y.code ≤ 65534 ∧ 0 ≤ y.glyph ∧ y.glyph ≤ 65535) := by
    show ∀ (k : Nat) (y : Pr), l[k]? = some y → _
    intro k y hy
    have hm := risesF_mem hris y (List.mem_of_getElem? hy)
    rw [e3, j3, glyphOf_other (y := ⟨X, glyph⟩) (by simp only; omega), glyphOf_mem hris hy]
    exact ⟨rfl, rfl, hm.1, hm.2, hPG y (List.mem_of_getElem? hy)⟩
  have hf := cFind_one (wd := true) e1
  have hd := cHd_drop true (cTab (l ++ [⟨X, glyph⟩]) true)
  have hBy : Bytes (cHd true ++ cTab (l ++ [⟨X, glyph⟩]) true) := bytes_append (cHd_bytes _) e2
  have hln : (cHd true ++ cTab (l ++ [⟨X, glyph⟩]) true).length ≤ 200000 := by rw [List.length_append, cHd_len]; omega
  have hfb := cFind_one (wd := false) j1
  have hdb := cHd_drop false (cTab l false)
  have hByb : Bytes (cHd false ++ cTab l false) := bytes_append (cHd_bytes _) j2
  have hlnb : (cHd false ++ cTab l false).length ≤ 200000 := by rw [List.length_append, cHd_len]; omega
  clear hris hPG HPGf hrisf e0 e1 e2 e3 e4 e5 e6 j0 j1 j2 j3 j4 j5 j6 Hlx Hly hX k0 k1
  generalize cTab (l ++ [⟨X, glyph⟩]) true = t at *
  generalize cHd true ++ t = zs at *
  generalize cTab l false = t' at *
  generalize cHd false ++ t' = zs' at *
  generalize hfar : l ++ [⟨X, glyph⟩] = far at *
  go_wp2_with fail
  with_reducible refine HG.out.mono ?_
  rintro e w4 ⟨Az, nz, cz, rfl, hownz, hbz⟩
  have hlz := hownz.len
  have hb4 := hb.trans (hbz.mono hb.size)
  have HP := Lib.hid (cparse_any Az nz cz _ w4 hownz.row hBy (by omega) hownz.cap (hRw.below hbz))
  replace hrl := hrl.below hbz
  replace hrf := hrf.below hbz
  replace hRw := hRw.below hbz
  clear hownz HG hbz hb
  go_wp2_with fail
  with_reducible refine HP.out.mono ?_
  rintro e w5 ⟨hb5', ⟨hf', _⟩ | ⟨wd', v, hf', A5, c5, g5, rfl, hm⟩⟩
  · rw [hf] at hf'; cases hf'
  rw [hf] at hf'
  simp only [Option.some.injEq, Prod.mk.injEq] at hf'
  obtain ⟨rfl, rfl⟩ := hf'
  rw [hd] at hm ⊢
  obtain ⟨X1, xx1, y1, X2, xx2, y2, he⟩ := cmV_three true A5 (cCnt true t) c5
  have hb5 := hb4.trans (hb5'.mono hb4.size)
  have hbx := BoxC.new w5 hb5 hm he
  have hA : Below w5.heap.size w5 (w5.alloc (.cells #[.bool true, .slice X1 xx1 y1, .slice X2 xx2 y2] 37)) := (Below.refl _ _).alloc (Nat.le_refl _) _
  replace hrl := (hrl.below hb5').below hA
  replace hrf := (hrf.below hb5').below hA
  replace hRw := (hRw.below hb5').below hA
  have hb6 := hb5.trans (hA.mono hb5.size)
  rw [he]
  have HGc := Lib.hid (HGb.out _ hrl)
  clear HP hb4 hb5' hb5 hf hd hm he hA hBy hln hlz HGb
  go_wp2_with fail
  with_reducible refine HGc.out.mono ?_
  generalize hW5 : w5.alloc (.cells #[.bool true, .slice X1 xx1 y1, .slice X2 xx2 y2] 37) = W5 at *
  generalize w5.heap.size = bx at *
  rintro e w6 ⟨Ay, ny, cy, rfl, howny, hby⟩
  have hly := howny.len
  have hb7 := hb6.trans (hby.mono hb6.size)
  have HP := Lib.hid (cparse_any Ay ny cy _ w6 howny.row hByb (by omega) howny.cap (hRw.below hby))
  replace hrl := hrl.below hby
  replace hrf := hrf.below hby
  replace hbx := hbx.below hby
  clear howny HGc hby hb6 hRw hW5
  go_wp2_with fail
  with_reducible refine HP.out.mono ?_
  rintro e w7 ⟨hb7', ⟨hf', _⟩ | ⟨wd', v, hf', A6, c6, g6, rfl, hm⟩⟩
  · rw [hfb] at hf'; cases hf'
  rw [hfb] at hf'
  simp only [Option.some.injEq, Prod.mk.injEq] at hf'
  obtain ⟨rfl, rfl⟩ := hf'
  rw [hdb] at hm ⊢
  obtain ⟨Y1, u1, v1, Y2, u2, v2, he⟩ := cmV_three false A6 (cCnt false t') c6
  have hb8 := hb7.trans (hb7'.mono hb7.size)
  have hbx' := BoxC.new w7 hb8 hm he
  have hA : Below w7.heap.size w7 (w7.alloc (.cells #[.bool false, .slice Y1 u1 v1, .slice Y2 u2 v2] 37)) := (Below.refl _ _).alloc (Nat.le_refl _) _
  have hs : BWC w (w7.alloc (.cells #[.bool false, .slice Y1 u1 v1, .slice Y2 u2 v2] 37)) bx X1 xx1 y1 X2 xx2 y2 t A5 c5 g5 w7.heap.size Y1 u1 v1 Y2 u2 v2 t' A6 c6 g6 B1 m l := ⟨(hbx.below hb7').below hA, hbx', (hrl.below hb7').below hA⟩
  have ha := (hrf.below hb7').below hA
  rw [he]
  clear HP hb7 hb7' hb8 hfb hdb hm he hA hByb hlnb hly hbx hbx' hrl hrf
  go_upto_region 7 with fail
  generalize w7.alloc (.cells #[.bool false, .slice Y1 u1 v1, .slice Y2 u2 v2] 37) = W7 at *
  generalize w7.heap.size = by_ at *
  obtain ⟨gf, off, rfl, hgf, fc, _⟩ := atPW ha (j := m) (p := ⟨X, glyph⟩) (by rw [← hfar]; exact far_at hlen)
  obtain ⟨p0, p1, p2⟩ := hs.b.cells
  obtain ⟨kb0, kb1, kb2⟩ := hs.b'.cells
  have HLk : Hid (∀ (W : World) (c v : Int), BWC w W bx X1 xx1 y1 X2 xx2 y2 t A5 c5 g5 by_ Y1 u1 v1 Y2 u2 v2 t' A6 c6 g6 B1 m l → cLook true t c = v → -2147483648 ≤ c → c ≤ 2147483647 → Calls Tryd.prog 15 #[.agg #[.bool true, .slice X1 xx1 y1, .slice X2 xx2 y2], .int .i32 c] W (Ret W (.int .u16 v))) := fun W c v h e a b => h.b.look c _ e a b
  have HLk' : Hid (∀ (W : World) (c v : Int), BWC w W bx X1 xx1 y1 X2 xx2 y2 t A5 c5 g5 by_ Y1 u1 v1 Y2 u2 v2 t' A6 c6 g6 B1 m l → cLook false t' c = v → -2147483648 ≤ c → c ≤ 2147483647 → Calls Tryd.prog 15 #[.agg #[.bool false, .slice Y1 u1 v1, .slice Y2 u2 v2], .int .i32 c] W (Ret W (.int .u16 v))) := fun W c v h e a b => h.b'.look c _ e a b
  have HLa := Lib.hid (fun W h => HLk.out W X glyph h Hax.out (by omega) (by omega))
  have HLb := Lib.hid (fun W h => HLk'.out W X 0 h Hay.out (by omega) (by omega))
  have eg : (glyph != glyph) = false := by simp
  simp only at fc
  clear Hax Hay hfar hgf hi1 hz01 hz11 hz21
  have hbd : Below W7.heap.size W7 W7.drew := (Below.refl _ _).drew
  replace hs := hs.below hbd
  replace ha := ha.below hbd
  replace p0 := belowCellW hbd p0
  replace p1 := belowCellW hbd p1
  replace p2 := belowCellW hbd p2
  replace kb0 := belowCellW hbd kb0
  replace kb1 := belowCellW hbd kb1
  replace kb2 := belowCellW hbd kb2
  replace fc := belowCellW hbd fc
  clear hbd
  have mm : (m : Int) < (m : Int) + 1 := by omega
  refine reg_start (by kernel_rfl) ?_
  refine reg_take (i := 0) (d := some 49) (v := ?_) rfl rfl (by kernel_rfl) (by kernel_rfl) (by kernel_rfl) (fun _ _ _ h => h) (Or.inl ⟨by rfl, ?_⟩) ?_
  rotate_left
  · intro w' hx; (go_simp <;> with_reducible rfl)
  simp only [Act.put, List.setIfInBounds_toArray, List.set_cons_zero, List.set_cons_succ]
  refine reg_take (i := 1) (d := some 50) (v := ?_) rfl rfl (by kernel_rfl) (by kernel_rfl) (by kernel_rfl) (fun _ _ _ h => h) (Or.inl ⟨by rfl, ?_⟩) ?_
  rotate_left
  · intro w' hx; (go_simp <;> with_reducible rfl)
  simp only [Act.put, List.setIfInBounds_toArray, List.set_cons_zero, List.set_cons_succ]
  refine reg_take (i := 2) (d := some 51) (v := ?_) rfl rfl (by kernel_rfl) (by kernel_rfl) (by kernel_rfl) (fun _ _ _ h => h) (Or.inl ⟨by rfl, ?_⟩) ?_
  rotate_left
  · intro w' hx; (go_simp <;> with_reducible rfl)
  simp only [Act.put, List.setIfInBounds_toArray, List.set_cons_zero, List.set_cons_succ]
  refine reg_take (i := 3) (d := some 52) (v := ?_) rfl rfl (by kernel_rfl) (by kernel_rfl) (by kernel_rfl) (fun _ _ _ h => h) (Or.inl ⟨by rfl, ?_⟩) ?_
  rotate_left
  · intro w' hx; (go_simp <;> with_reducible rfl)
  simp only [Act.put, List.setIfInBounds_toArray, List.set_cons_zero, List.set_cons_succ]
  refine reg_take (i := 4) (d := some 53) (v := ?_) rfl rfl (by kernel_rfl) (by kernel_rfl) (by kernel_rfl) (fun _ _ _ h => h) (Or.inl ⟨by rfl, ?_⟩) ?_
  rotate_left
  · intro w' hx; (go_simp <;> with_reducible rfl)
  simp only [Act.put, List.setIfInBounds_toArray, List.set_cons_zero, List.set_cons_succ]
  refine reg_take (i := 5) (d := some 54) (v := ?_) rfl rfl (by kernel_rfl) (by kernel_rfl) (by kernel_rfl) (fun _ _ _ h => h) (Or.inl ⟨by rfl, ?_⟩) ?_
  rotate_left
  · intro w' hx; (go_simp <;> with_reducible rfl)
  simp only [Act.put, List.setIfInBounds_toArray, List.set_cons_zero, List.set_cons_succ]
  refine reg_take (i := 6) (d := some 55) (v := ?_) rfl rfl (by kernel_rfl) (by kernel_rfl) (by kernel_rfl) (fun _ _ _ h => h) (Or.inl ⟨by rfl, ?_⟩) ?_
  rotate_left
  · intro w' hx; (go_simp <;> with_reducible rfl)
  simp only [Act.put, List.setIfInBounds_toArray, List.set_cons_zero, List.set_cons_succ]
  refine reg_take (i := 7) (d := some 56) (v := ?_) rfl rfl (by kernel_rfl) (by kernel_rfl) (by kernel_rfl) (fun _ _ _ h => h) (Or.inl ⟨by rfl, ?_⟩) ?_
  rotate_left
  · intro w' hx; (go_simp <;> with_reducible rfl)
  simp only [Act.put, List.setIfInBounds_toArray, List.set_cons_zero, List.set_cons_succ]
  refine reg_one 8 _ (by kernel_rfl) rfl ?_
  intro K hK
  go_simp
  go_wp2_with (go_at_call 10; (with_reducible refine (HNo.out _ ha).mono ?_); rintro e wn ⟨An, nn, cn, rfl, hn', hbn⟩; have hnl := hn'.len; simp only [List.length_nil] at hnl; subst hnl; clear hn'; replace hs := hs.below hbn; replace ha := ha.below hbn; replace p0 := belowCellW hbn p0; replace p1 := belowCellW hbn p1; replace p2 := belowCellW hbn p2; replace kb0 := belowCellW hbn kb0; replace kb1 := belowCellW hbn kb1; replace kb2 := belowCellW hbn kb2; replace fc := belowCellW hbn fc)
  refine hK.out _ _ hbn ?_
  clear hK K
  refine reg_take (i := 9) (d := some 58) (v := ?_) rfl rfl (by kernel_rfl) (by kernel_rfl) (by kernel_rfl) (fun _ _ _ h => h) (Or.inl ⟨by rfl, ?_⟩) ?_
  rotate_left
  · intro w' hx; (go_simp <;> with_reducible rfl)
  simp only [Act.put, List.setIfInBounds_toArray, List.set_cons_zero, List.set_cons_succ]
  refine reg_take (i := 10) (d := some 59) (v := ?_) rfl rfl (by kernel_rfl) (by kernel_rfl) (by kernel_rfl) (fun _ _ _ h => h) (Or.inl ⟨by rfl, ?_⟩) ?_
  rotate_left
  · intro w' hx; (go_simp <;> with_reducible rfl)
  simp only [Act.put, List.setIfInBounds_toArray, List.set_cons_zero, List.set_cons_succ]
  refine reg_take (i := 11) (d := some 60) (v := ?_) rfl rfl (by kernel_rfl) (by kernel_rfl) (by kernel_rfl) (fun _ _ _ h => h) (Or.inl ⟨by rfl, ?_⟩) ?_
  rotate_left
  · intro w' hx; (go_simp <;> with_reducible rfl)
  simp only [Act.put, List.setIfInBounds_toArray, List.set_cons_zero, List.set_cons_succ]
  refine reg_take (i := 12) (d := some 61) (v := ?_) rfl rfl (by kernel_rfl) (by kernel_rfl) (by kernel_rfl) (fun _ _ _ h => h) (Or.inl ⟨by rfl, ?_⟩) ?_
  rotate_left
  · intro w' hx; (go_simp <;> with_reducible rfl)
  simp only [Act.put, List.setIfInBounds_toArray, List.set_cons_zero, List.set_cons_succ]
  refine reg_take (i := 13) (d := some 62) (v := ?_) rfl rfl (by kernel_rfl) (by kernel_rfl) (by kernel_rfl) (fun _ _ _ h => h) (Or.inl ⟨by rfl, ?_⟩) ?_
  rotate_left
  · intro w' hx; (try (first | have q0 := hx.cell p0 | have q0 := hx.cell (Lib.cell?_alloc_some _ p0))); (try (first | have q1 := hx.cell p1 | have q1 := hx.cell (Lib.cell?_alloc_some _ p1))); (try (first | have q2 := hx.cell p2 | have q2 := hx.cell (Lib.cell?_alloc_some _ p2))); (try (first | have q3 := hx.cell kb0 | have q3 := hx.cell (Lib.cell?_alloc_some _ kb0))); (try (first | have q4 := hx.cell kb1 | have q4 := hx.cell (Lib.cell?_alloc_some _ kb1))); (try (first | have q5 := hx.cell kb2 | have q5 := hx.cell (Lib.cell?_alloc_some _ kb2))); (try (first | have q6 := hx.cell fc | have q6 := hx.cell (Lib.cell?_alloc_some _ fc))); (go_simp <;> with_reducible rfl)
  simp only [Act.put, List.setIfInBounds_toArray, List.set_cons_zero, List.set_cons_succ]
  refine reg_take (i := 14) (d := some 63) (v := ?_) rfl rfl (by kernel_rfl) (by kernel_rfl) (by kernel_rfl) (fun _ _ _ h => h) (Or.inl ⟨by rfl, ?_⟩) ?_
  rotate_left
  · intro w' hx; (go_simp <;> with_reducible rfl)
  simp only [Act.put, List.setIfInBounds_toArray, List.set_cons_zero, List.set_cons_succ]
  refine reg_take (i := 15) (d := some 64) (v := ?_) rfl rfl (by kernel_rfl) (by kernel_rfl) (by kernel_rfl) (fun _ _ _ h => h) (Or.inl ⟨by rfl, ?_⟩) ?_
  rotate_left
  · intro w' hx; (go_simp <;> with_reducible rfl)
  simp only [Act.put, List.setIfInBounds_toArray, List.set_cons_zero, List.set_cons_succ]
  refine reg_take (i := 16) (d := some 65) (v := ?_) rfl rfl (by kernel_rfl) (by kernel_rfl) (by kernel_rfl) (fun _ _ _ h => h) (Or.inl ⟨by rfl, ?_⟩) ?_
  rotate_left
  · intro w' hx; (go_simp <;> with_reducible rfl)
  simp only [Act.put, List.setIfInBounds_toArray, List.set_cons_zero, List.set_cons_succ]
  refine reg_take (i := 17) (d := some 66) (v := ?_) rfl rfl (by kernel_rfl) (by kernel_rfl) (by kernel_rfl) (fun _ _ _ h => h) (Or.inl ⟨by rfl, ?_⟩) ?_
  rotate_left
  · intro w' hx; (go_simp <;> with_reducible rfl)
  simp only [Act.put, List.setIfInBounds_toArray, List.set_cons_zero, List.set_cons_succ]
  refine reg_take (i := 18) (d := some 67) (v := ?_) rfl rfl (by kernel_rfl) (by kernel_rfl) (by kernel_rfl) (fun _ _ _ h => h) (Or.inl ⟨by rfl, ?_⟩) ?_
  rotate_left
  · intro w' hx; (go_simp <;> with_reducible rfl)
  simp only [Act.put, List.setIfInBounds_toArray, List.set_cons_zero, List.set_cons_succ]
  refine reg_take (i := 19) (d := some 68) (v := ?_) rfl rfl (by kernel_rfl) (by kernel_rfl) (by kernel_rfl) (fun _ _ _ h => h) (Or.inl ⟨by rfl, ?_⟩) ?_
  rotate_left
  · intro w' hx; (try (first | have q0 := hx.cell p0 | have q0 := hx.cell (Lib.cell?_alloc_some _ p0))); (try (first | have q1 := hx.cell p1 | have q1 := hx.cell (Lib.cell?_alloc_some _ p1))); (try (first | have q2 := hx.cell p2 | have q2 := hx.cell (Lib.cell?_alloc_some _ p2))); (try (first | have q3 := hx.cell kb0 | have q3 := hx.cell (Lib.cell?_alloc_some _ kb0))); (try (first | have q4 := hx.cell kb1 | have q4 := hx.cell (Lib.cell?_alloc_some _ kb1))); (try (first | have q5 := hx.cell kb2 | have q5 := hx.cell (Lib.cell?_alloc_some _ kb2))); (try (first | have q6 := hx.cell fc | have q6 := hx.cell (Lib.cell?_alloc_some _ fc))); (go_simp <;> with_reducible rfl)
  simp only [Act.put, List.setIfInBounds_toArray, List.set_cons_zero, List.set_cons_succ]
  refine reg_take (i := 21) (d := some 70) (v := ?_) rfl rfl (by kernel_rfl) (by kernel_rfl) (by kernel_rfl) (fun _ _ _ h => h) (Or.inl ⟨by rfl, ?_⟩) ?_
  rotate_left
  · intro w' hx; (go_simp <;> with_reducible rfl)
  simp only [Act.put, List.setIfInBounds_toArray, List.set_cons_zero, List.set_cons_succ]
  refine reg_one 20 _ (by kernel_rfl) rfl ?_
  intro K hK
  go_simp
  go_wp2_with (go_at_call 15; (with_reducible refine (HLa.out _ hs).mono ?_); rintro e wn ⟨rfl, hbn⟩; replace hs := hs.below hbn; replace ha := ha.below hbn; replace p0 := belowCellW hbn p0; replace p1 := belowCellW hbn p1; replace p2 := belowCellW hbn p2; replace kb0 := belowCellW hbn kb0; replace kb1 := belowCellW hbn kb1; replace kb2 := belowCellW hbn kb2; replace fc := belowCellW hbn fc)
  refine hK.out _ _ hbn ?_
  clear hK K
  refine reg_take (i := 22) (d := some 71) (v := ?_) rfl rfl (by kernel_rfl) (by kernel_rfl) (by kernel_rfl) (fun _ _ _ h => h) (Or.inl ⟨by rfl, ?_⟩) ?_
  rotate_left
  · intro w' hx; (go_simp <;> with_reducible rfl)
  simp only [Act.put, List.setIfInBounds_toArray, List.set_cons_zero, List.set_cons_succ]
  refine reg_take (i := 23) (d := some 72) (v := ?_) rfl rfl (by kernel_rfl) (by kernel_rfl) (by kernel_rfl) (fun _ _ _ h => h) (Or.inl ⟨by rfl, ?_⟩) ?_
  rotate_left
  · intro w' hx; (go_simp <;> with_reducible rfl)
  simp only [Act.put, List.setIfInBounds_toArray, List.set_cons_zero, List.set_cons_succ]
  refine reg_take (i := 24) (d := some 73) (v := ?_) rfl rfl (by kernel_rfl) (by kernel_rfl) (by kernel_rfl) (fun _ _ _ h => h) (Or.inl ⟨by rfl, ?_⟩) ?_
  rotate_left
  · intro w' hx; (go_simp <;> with_reducible rfl)
  simp only [Act.put, List.setIfInBounds_toArray, List.set_cons_zero, List.set_cons_succ]
  refine reg_take (i := 25) (d := some 74) (v := ?_) rfl rfl (by kernel_rfl) (by kernel_rfl) (by kernel_rfl) (fun _ _ _ h => h) (Or.inl ⟨by rfl, ?_⟩) ?_
  rotate_left
  · intro w' hx; (try (first | have q0 := hx.cell p0 | have q0 := hx.cell (Lib.cell?_alloc_some _ p0))); (try (first | have q1 := hx.cell p1 | have q1 := hx.cell (Lib.cell?_alloc_some _ p1))); (try (first | have q2 := hx.cell p2 | have q2 := hx.cell (Lib.cell?_alloc_some _ p2))); (try (first | have q3 := hx.cell kb0 | have q3 := hx.cell (Lib.cell?_alloc_some _ kb0))); (try (first | have q4 := hx.cell kb1 | have q4 := hx.cell (Lib.cell?_alloc_some _ kb1))); (try (first | have q5 := hx.cell kb2 | have q5 := hx.cell (Lib.cell?_alloc_some _ kb2))); (try (first | have q6 := hx.cell fc | have q6 := hx.cell (Lib.cell?_alloc_some _ fc))); (go_simp <;> with_reducible rfl)
  simp only [Act.put, List.setIfInBounds_toArray, List.set_cons_zero, List.set_cons_succ]
  refine reg_take (i := 26) (d := some 75) (v := ?_) rfl rfl (by kernel_rfl) (by kernel_rfl) (by kernel_rfl) (fun _ _ _ h => h) (Or.inl ⟨by rfl, ?_⟩) ?_
  rotate_left
  · intro w' hx; (go_simp <;> with_reducible rfl)
  simp only [Act.put, List.setIfInBounds_toArray, List.set_cons_zero, List.set_cons_succ]
  refine reg_take (i := 27) (d := some 76) (v := ?_) rfl rfl (by kernel_rfl) (by kernel_rfl) (by kernel_rfl) (fun _ _ _ h => h) (Or.inl ⟨by rfl, ?_⟩) ?_
  rotate_left
  · intro w' hx; (go_simp <;> with_reducible rfl)
  simp only [Act.put, List.setIfInBounds_toArray, List.set_cons_zero, List.set_cons_succ]
  refine reg_take (i := 28) (d := some 77) (v := ?_) rfl rfl (by kernel_rfl) (by kernel_rfl) (by kernel_rfl) (fun _ _ _ h => h) (Or.inl ⟨by rfl, ?_⟩) ?_
  rotate_left
  · intro w' hx; (go_simp <;> with_reducible rfl)
  simp only [Act.put, List.setIfInBounds_toArray, List.set_cons_zero, List.set_cons_succ]
  refine reg_take (i := 29) (d := some 78) (v := ?_) rfl rfl (by kernel_rfl) (by kernel_rfl) (by kernel_rfl) (fun _ _ _ h => h) (Or.inl ⟨by rfl, ?_⟩) ?_
  rotate_left
  · intro w' hx; (go_simp <;> with_reducible rfl)
  simp only [Act.put, List.setIfInBounds_toArray, List.set_cons_zero, List.set_cons_succ]
  refine reg_take (i := 30) (d := some 79) (v := ?_) rfl rfl (by kernel_rfl) (by kernel_rfl) (by kernel_rfl) (fun _ _ _ h => h) (Or.inl ⟨by rfl, ?_⟩) ?_
  rotate_left
  · intro w' hx; (go_simp <;> with_reducible rfl)
  simp only [Act.put, List.setIfInBounds_toArray, List.set_cons_zero, List.set_cons_succ]
  refine reg_take (i := 31) (d := some 80) (v := ?_) rfl rfl (by kernel_rfl) (by kernel_rfl) (by kernel_rfl) (fun _ _ _ h => h) (Or.inl ⟨by rfl, ?_⟩) ?_
  rotate_left
  · intro w' hx; (try (first | have q0 := hx.cell p0 | have q0 := hx.cell (Lib.cell?_alloc_some _ p0))); (try (first | have q1 := hx.cell p1 | have q1 := hx.cell (Lib.cell?_alloc_some _ p1))); (try (first | have q2 := hx.cell p2 | have q2 := hx.cell (Lib.cell?_alloc_some _ p2))); (try (first | have q3 := hx.cell kb0 | have q3 := hx.cell (Lib.cell?_alloc_some _ kb0))); (try (first | have q4 := hx.cell kb1 | have q4 := hx.cell (Lib.cell?_alloc_some _ kb1))); (try (first | have q5 := hx.cell kb2 | have q5 := hx.cell (Lib.cell?_alloc_some _ kb2))); (try (first | have q6 := hx.cell fc | have q6 := hx.cell (Lib.cell?_alloc_some _ fc))); (go_simp <;> with_reducible rfl)
  simp only [Act.put, List.setIfInBounds_toArray, List.set_cons_zero, List.set_cons_succ]
  refine reg_one 32 _ (by kernel_rfl) rfl ?_
  intro K hK
  go_simp
  go_wp2_with (go_at_call 15; (with_reducible refine (HLb.out _ hs).mono ?_); rintro e wn ⟨rfl, hbn⟩; replace hs := hs.below hbn; replace ha := ha.below hbn; replace p0 := belowCellW hbn p0; replace p1 := belowCellW hbn p1; replace p2 := belowCellW hbn p2; replace kb0 := belowCellW hbn kb0; replace kb1 := belowCellW hbn kb1; replace kb2 := belowCellW hbn kb2; replace fc := belowCellW hbn fc)
  refine hK.out _ _ hbn ?_
  clear hK K
  refine reg_take (i := 33) (d := some 82) (v := ?_) rfl rfl (by kernel_rfl) (by kernel_rfl) (by kernel_rfl) (fun _ _ _ h => h) (Or.inl ⟨by rfl, ?_⟩) ?_
  rotate_left
  · intro w' hx; (go_simp <;> with_reducible rfl)
  simp only [Act.put, List.setIfInBounds_toArray, List.set_cons_zero, List.set_cons_succ]
  refine reg_take (i := 34) (d := some 83) (v := ?_) rfl rfl (by kernel_rfl) (by kernel_rfl) (by kernel_rfl) (fun _ _ _ h => h) (Or.inl ⟨by rfl, ?_⟩) ?_
  rotate_left
  · intro w' hx; (go_simp <;> with_reducible rfl)
  simp only [Act.put, List.setIfInBounds_toArray, List.set_cons_zero, List.set_cons_succ]
  refine wpAnyH_done (by kernel_rfl) ?_ _
  clear HNo HLa HLb p0 p1 p2 kb0 kb1 kb2 fc ha mm eg
  have Hlen := Lib.hid hlen
  go_upto_region 9 with fail
  go_wp2_with fail
  go_loopw [86] (fun i wr => ∃ k : Nat, k ≤ m ∧ i = .int .i64 k ∧ BWC w wr bx X1 xx1 y1 X2 xx2 y2 t A5 c5 g5 by_ Y1 u1 v1 Y2 u2 v2 t' A6 c6 g6 B1 m l) (fun i _ => m - (intOf i).toNat)
  case atStart => exact ⟨0, Nat.zero_le _, rfl, hs⟩
  case round =>
    clear hs
    obtain ⟨k, hk, rfl, hs⟩ := hrel
    by_cases hlt : k < m
    · obtain ⟨y, hy⟩ := getP (l := l) (j := k) (by have := Hlen.out; omega)
      obtain ⟨g, of', rfl, hg, q0, q1⟩ := atPW hs.row hy
      have HM := Lib.hid (Hmem.out k y hy)
      clear hy
      have hA := (Below.refl wr.heap.size wr).alloc (Nat.le_refl _) (.cells #[.int .i32 y.code, .int .u16 y.glyph] 45)
      replace hs := hs.below hA
      have z0 : (wr.alloc (.cells #[.int .i32 y.code, .int .u16 y.glyph] 45)).cell? ⟨wr.heap.size, 0, none⟩ = some (.int .i32 y.code) := cell_of_row _ _ 0 _ _ _ (heap_alloc_new wr _)
      obtain ⟨xb0, xb1, xb2⟩ := hs.b.cells
      obtain ⟨yb0, yb1, yb2⟩ := hs.b'.cells
      have HC : Hid (∀ n os, Calls Tryd.prog 15 #[.agg #[.bool true, .slice X1 xx1 y1, .slice X2 xx2 y2], .int .i32 y.code] (gw (wr.alloc (.cells #[.int .i32 y.code, .int .u16 y.glyph] 45)) n os) (Ret (gw (wr.alloc (.cells #[.int .i32 y.code, .int .u16 y.glyph] 45)) n os) (.int .u16 y.glyph))) := by
        show ∀ _ _, _
        intro n os
        exact HLk.out _ y.code y.glyph (hs.below (gw_below _ n os)) HM.out.1 (by have := HM.out; omega) (by have := HM.out; omega)
      have HD : Hid (∀ n os, Calls Tryd.prog 15 #[.agg #[.bool false, .slice Y1 u1 v1, .slice Y2 u2 v2], .int .i32 y.code] (gw (wr.alloc (.cells #[.int .i32 y.code, .int .u16 y.glyph] 45)) n os) (Ret (gw (wr.alloc (.cells #[.int .i32 y.code, .int .u16 y.glyph] 45)) n os) (.int .u16 y.glyph))) := by
        show ∀ _ _, _
        intro n os
        exact HLk'.out _ y.code y.glyph (hs.below (gw_below _ n os)) HM.out.2.1 (by have := HM.out; omega) (by have := HM.out; omega)
      clear hA HM
      obtain ⟨yc, yg⟩ := y
      simp only at *
      have eg : (yg != yg) = false := by simp
      go_upto_region 12 with fail
      generalize wr.alloc (.cells #[.int .i32 yc, .int .u16 yg] 45) = V at *
      generalize wr.heap.size = bz at *
      have Z0 := gw_cell z0
      have XB0 := gw_cell xb0
      have XB1 := gw_cell xb1
      have XB2 := gw_cell xb2
      have YB0 := gw_cell yb0
      have YB1 := gw_cell yb1
      have YB2 := gw_cell yb2
      refine region_below (by kernel_rfl) (by kernel_rfl) ?_
      repeat (first | go_big_quiet_step (first | (go_at_call 15; first | (with_reducible exact calls_gw (HC.out _ _)) | (with_reducible exact calls_gw (HD.out _ _)))) | quiet_step (first | (go_at_call 15; first | (with_reducible exact calls_gw (HC.out _ _)) | (with_reducible exact calls_gw (HD.out _ _)))))
      refine wpQuiet_nil ?_
      rintro _ ⟨z, rfl⟩
      replace hs := hs.below (gw_below V z.n z.os)
      clear Z0 XB0 XB1 XB2 YB0 YB1 YB2 HC HD z0 xb0 xb1 xb2 yb0 yb1 yb2 q0 q1
      generalize gw V z.n z.os = U at *
      go_wp2
      go_roundw
      case rel => exact ⟨k + 1, by omega, by go_num, hs⟩
      case measure => simp [intOf]; omega
    · go_wp2
      go_ret
      exact ⟨rfl, hs.b.bel⟩

end Go.Proofs.YthkaeimpflggjaaDoor

namespace Go.Proofs.YthkaeimpflggjaaDoor.cmapWides
open Go.ChangeShapes Go.WideShapes Go.ChangeAt Go.RowKit
open Go.ChangeMaps (open_string shut_string)
set_option linter.unusedVariables false

theorem own : ownKnob Tryd.prog.godebug = none := by kernel_rfl
theorem laidOut : laidOutB Tryd.prog = true := by kernel_rfl

set_option maxRecDepth 100000 in
theorem lifted (os : Os) (started : os.Started) (H : Type) (enc : TypeId × Value → H) :
    ReturnsInHanded {} Tryd.checked os 7 .any (fun w args => (Rows.cmapWidesSpec.pre enc Tryd.prog Tryd.f7 [] false w args ∧ laidMetH Tryd.prog laid11 w) ∧ sizedMet enc Tryd.prog Tryd.f7 (OpenSpec.ofChange Rows.cmapWidesSpec) false w args) (Rows.cmapWidesSpec.post enc Tryd.prog Tryd.f7 false true false false) := by
  refine returnsInHanded_of_change_and (C := Tryd.checked) (X := fun w _ => laidMetH Tryd.prog laid11 w) (fun _ _ _ hh h => h.of_heap hh) own started (by kernel_rfl) Tryd.func7
    (ChangeSpec.witness_shaped (enc := enc) (C := Tryd.checked) (os := os) (X := fun w _ => laidMetH Tryd.prog laid11 w) false (World.doorLaid Tryd.prog 400 os) #[.slice none 0 0, .slice none 0 0, .int .i32 0, .int .u16 0] 8 rfl (World.shaped_of_RefB (by kernel_rfl) (by kernel_rfl)) (by kernel_rfl) (by kernel_rfl) (by kernel_rfl) (door_met os _)) ?_
  intro W base args ds gs before hval0 hW _ _ hL _
  have hval : ∀ (j : Nat) t v, Tryd.f7.params[j]? = some t → args[j]? = some v → Value.okWide Tryd.prog W .any base t v := hval0
  have hW' := hW
  obtain ⟨p, q, hA0, hV, rfl, hfz, hnd⟩ := hW
  have hA : DataW.TrodAll enc Tryd.prog W 0 (fun _ => true) true Tryd.f7.params.toList args.toList ds p := hA0
  rw [Tryd.params7] at hA hval
  obtain ⟨v0, vs0, d0, ds0, p0, q0, hargs, rfl, rfl, h0, r0⟩ := trodAll_cons hA
  obtain ⟨v1, vs1, d1, ds1, p1, q1, rfl, rfl, rfl, h1, r1⟩ := trodAll_cons r0
  obtain ⟨v2, vs2, d2, ds2, p2, q2, rfl, rfl, rfl, h2, r2⟩ := trodAll_cons r1
  obtain ⟨v3, vs3, d3, ds3, p3, q3, rfl, rfl, rfl, h3, r3⟩ := trodAll_cons r2
  obtain ⟨rfl, rfl, rfl⟩ := trodAll_nil r3
  obtain rfl : args = #[v0, v1, v2, v3] := by cases args; simp_all
  obtain ⟨rfl, rfl⟩ := trodVars_none hV
  have k0 := h0
  have lt0 : ∀ x ∈ p0, x.block < W.heap.size := by obtain ⟨m, hm⟩ := k0; exact DataW.trod_lt m _ _ _ hm
  have k1 := h1
  have lt1 : ∀ x ∈ p1, x.block < W.heap.size := by obtain ⟨m, hm⟩ := k1; exact DataW.trod_lt m _ _ _ hm
  have k2 := h2
  have lt2 : ∀ x ∈ p2, x.block < W.heap.size := by obtain ⟨m, hm⟩ := k2; exact DataW.trod_lt m _ _ _ hm
  have k3 := h3
  have lt3 : ∀ x ∈ p3, x.block < W.heap.size := by obtain ⟨m, hm⟩ := k3; exact DataW.trod_lt m _ _ _ hm
  obtain ⟨A0, n0, c0, z0, rfl, hr0, hW0, hn0, hc0⟩ := open_nums Tryd.underlying22 Tryd.underlying43 (by kernel_rfl) (hval 0 22 v0 rfl rfl) k0
  obtain ⟨A1, n1, c1, z1, rfl, hr1, hW1, hn1, hc1⟩ := open_nums Tryd.underlying22 Tryd.underlying43 (by kernel_rfl) (hval 1 22 v1 rfl rfl) k1
  obtain ⟨a2, rfl, rfl, rfl, u2⟩ := open_int Tryd.underlying21 (hval 2 21 v2 rfl rfl) h2
  have w2 := bounds_i32 u2
  obtain ⟨a3, rfl, rfl, rfl, u3⟩ := open_int Tryd.underlying43 (hval 3 43 v3 rfl rfl) h3
  have w3 := bounds_u16 u3
  clear hA0 hval0
  refine (law_CmapWides A0 n0 c0 z0 A1 n1 c1 z1 a2 a3 W (rk_of_laid hL) hr0 hW0 hn0 hr1 hW1 hn1 w2.1 w2.2 w3.1 w3.2).mono fun e W' ⟨he, bel⟩ => ?_
  subst he
  exact ⟨_, rfl, _, _, _, [], _, [], hW', trodAll_mk1 (shut_bool Tryd.underlying4 _), (trodAll_cons_mk (Below.trod laidOut (by kernel_rfl) (of_decide_eq_true (by kernel_rfl)) k0 bel lt0) (trodAll_cons_mk (Below.trod laidOut (by kernel_rfl) (of_decide_eq_true (by kernel_rfl)) k1 bel lt1) (trodAll_cons_mk (Below.trod laidOut (by kernel_rfl) (of_decide_eq_true (by kernel_rfl)) k2 bel lt2) (trodAll_cons_mk (Below.trod laidOut (by kernel_rfl) (of_decide_eq_true (by kernel_rfl)) k3 bel lt3) trodAll_mk0)))), rfl, bel.frame _, fun h => by cases h⟩

theorem over : Rows.cmapWidesRow.holds Tryd.pinned (OpenSpec.ofChange Rows.cmapWidesSpec) :=
  OpenClaim.holds_of_wide 7 Tryd.f7 rfl rfl rfl rfl rfl rfl rfl ⟨rfl, rfl, rfl, rfl, rfl⟩ rfl rfl rfl rfl rfl (by kernel_rfl) Tryd.func7 (by kernel_rfl)
    (of_decide_eq_true (by kernel_rfl)) (by unfold Func.isWrapper; first | (rw [if_pos (by decide +kernel)]; kernel_rfl) | (rw [if_neg (by decide +kernel)]; exact ⟨rfl, rfl⟩))
    (fun os started H enc _ => lifted os started H enc)

theorem proved : Rows.CmapWidesCardSaid :=
  Claim7.holds_tied_plain_at .later [] [.data] true (true, "119a8445e3fae058f8e7519dbe92c3553ac8939fb292280d2234ce8111bcb548") false
    over (fun _ h => by cases h) (by kernel_rfl) (fun _ h => by cases h) cmapWides_row_tie rfl ⟨rfl, rfl⟩ (by kernel_rfl) rfl
    (fun f fn hf hfn => by
      obtain rfl : f = 7 := Option.some.inj ((show Tryd.prog.funcNamed "punchcut/punchcutlaw11.CmapWides" = some 7 by kernel_rfl).symm.trans hf) |>.symm
      obtain rfl : fn = Tryd.f7 := (Option.some.inj (Tryd.func7.symm.trans hfn)).symm
      exact ⟨by kernel_rfl, fun j t ht => by
        rw [Tryd.params7] at ht
        have hm : t ∈ [22, 22, 21, 43] := by simpa using Array.mem_of_getElem? ht
        have hall : ([22, 22, 21, 43].all fun u => !Tryd.prog.wantsStandIn u) = true := by kernel_rfl
        exact (show Tryd.prog.wantsStandIn t = false by simpa using List.all_eq_true.1 hall t hm)⟩)
    (by kernel_rfl)
#print axioms proved
end Go.Proofs.YthkaeimpflggjaaDoor.cmapWides
