/- What the laws of this seat lean on: CmX CmL BsOpen Rise Rise11 BssOpen. -/
import Derived.Test.YthkaeimpflggjaaDoorRows
import Derived.ProofKit
import Derived.LaidMore
import Derived.OpenShut
import Derived.Stop.Joined
import Derived.ChangeSame
import Derived.Deep.RegionHeld3
import Derived.Deep.DeepCutAuto
import Derived.Deep.Matrix
import Derived.Test.YthkaeimpflggjaaDoorBase1
import Derived.Test.YthkaeimpflggjaaDoorBase2
import Derived.Test.YthkaeimpflggjaaDoorBase3
import Derived.Test.YthkaeimpflggjaaDoorBase5
import Derived.Test.YthkaeimpflggjaaDoorBase6
import Derived.Test.YthkaeimpflggjaaDoorBase8

/- A table cmap that is built is read as it was; a map in a box; the document's example. -/
namespace Go.Proofs.YthkaeimpflggjaaDoor
open Go.RowKit
set_option linter.unusedVariables false

theorem risesF_mono {m1 m2 : Int} (h : m1 ≤ m2) : ∀ {l : List Pr} {ah : Int}, risesF m1 ah l = true → risesF m2 ah l = true
  | [], _, _ => rfl
  | p :: r, ah, hr => by
    obtain ⟨h1, h2, h3⟩ := risesF_cons hr
    rw [risesF, risesF_mono h h3, Bool.and_true, decide_eq_true_eq]
    omega

def cMost (wd : Bool) : Int := if wd then 1114111 else 65534
theorem cHd_bytes (wd : Bool) : Bytes (cHd wd) := by
  unfold cHd
  exact bytes_append (b2_bytes _) (bytes_append (b2_bytes _) (bytes_append (b2_bytes _) (bytes_append (b2_bytes _) (b4_bytes _))))
theorem cHd_drop (wd : Bool) (t : List Int) : (cHd wd ++ t).drop 12 = t := by
  rw [List.drop_append, cHd_len, List.drop_of_length_le (by rw [cHd_len]; exact Nat.le_refl _)]
  simp
theorem n4at_of12 {zs : List Int} {r : List Int} {i : Nat} {x : Int} (e : zs.drop i = b4 x ++ r) (h0 : 0 ≤ x) (h1 : x < 4294967296) : n4at zs i = x := by
  unfold n4at
  rw [e]
  have h := be_b4 x h0 h1
  have hl : (b4 x).length = 4 := rfl
  obtain ⟨e1, _⟩ := ask_front (b4 x) r 0 false 4 hl
  unfold num
  rw [e1]
  exact h
/-- One record, that leads behind it. -/
theorem cFind_one {wd : Bool} {t : List Int} (hok : (if wd then gRight t else sRight t) = true) : cFind (cHd wd ++ t) = some (wd, 12) := by
  have hl : (cHd wd ++ t).length = 12 + t.length := by rw [List.length_append, cHd_len]
  have f0 : n2at (cHd wd ++ t) 0 = 0 := n2at_of (by rfl) (by omega) (by omega)
  have f2 : n2at (cHd wd ++ t) 2 = 1 := n2at_of (by rfl) (by omega) (by omega)
  have f4 : n2at (cHd wd ++ t) (4 + 8 * 0) = 3 := n2at_of (by rfl) (by omega) (by omega)
  have f6 : n2at (cHd wd ++ t) (6 + 8 * 0) = (if wd then 10 else 1) := n2at_of (by rfl) (by cases wd <;> simp) (by cases wd <;> simp)
  have f8 : n4at (cHd wd ++ t) (8 + 8 * 0) = 12 := n4at_of12 (by rfl) (by omega) (by omega)
  have hN : cN (cHd wd ++ t) = 1 := by unfold cN; rw [f2]; rfl
  have hF : cFront (cHd wd ++ t) = true := by
    unfold cFront
    rw [f0, hN, hl]
    simp
    omega
  have hP : cPick (cHd wd ++ t) = some (wd, 12) := by
    unfold cPick
    rw [hN]
    unfold cFst cFst cIs cVal
    rw [f4, f6, f8]
    cases wd <;> simp
  have hO : cOk (cHd wd ++ t) wd 12 = true := by
    unfold cOk
    rw [hl, show (12 : Int).toNat = 12 from rfl, cHd_drop, decide_eq_true (by omega), Bool.true_and]
    exact hok
  unfold cFind
  rw [hF, hP]
  simp [hO]

/-- Of pairs that rise. -/
theorem cOut_right {l : List Pr} {wd : Bool} (hg : PrG l) (h : risesF (cMost wd) (-1) l = true) (hl : l.length ≤ 7000) :
    cOut l wd = cHd wd ++ cTab l wd ∧ (if wd then gRight (cTab l wd) else sRight (cTab l wd)) = true ∧ Bytes (cTab l wd) ∧ (∀ code, cLook wd (cTab l wd) code = glyphOf code l) ∧ (cTab l wd).length ≤ 100000 ∧ 16 ≤ (cTab l wd).length ∧ cTab l wd = (if wd then gBytes (runsF folG l) else sTab ((sRuns l).map sgR)) := by
  cases wd with
  | true =>
    obtain ⟨e0, e1, e2, e3, e4, e5⟩ := gOut_right hg h (by omega)
    have hrn := runsF_len folG l
    have hL : (cTab l true).length = 16 + 12 * (runsF folG l).length := e5
    refine ⟨?_, e1, e4, fun code => ?_, by omega, by omega, e0⟩
    · unfold cOut
      rw [if_neg (by omega)]
    · show lookR (grps (gOut l) (gN (gOut l))) code = _
      rw [e3]
      exact lookG_runs 1114111 code l (-1) hg h
  | false =>
    obtain ⟨e0, e1, e2, e3, e4, e5⟩ := sOut_right hg h (by omega)
    have hrn := runsF_len folS l
    have hL : (cTab l false).length = 16 + 8 * ((runsF folS l).length + 1) := e5
    refine ⟨?_, e1, e4, fun code => ?_, by omega, by omega, e0⟩
    · unfold cOut
      rw [if_neg (by omega)]
    · show lookS (sOut l) (sN (sOut l)) code 0 (sN (sOut l)) = _
      rw [e2]
      exact e3 code

theorem cmV_three (wd : Bool) (A : Option Addr) (n c : Nat) : ∃ (A1 : Option Addr) (n1 c1 : Nat) (A2 : Option Addr) (n2 c2 : Nat), cmV wd A n c = .agg #[.bool wd, .slice A1 n1 c1, .slice A2 n2 c2] := by
  cases wd with
  | true => exact ⟨_, _, _, _, _, _, rfl⟩
  | false => exact ⟨_, _, _, _, _, _, rfl⟩

/-- A map in a box. -/
structure BoxC (w wr : World) (bx : Nat) (wd : Bool) (A1 : Option Addr) (n1 c1 : Nat) (A2 : Option Addr) (n2 c2 : Nat) (t : List Int) (A : Option Addr) (c g : Nat) : Prop where
  box : wr.heap[bx]? = some (.cells #[.bool wd, .slice A1 n1 c1, .slice A2 n2 c2] 37 (0, 0))
  eq : cmV wd A (cCnt wd t) c = .agg #[.bool wd, .slice A1 n1 c1, .slice A2 n2 c2]
  map : CMap wr wd t A g
  bel : Below w.heap.size w wr

section
variable {w wr w' : World} {bx : Nat} {wd : Bool} {A1 : Option Addr} {n1 c1 : Nat} {A2 : Option Addr} {n2 c2 : Nat} {t : List Int} {A : Option Addr} {c g : Nat}
theorem BoxC.below (h : BoxC w wr bx wd A1 n1 c1 A2 n2 c2 t A c g) (hb : Below wr.heap.size wr w') : BoxC w w' bx wd A1 n1 c1 A2 n2 c2 t A c g := ⟨kept_block h.box hb, h.eq, h.map.below hb, h.bel.trans (hb.mono h.bel.size)⟩
theorem BoxC.cells (h : BoxC w wr bx wd A1 n1 c1 A2 n2 c2 t A c g) : wr.cell? ⟨bx, 0, none⟩ = some (.bool wd) ∧ wr.cell? ⟨bx, 1, none⟩ = some (.slice A1 n1 c1) ∧ wr.cell? ⟨bx, 2, none⟩ = some (.slice A2 n2 c2) := ⟨cell_of_row _ _ 0 _ _ _ h.box, cell_of_row _ _ 1 _ _ _ h.box, cell_of_row _ _ 2 _ _ _ h.box⟩
theorem BoxC.look (h : BoxC w wr bx wd A1 n1 c1 A2 n2 c2 t A c g) (code v : Int) (hv : cLook wd t code = v) (c0 : -2147483648 ≤ code) (c1' : code ≤ 2147483647) : Calls Tryd.prog 15 #[.agg #[.bool wd, .slice A1 n1 c1, .slice A2 n2 c2], .int .i32 code] wr (Ret wr (.int .u16 v)) := by
  subst hv
  have := clook_any wd t A c g code wr h.map c0 c1'
  rwa [h.eq] at this
theorem BoxC.new (V : World) (hV : Below w.heap.size w V) (hm : CMap V wd t A g) (he : cmV wd A (cCnt wd t) c = .agg #[.bool wd, .slice A1 n1 c1, .slice A2 n2 c2]) : BoxC w (V.alloc (.cells #[.bool wd, .slice A1 n1 c1, .slice A2 n2 c2] 37)) V.heap.size wd A1 n1 c1 A2 n2 c2 t A c g := by
  have hA : Below V.heap.size V (V.alloc (.cells #[.bool wd, .slice A1 n1 c1, .slice A2 n2 c2] 37)) := (Below.refl _ _).alloc (Nat.le_refl _) _
  exact ⟨heap_alloc_new V _, he, hm.below hA, hV.trans (hA.mono hV.size)⟩
end
theorem cwide_of (wd : Bool) (A1 : Option Addr) (n1 c1 : Nat) (A2 : Option Addr) (n2 c2 : Nat) (W : World) : Calls Tryd.prog 14 #[.agg #[.bool wd, .slice A1 n1 c1, .slice A2 n2 c2]] W (Ret W (.bool wd)) := by
  have hA := (Below.refl W.heap.size W).alloc (Nat.le_refl _) (.cells #[.bool wd, .slice A1 n1 c1, .slice A2 n2 c2] 37)
  go_enter Tryd.func14, Tryd.ntmps14
  go_wp2
  go_ret
  exact ⟨rfl, hA⟩
theorem CMap.zero (w : World) : CMap w false [] none 0 := ⟨SMap.nil _ _ (fun x hx => by cases hx), by decide⟩
theorem cLook_zero (code : Int) : cLook false [] code = 0 := rfl

def ex11 : List Pr := [⟨65, 3⟩]
theorem ex11_g : PrG ex11 := by intro p hp; simp [ex11] at hp; subst hp; simp

set_option maxRecDepth 100000 in
set_option maxHeartbeats 2000000 in
theorem awake11_any (w : World) (hR : Rk w) : Calls Tryd.prog 8 #[] w (True_ w) := by
  have hA : Below w.heap.size w (w.alloc (.cells #[.int .i32 65, .int .u16 3] 45)) := (Below.refl _ _).alloc (Nat.le_refl _) _
  have hrow : RowS encP 2 (w.alloc (.cells #[.int .i32 65, .int .u16 3] 45)) (some ⟨w.heap.size, 0, none⟩) 1 ex11 := rowS_vals encP_len w 45 ex11 _ rfl 1 rfl
  have hris : risesF (cMost false) (-1) ex11 = true := by decide
  obtain ⟨e0, e1, e2, e3, e4, e5, _⟩ := cOut_right (wd := false) ex11_g hris (by decide)
  have el := e3 65
  rw [show glyphOf 65 ex11 = 3 by decide] at el
  have hf := cFind_one (wd := false) (t := cTab ex11 false) e1
  have hd := cHd_drop false (cTab ex11 false)
  have HG := Lib.hid (cbuild_any (some ⟨w.heap.size, 0, none⟩) 1 1 ex11 false _ hrow (by omega) ex11_g (by omega))
  rw [e0] at HG
  have hcl := cHd_len false
  have hBy : Bytes (cHd false ++ cTab ex11 false) := bytes_append (cHd_bytes _) e2
  have hln : (cHd false ++ cTab ex11 false).length ≤ 200000 := by rw [List.length_append]; omega
  clear hrow hris e0 e1 e2 e3 e4 e5 hcl
  generalize cTab ex11 false = t at *
  generalize cHd false ++ t = zs at *
  go_enter Tryd.func8, Tryd.ntmps8
  go_wp2_with fail
  with_reducible refine HG.out.mono ?_
  rintro e w1 ⟨A1, n1, c1, rfl, hown1, hb1⟩
  have hl1 := hown1.len
  have hbw := hA.trans (hb1.mono hA.size)
  have HP := Lib.hid (cparse_any A1 n1 c1 zs w1 hown1.row hBy (by omega) hown1.cap (hR.below hbw))
  clear HG hA hb1 hown1 hR
  go_wp2_with fail
  with_reducible refine HP.out.mono ?_
  rintro e w2 ⟨hb2, ⟨hf', _⟩ | ⟨wd, v, hf', A2, c2, g2, rfl, hm⟩⟩
  · rw [hf] at hf'; cases hf'
  rw [hf] at hf'
  simp at hf'
  obtain ⟨rfl, rfl⟩ := hf'
  rw [hd] at hm ⊢
  obtain ⟨B1, m1, d1, B2, m2, d2, he⟩ := cmV_three false A2 (cCnt false t) c2
  have hs := BoxC.new w2 (hbw.trans (hb2.mono hbw.size)) hm he
  have HL : Hid (∀ W, BoxC w W w2.heap.size false B1 m1 d1 B2 m2 d2 t A2 c2 g2 → Calls Tryd.prog 15 #[.agg #[.bool false, .slice B1 m1 d1, .slice B2 m2 d2], .int .i32 65] W (Ret W (.int .u16 3))) := fun W h => h.look 65 3 el (by omega) (by omega)
  have HW := Lib.hid (fun W => cwide_of false B1 m1 d1 B2 m2 d2 W)
  rw [he]
  obtain ⟨k0, k1, k2⟩ := hs.cells
  clear hm he hbw hb2 el hd hf HP hBy hln hl1
  go_wp2_with (first
    | (go_at_call 14; (with_reducible refine (HW.out _).mono ?_); rintro e wn ⟨rfl, hbn⟩; replace hs := hs.below hbn; obtain ⟨k0, k1, k2⟩ := hs.cells; clear hbn)
    | (go_at_call 15; (with_reducible refine (HL.out _ hs).mono ?_); rintro e wn ⟨rfl, hbn⟩; replace hs := hs.below hbn; obtain ⟨k0, k1, k2⟩ := hs.cells; clear hbn))
  go_ret
  exact ⟨rfl, hs.bel⟩

end Go.Proofs.YthkaeimpflggjaaDoor

/- The listed variable 'ranked': what a row's condition says of memory. -/
namespace Go.Proofs.YthkaeimpflggjaaDoor
open Go.ChangeShapes Go.WideShapes Go.ChangeAt Go.RowKit
set_option linter.unusedVariables false

abbrev laid11 : List (String × DataW Unit) := [("punchcut/cmap.ranked", Rows.laid_punchcut_cmap_ranked)]
theorem Tryd.gRanked : Tryd.prog.globalNamed "punchcut/cmap.ranked" = some 0 := by kernel_rfl
theorem Tryd.tRanked : (Tryd.prog.globals[0]?).map (·.type) = some 77 := by kernel_rfl

/-- The door's own heap meets the condition. -/
theorem door_met (os : Os) (args : Array Value) : laidMetH Tryd.prog laid11 ((World.doorLaid Tryd.prog 400 os).forCall (fun _ _ => 0) ⟨#[], args, []⟩).memory :=
  laidMetH_of_parts3 (fuel := 8) (laidMet_of_run' 8 (by kernel_rfl) (by kernel_rfl)) (by kernel_rfl) (by kernel_rfl)

theorem pair_of_trod {H : Type} {enc : TypeId × Value → H} {W : World} {base fuel : Nat} {sp : Nat → Bool} {held : Bool} {cs : List Value} {x : DataW H × List MemPlace} {a b : Int} (h : DataW.trod enc Tryd.prog W base sp held fuel 65 cs = some x)
    (hx : x.1 = .agg [.lit (.int .u16 a), .lit (.int .u16 b)]) : cs = [.int .u16 a, .int .u16 b] := by
  obtain ⟨ys, n, rfl, rfl, hl, hy, he⟩ := DataW.trod_struct Tryd.underlying65 h
  have c2 : Tryd.prog.cellsOf 65 = 2 := by kernel_rfl
  have c1 : Tryd.prog.cellsOf 43 = 1 := by kernel_rfl
  have e0 : DataW.trod enc Tryd.prog W base sp held n 43 ((cs.drop 0).take (Tryd.prog.cellsOf 43)) = ys[0]? := he 0 _ rfl
  have e1 : DataW.trod enc Tryd.prog W base sp held n 43 ((cs.drop 1).take (Tryd.prog.cellsOf 43)) = ys[1]? := he 1 _ rfl
  rw [c1] at e0 e1
  rw [c2] at hl
  clear he h
  match ys, hy, hx, e0, e1 with
  | [y0, y1], _, hx, e0, e1 =>
    simp only [List.map_cons, List.map_nil, DataW.agg.injEq, List.cons.injEq, and_true] at hx
    obtain ⟨k0, p0, q0, _⟩ := DataW.trod_int Tryd.underlying43 (show DataW.trod enc Tryd.prog W base sp held n 43 _ = some y0 from e0)
    obtain ⟨k1, p1, q1, _⟩ := DataW.trod_int Tryd.underlying43 (show DataW.trod enc Tryd.prog W base sp held n 43 _ = some y1 from e1)
    rw [q0, q1] at hx
    simp at hx
    obtain ⟨rfl, rfl⟩ := hx
    match cs, hl with
    | [d0, d1], _ =>
      simp at p0 p1
      rw [p0, p1]

theorem eight {l : List Value} (hl : l.length = 8) (b0 : (l.drop (0 * 2)).take 2 = [.int .u16 3, .int .u16 10]) (b1 : (l.drop (1 * 2)).take 2 = [.int .u16 0, .int .u16 4]) (b2 : (l.drop (2 * 2)).take 2 = [.int .u16 3, .int .u16 1]) (b3 : (l.drop (3 * 2)).take 2 = [.int .u16 0, .int .u16 3]) : l = cellsOf .u16 rkL := by
  match l, hl with
  | [d0, d1, d2, d3, d4, d5, d6, d7], _ =>
    simp at b0 b1 b2 b3
    simp [cellsOf, rkL, b0, b1, b2, b3]

set_option maxRecDepth 100000 in
theorem rk_of_laid {W : World} (h : laidMetH Tryd.prog laid11 W) : Rk W := by
  rw [MakeChecks.laidMetH_plain _ _ _ (by kernel_rfl)] at h
  obtain ⟨ps, ⟨g0, t0, cs0, f0, p0, q0, hg0, ht0, hv0, hd0, _, _⟩, _, _⟩ := h
  obtain rfl := Option.some.inj (Tryd.gRanked.symm.trans hg0)
  obtain rfl := Option.some.inj (Tryd.tRanked.symm.trans ht0)
  obtain ⟨xs, m1, rfl, hx1, hlen, hn3, hel⟩ := DataW.trod_array Tryd.underlying77 hd0
  have c8 : Tryd.prog.cellsOf 77 = 8 := by kernel_rfl
  have c2 : Tryd.prog.cellsOf 65 = 2 := by kernel_rfl
  rw [c8] at hlen
  simp only [Prod.mk.injEq] at hx1
  obtain ⟨hxa, _⟩ := hx1
  have h0 := hel 0 (by decide)
  have h1 := hel 1 (by decide)
  have h2 := hel 2 (by decide)
  have h3 := hel 3 (by decide)
  rw [c2] at h0 h1 h2 h3
  match xs, hn3, hxa, h0, h1, h2, h3 with
  | [x0, x1, x2, x3], _, hxa, h0, h1, h2, h3 =>
    unfold Rows.laid_punchcut_cmap_ranked at hxa
    simp only [List.map_cons, List.map_nil, DataW.agg.injEq, List.cons.injEq, and_true] at hxa
    obtain ⟨a0, a1, a2, a3⟩ := hxa
    have b0 := pair_of_trod (show DataW.trod _ Tryd.prog W 0 _ false m1 65 _ = some x0 from h0) a0.symm
    have b1 := pair_of_trod (show DataW.trod _ Tryd.prog W 0 _ false m1 65 _ = some x1 from h1) a1.symm
    have b2 := pair_of_trod (show DataW.trod _ Tryd.prog W 0 _ false m1 65 _ = some x2 from h2) a2.symm
    have b3 := pair_of_trod (show DataW.trod _ Tryd.prog W 0 _ false m1 65 _ = some x3 from h3) a3.symm
    have hcs : cs0.toList = cellsOf .u16 rkL := by
      exact eight hlen b0 b1 b2 b3
    have hc : ∀ i, W.cell? ⟨0, i, none⟩ = cs0.toList[i]? := fun i => by
      have := World.var?_cell hg0 hv0 i
      simpa using this
    refine ⟨rfl, fun _ => ⟨0, 0, rfl, ?_, fun j u hu => ?_⟩⟩
    · refine World.block_lt_of_cell? W ⟨0, 0, none⟩ (u := .int .u16 3) ?_
      rw [hc 0, hcs]
      rfl
    · rw [Nat.zero_add, hc j, hcs]
      exact hu

end Go.Proofs.YthkaeimpflggjaaDoor

/- Bytes that come in as a slice. -/
namespace Go.Proofs.YthkaeimpflggjaaDoor
open Go.RowKit Go.ChangeShapes Go.WideShapes Go.ChangeAt
set_option linter.unusedVariables false

set_option maxRecDepth 100000 in
theorem open_bs {H : Type} {enc : TypeId × Value → H} {W : World} {base : Nat} {v : Value} {d : DataW H} {p : List MemPlace} (hv : Value.okWide Tryd.prog W .any base 28 v) (h : DataW.Trod enc Tryd.prog W 0 (fun _ => true) true 28 v d p) :
    ∃ A n c zs, v = .slice A n c ∧ Row W A n (cellsOf .u8 zs) ∧ Bytes zs ∧ n ≤ 9223372036854775807 := by
  obtain ⟨a, len, cap, rfl⟩ := okWide_slice Tryd.underlying28 hv
  obtain ⟨fuel, hf⟩ := h
  have key : ∃ zs, (a = none ∧ len = 0 ∧ cap = 0 ∧ zs = []) ∨ ∃ x, a = some x ∧ len ≤ cap ∧ cap ≤ maxLen ∧ zs.length = cap ∧ (∀ i, i < zs.length → W.cell? (x.add i) = some (.int .u8 (zs.getD i 0))) ∧ ∀ n ∈ zs, (Lit.int .u8 n).wf = true := by
    rcases open_ints Tryd.underlying28 Tryd.underlying5 (by kernel_rfl) hf with ⟨hcs, _⟩ | ⟨x, l, c, zs, hcs, _, hl, hm, hz, _, hcell, hwz⟩
    · simp [Value.cells] at hcs
      obtain ⟨rfl, rfl, rfl⟩ := hcs
      exact ⟨[], .inl ⟨rfl, rfl, rfl, rfl⟩⟩
    · simp [Value.cells] at hcs
      obtain ⟨rfl, rfl, rfl⟩ := hcs
      exact ⟨zs, .inr ⟨_, rfl, hl, hm, by simpa using hz, hcell, hwz⟩⟩
  obtain ⟨zs, w0⟩ := key
  exact ⟨a, len, cap, zs.take len, rfl, (row_of w0).1, bytes_of (row_of w0).2.2, (row_of w0).2.1⟩

end Go.Proofs.YthkaeimpflggjaaDoor

/- Pairs that rise by gaps, as the laws of groups lay them: a contract over this seat's translation. -/
namespace Go.Proofs.YthkaeimpflggjaaDoor
open Go.RowKit
set_option linter.unusedVariables false

/-- Two fresh rows of the same pairs. -/
structure TwoP (w wr : World) (A1 : Option Addr) (c1 : Nat) (A2 : Option Addr) (c2 m : Nat) (l : List Pr) : Prop where
  o1 : OwnS 45 encP 2 wr w.heap.size A1 m c1 l
  o2 : OwnS 60 encQ 2 wr w.heap.size A2 m c2 l
  bel : Below w.heap.size w wr
theorem TwoP.below {w wr w' : World} {A1 A2 : Option Addr} {c1 c2 m : Nat} {l : List Pr} (h : TwoP w wr A1 c1 A2 c2 m l) (hb : Below wr.heap.size wr w') : TwoP w w' A1 c1 A2 c2 m l :=
  ⟨h.o1.below hb, h.o2.below hb, h.bel.trans (hb.mono h.bel.size)⟩

theorem TwoP.ne {w wr : World} {A1 A2 : Option Addr} {c1 c2 m : Nat} {l : List Pr} (h : TwoP w wr A1 c1 A2 c2 m l) : ∀ g, blockOf A2 = some g → some g ≠ blockOf A1 := by
  intro g hg e
  rcases h.o1.shape with ⟨rfl, _⟩ | ⟨g1, cur1, rfl, _, _, hh1, _⟩
  · simp [blockOf] at e
  · rcases h.o2.shape with ⟨rfl, _⟩ | ⟨g2, cur2, rfl, _, _, hh2, _⟩
    · simp [blockOf] at hg
    · simp [blockOf] at hg e
      subst hg
      subst e
      rw [hh1] at hh2
      simp at hh2
theorem TwoP.one {w wr w3 : World} {A1 A2 : Option Addr} {c1 c2 m : Nat} {l : List Pr} (h : TwoP w wr A1 c1 A2 c2 m l) {o : Obj} (hg : ((wr.alloc o).drew).grownBy w3 (blockOf A1)) : OwnS 60 encQ 2 w3 w.heap.size A2 m c2 l ∧ Below w.heap.size w w3 :=
  ⟨((h.o2.alloc o).drew).grown hg h.ne, ((h.bel.alloc h.bel.size o).drew).grown hg (by have := h.bel.size; simp; omega) (fun q e => (h.o1.from_ q e).1)⟩
/-- The first row has got one more, the second one gets it. -/
theorem TwoP.two {w w3 w4 : World} {A3 A2 A4 : Option Addr} {c3 c2 c4 m m' : Nat} {l l' : List Pr} (h1 : OwnS 45 encP 2 w3 w.heap.size A3 m' c3 l') (h2 : OwnS 60 encQ 2 w3 w.heap.size A2 m c2 l) (hb : Below w.heap.size w w3) {o : Obj} (h4 : OwnS 60 encQ 2 w4 w.heap.size A4 m' c4 l') (hg : (w3.alloc o).grownBy w4 (blockOf A2)) : TwoP w w4 A3 c3 A4 c4 m' l' :=
  ⟨(h1.alloc o).grown hg (fun g hg' e => by
    rcases h1.shape with ⟨rfl, _⟩ | ⟨g1, cur1, rfl, _, _, hh1, _⟩
    · simp [blockOf] at hg'
    · rcases h2.shape with ⟨rfl, _⟩ | ⟨g2, cur2, rfl, _, _, hh2, _⟩
      · simp [blockOf] at e
      · simp [blockOf] at hg' e
        subst hg'
        subst e
        rw [hh1] at hh2
        simp at hh2), h4, (hb.alloc hb.size o).grown hg (by have := hb.size; simp; omega) (fun q e => (h2.from_ q e).1)⟩

theorem rowS_at {α : Type} {enc : α → List Value} {k : Nat} (hk : ∀ x, (enc x).length = k) (V : World) (b : Nat) (hb : b = V.heap.size) (t : TypeId) (l : List α) (cs : Array Value) (hcs : cs = (flat enc l).toArray) (n : Nat) (hn : l.length = n) : RowS enc k (V.alloc (.cells cs t)) (some ⟨b, 0, none⟩) n l := by
  subst hb
  exact rowS_vals hk V t l cs hcs n hn
theorem TwoP.one2 {w wr w3 : World} {A1 A2 : Option Addr} {c1 c2 m : Nat} {l : List Pr} (h : TwoP w wr A1 c1 A2 c2 m l) {o o' : Obj} (hg : (((wr.alloc o).alloc o').drew).grownBy w3 (blockOf A1)) : OwnS 60 encQ 2 w3 w.heap.size A2 m c2 l ∧ Below w.heap.size w w3 :=
  ⟨(((h.o2.alloc o).alloc o').drew).grown hg h.ne, (((h.bel.alloc h.bel.size o).alloc (by have := h.bel.size; simp; omega) o').drew).grown hg (by have := h.bel.size; simp; omega) (fun q e => (h.o1.from_ q e).1)⟩
theorem TwoP.row2 {w wr w3 V : World} {A1 A2 : Option Addr} {c1 c2 m b : Nat} {l l2 : List Pr} (h : TwoP w wr A1 c1 A2 c2 m l) (hr : RowS encQ 2 V (some ⟨b, 0, none⟩) 1 l2) (hb : wr.heap.size ≤ b) (hg : V.grownBy w3 (blockOf A1)) : RowS encQ 2 w3 (some ⟨b, 0, none⟩) 1 l2 :=
  hr.grown hg (fun q e e' => by simp [blockOf] at e; subst e; have := (h.o1.from_ b e'.symm).2; omega)
theorem TwoP.two2 {w w3 w4 : World} {A3 A2 A4 : Option Addr} {c3 c2 c4 m m' : Nat} {l l' : List Pr} (h1 : OwnS 45 encP 2 w3 w.heap.size A3 m' c3 l') (h2 : OwnS 60 encQ 2 w3 w.heap.size A2 m c2 l) (hb : Below w.heap.size w w3) (h4 : OwnS 60 encQ 2 w4 w.heap.size A4 m' c4 l') (hg : w3.grownBy w4 (blockOf A2)) : TwoP w w4 A3 c3 A4 c4 m' l' :=
  ⟨h1.grown hg (fun g hg' e => by
    rcases h1.shape with ⟨rfl, _⟩ | ⟨g1, cur1, rfl, _, _, hh1, _⟩
    · simp [blockOf] at hg'
    · rcases h2.shape with ⟨rfl, _⟩ | ⟨g2, cur2, rfl, _, _, hh2, _⟩
      · simp [blockOf] at e
      · simp [blockOf] at hg' e
        subst hg'
        subst e
        rw [hh1] at hh2
        simp at hh2), h4, hb.grown hg hb.size (fun q e => (h2.from_ q e).1)⟩

/-- What it leaves. -/
def RetRise (most : Int) (w : World) (e : Ending) (w' : World) : Prop :=
  ∃ (l : List Pr) (A1 A2 : Option Addr) (c1 c2 m : Nat), e = .returned (.tuple #[.slice A1 m c1, .slice A2 m c2]) ∧ TwoP w w' A1 c1 A2 c2 m l ∧ m ≤ 40 ∧ PrG l ∧ risesF most (-1) l = true

end Go.Proofs.YthkaeimpflggjaaDoor

/- Pairs that rise by gaps, as the laws of layer 11 lay them: a contract over this seat's translation. -/
namespace Go.Proofs.YthkaeimpflggjaaDoor
open Go.RowKit
set_option linter.unusedVariables false

set_option maxRecDepth 100000 in
set_option maxHeartbeats 4000000 in
theorem rising11_any (A0 : Option Addr) (n0 c0 : Nat) (z0 : List Int) (A1 : Option Addr) (n1 c1 : Nat) (z1 : List Int) (w : World) (hr0 : Row w A0 n0 (cellsOf .u16 z0)) (hW0 : Wf .u16 z0) (hn0 : n0 ≤ 9223372036854775807)
    (hr1 : Row w A1 n1 (cellsOf .u16 z1)) (hW1 : Wf .u16 z1) (hn1 : n1 ≤ 9223372036854775807) :
    Calls Tryd.prog 9 #[.slice A0 n0 c0, .slice A1 n1 c1] w (RetRise 65534 w) := by
  obtain ⟨i1, hi1, hz01, hz11, hz21⟩ := info_parts Tryd.pairinfo
  obtain ⟨i2, hi2, hz02, hz12, hz22⟩ := info_parts Tryd.rpairinfo
  have H0 := Lib.hid hr0.len
  have H1 := Lib.hid hr1.len
  have HW0 := Lib.hid hW0
  have HW1 := Lib.hid hW1
  clear hW0 hW1
  go_enter Tryd.func9, Tryd.ntmps9
  go_wp2
  go_loopw [6, 7, 8, 13] (fun v x t i wr => ∃ (k : Nat) (l : List Pr) (B1 B2 : Option Addr) (d1 d2 : Nat) (a : Int), k ≤ n0 ∧ k ≤ 30 ∧ i = .int .i64 k ∧ t = .int .i64 a ∧ v = .slice B1 k d1 ∧ x = .slice B2 k d2 ∧ TwoP w wr B1 d1 B2 d2 k l ∧ -1 ≤ a ∧ a ≤ 65534 ∧ Hid (PrG l ∧ risesF 65534 (-1) l = true ∧ lastC (-1) l = a)) (fun _ _ _ i _ => n0 - (intOf i).toNat)
  case atStart => exact ⟨0, [], none, none, 0, 0, -1, Nat.zero_le _, by omega, rfl, rfl, rfl, rfl, ⟨OwnS.nil _ _ _ _ _, OwnS.nil _ _ _ _ _, Below.refl _ _⟩, by omega, by omega, Lib.hid ⟨fun p hp => by simp at hp, rfl, rfl⟩⟩
  case round =>
    obtain ⟨k, l, B1, B2, d1, d2, a, hk, hk40, rfl, rfl, rfl, rfl, hs, ha0, ha1, hI⟩ := hrel
    by_cases hlt : k < n0
    · obtain ⟨y, hy⟩ := getP (l := z0) (j := k) (by have := H0.out; omega)
      obtain ⟨g, off, rfl, hg, hcy⟩ := (hr0.below hs.bel).at (j := k) (u := .int .u16 y) (cellsOf_get hy)
      obtain ⟨y0, y1⟩ := bounds_u16 (HW0.out y (List.mem_of_getElem? hy))
      clear hy
      by_cases h40 : k < 30
      · by_cases hk1 : k < n1
        · obtain ⟨x, hx⟩ := getP (l := z1) (j := k) (by have := H1.out; omega)
          obtain ⟨g1, off1, rfl, hg1, hcx⟩ := (hr1.below hs.bel).at (j := k) (u := .int .u16 x) (cellsOf_get hx)
          obtain ⟨x0, x1⟩ := bounds_u16 (HW1.out x (List.mem_of_getElem? hx))
          have Hx := Lib.hid hx
          clear hx
          by_cases hbig : a + (1 + y % 2000) ≤ 65534
          · have HN : Hid (PrG (l ++ [⟨a + (1 + y % 2000), x⟩]) ∧ risesF 65534 (-1) (l ++ [⟨a + (1 + y % 2000), x⟩]) = true ∧ lastC (-1) (l ++ [⟨a + (1 + y % 2000), x⟩]) = a + (1 + y % 2000)) := by
              refine ⟨fun p hp => ?_, ?_, lastC_snoc _ _ _⟩
              · rcases List.mem_append.1 hp with h | h
                · exact hI.out.1 p h
                · simp at h; subst h; exact ⟨x0, x1⟩
              · rw [risesF_snoc, hI.out.2.1, hI.out.2.2]
                simp
                omega
            have hy2 : 0 ≤ y % 2000 ∧ y % 2000 < 2000 := by omega
            clear hI
            have hlen := hs.o1.len
            have hsz := hs.bel.size
            have F1 : IntKind.i32.wrap (a + (1 + y % 2000)) = a + (1 + y % 2000) := IntWalk.i32_in _ (by omega)
            go_upto_region 10 with fail
            generalize y % 2000 = yy at *
            have HC : Hid (∀ W : World, Below w.heap.size w W → W.cell? ⟨g1, off1 + k, none⟩ = some (.int .u16 x)) := by
              show ∀ _, _
              intro W hW
              obtain ⟨g', off', e', _, hc'⟩ := (hr1.below hW).at (j := k) (u := .int .u16 x) (cellsOf_get Hx.out)
              simp only [Option.some.injEq, Addr.mk.injEq, and_true] at e'
              obtain ⟨rfl, rfl⟩ := e'
              exact hc'
            have hB := hs.bel
            have F2 : IntKind.i64.wrap x = x := IntWalk.i64_in _ (by omega)
            go_region_held3 (fun w' => w'.cell? ⟨g1, off1 + k, none⟩ = some (.int .u16 x))
              (first | exact hcx | exact HC.out _ hB.drew | exact HC.out _ (hB.alloc hB.size _).drew | exact HC.out _ hB | exact HC.out _ (hB.alloc hB.size _) | exact HC.out _ ((hB.alloc hB.size _).alloc (by have := hB.size; simp; omega) _).drew | exact HC.out _ ((hB.alloc hB.size _).alloc (by have := hB.size; simp; omega) _))
              (first
                | (refine step_append_rowS rfl (.tmp 34) (.tmp 42) _ rfl 45 encP 2 encP_len (by omega) encP_one w.heap.size i1 _ 8 Tryd.underlying24 hi1 hz01 hz11 rfl hz21 B1 k d1 l rfl (hs.o1.alloc _).drew (some ⟨wr.heap.size, 0, none⟩) 1 1 [⟨a + (1 + yy), x⟩] rfl (rowS_vals encP_len wr 45 [⟨a + (1 + yy), x⟩] _ rfl 1 rfl).drew (by omega) (by omega) (by simp; omega) ?_; intro A3 c3 w3 ho3 hg3; obtain ⟨ho2, hB3⟩ := hs.one hg3; replace hB := hB3; have hs3 := hB3.size; clear hB3 hg3)
                | (refine step_append_rowS rfl (.tmp 34) (.tmp 42) _ rfl 45 encP 2 encP_len (by omega) encP_one w.heap.size i1 _ 8 Tryd.underlying24 hi1 hz01 hz11 rfl hz21 B1 k d1 l rfl ((hs.o1.alloc _).alloc _).drew (some ⟨wr.heap.size, 0, none⟩) 1 1 [⟨a + (1 + yy), x⟩] rfl ((rowS_vals encP_len wr 45 [⟨a + (1 + yy), x⟩] _ rfl 1 rfl).below ((Below.refl _ _).alloc (Nat.le_refl _) _)).drew (by omega) (by omega) (by simp; omega) ?_; intro A3 c3 w3 ho3 hg3; have hrow2 := hs.row2 (b := wr.heap.size + 1) ((rowS_at encQ_len (wr.alloc _) (wr.heap.size + 1) (by simp) 60 [⟨a + (1 + yy), x⟩] _ rfl 1 rfl).drew) (by omega) hg3; obtain ⟨ho2, hB3⟩ := hs.one2 hg3; replace hB := hB3; have hs3 := hB3.size; clear hB3 hg3)
                | (refine step_append_rowS rfl (.tmp 34) (.tmp 42) _ rfl 45 encP 2 encP_len (by omega) encP_one w.heap.size i1 _ 8 Tryd.underlying24 hi1 hz01 hz11 rfl hz21 B1 k d1 l rfl ((hs.o1.alloc _).alloc _).drew (some ⟨wr.heap.size + 1, 0, none⟩) 1 1 [⟨a + (1 + yy), x⟩] rfl (rowS_at encP_len (wr.alloc _) (wr.heap.size + 1) (by simp) 45 [⟨a + (1 + yy), x⟩] _ rfl 1 rfl).drew (by omega) (by omega) (by simp; omega) ?_; intro A3 c3 w3 ho3 hg3; have hrow2 := hs.row2 (b := wr.heap.size) (((rowS_vals encQ_len wr 60 [⟨a + (1 + yy), x⟩] _ rfl 1 rfl).below ((Below.refl _ _).alloc (Nat.le_refl _) _)).drew) (by omega) hg3; obtain ⟨ho2, hB3⟩ := hs.one2 hg3; replace hB := hB3; have hs3 := hB3.size; clear hB3 hg3)
                | (refine step_append_rowS rfl (.tmp 44) (.tmp 52) _ rfl 60 encQ 2 encQ_len (by omega) encQ_one w.heap.size i2 _ 16 Tryd.underlying25 hi2 hz02 hz12 rfl hz22 B2 k d2 l rfl (ho2.alloc _) (some ⟨w3.heap.size, 0, none⟩) 1 1 [⟨a + (1 + yy), x⟩] rfl (rowS_vals encQ_len w3 60 [⟨a + (1 + yy), x⟩] _ rfl 1 rfl) (by omega) (by omega) (by simp; omega) ?_; intro A4 c4 w4 ho4 hg4; have hs4 := TwoP.two ho3 ho2 hB ho4 hg4; replace hB := hs4.bel; clear hg4 ho4)
                | (refine step_append_rowS rfl (.tmp 44) (.tmp 52) _ rfl 60 encQ 2 encQ_len (by omega) encQ_one w.heap.size i2 _ 16 Tryd.underlying25 hi2 hz02 hz12 rfl hz22 B2 k d2 l rfl ho2 (some ⟨wr.heap.size, 0, none⟩) 1 1 [⟨a + (1 + yy), x⟩] rfl hrow2 (by omega) (by omega) hB.size ?_; intro A4 c4 w4 ho4 hg4; have hs4 := TwoP.two2 ho3 ho2 hB ho4 hg4; replace hB := hs4.bel; clear hg4 ho4)
                | (refine step_append_rowS rfl (.tmp 44) (.tmp 52) _ rfl 60 encQ 2 encQ_len (by omega) encQ_one w.heap.size i2 _ 16 Tryd.underlying25 hi2 hz02 hz12 rfl hz22 B2 k d2 l rfl ho2 (some ⟨wr.heap.size + 1, 0, none⟩) 1 1 [⟨a + (1 + yy), x⟩] rfl hrow2 (by omega) (by omega) hB.size ?_; intro A4 c4 w4 ho4 hg4; have hs4 := TwoP.two2 ho3 ho2 hB ho4 hg4; replace hB := hs4.bel; clear hg4 ho4))
            all_goals
              go_wp2
              go_roundw
              case rel => exact ⟨k + 1, _, A3, A4, c3, c4, _, by omega, by omega, by go_num, rfl, rfl, rfl, hs4, by omega, by omega, HN⟩
              case measure => simp [intOf]; omega
          · have hlen := hs.o1.len
            go_wp2
            go_ret2
            exact ⟨l, B1, B2, d1, d2, k, rfl, hs, (by omega), hI.out.1, hI.out.2.1⟩
        · go_wp2
          go_ret2
          exact ⟨l, B1, B2, d1, d2, k, rfl, hs, (by omega), hI.out.1, hI.out.2.1⟩
      · go_wp2
        go_ret2
        exact ⟨l, B1, B2, d1, d2, k, rfl, hs, (by omega), hI.out.1, hI.out.2.1⟩
    · go_wp2
      go_ret2
      exact ⟨l, B1, B2, d1, d2, k, rfl, hs, (by omega), hI.out.1, hI.out.2.1⟩

end Go.Proofs.YthkaeimpflggjaaDoor

/- Slices of slices of bytes that come in. -/
namespace Go.Proofs.YthkaeimpflggjaaDoor
open Go.RowKit Go.ChangeShapes Go.WideShapes Go.ChangeAt
set_option linter.unusedVariables false

/-- Slices of bytes that came in: each reads as bytes. -/
def PartsOf (w : World) (a : Option Addr) (n : Nat) (ps : List BsV) : Prop := Row w a n (ps.map BsV.val) ∧ n ≤ 9223372036854775807 ∧ ∀ p ∈ ps, p.ok w ∧ Bytes p.ys ∧ p.n ≤ 9223372036854775807

theorem block_lt {w : World} {a : Addr} {v : Value} (h : w.cell? a = some v) : a.block < w.heap.size := by
  rcases Nat.lt_or_ge a.block w.heap.size with hlt | hge
  · exact hlt
  · simp [World.cell?, Array.getElem?_eq_none hge] at h

theorem spot_none {w : World} {x : Addr} {v : Value} (h : w.cell? (x.add 0) = some v) : ∃ b off, x = ⟨b, off, none⟩ := by
  obtain ⟨b, off, spot⟩ := x
  have hs : spot = none := by simpa [Addr.add] using World.cell?_spot h
  subst hs
  exact ⟨b, off, rfl⟩

/-- From what the reading of the argument gives. -/
theorem parts_of {w : World} {base : Nat} {x : Addr} {len cap : Nat} {A : Nat → Option Addr} {L C : Nat → Nat} {Z : Nat → List Int} (hl : len ≤ cap) (hm : cap ≤ maxLen)
    (h : ∀ r, r < cap → w.cell? (x.add r) = some (.slice (A r) (L r) (C r)) ∧ L r ≤ C r ∧ C r ≤ maxLen ∧ (Z r).length = C r ∧ (∀ n ∈ Z r, (Lit.int .u8 n).wf = true) ∧ (A r = none → C r = 0) ∧
      ∀ a', A r = some a' → base ≤ a'.block ∧ ∀ c, c < C r → w.cell? (a'.add c) = some (.int .u8 ((Z r).getD c 0))) :
    PartsOf w (some x) len ((List.range len).map fun r => ⟨A r, L r, C r, (Z r).take (L r)⟩) := by
  simp only [maxLen] at hm
  refine ⟨⟨by simp, fun hp => ?_⟩, by omega, ?_⟩
  · obtain ⟨b, off, rfl⟩ := spot_none (h 0 (by omega)).1
    refine ⟨b, off, rfl, block_lt (a := (⟨b, off, none⟩ : Addr).add 0) (h 0 (by omega)).1, fun j u hu => ?_⟩
    have hj : j < len := by have := (List.getElem?_eq_some_iff.1 hu).1; simpa using this
    have hc := (h j (by omega)).1
    rw [Addr.add_lit] at hc
    rw [hc]
    simp [hj, BsV.val] at hu
    rw [← hu]
  · intro p hp
    simp only [List.mem_map, List.mem_range] at hp
    obtain ⟨r, hr, rfl⟩ := hp
    obtain ⟨hc, h1, h2, h3, h4, h5, h6⟩ := h r (by omega)
    have hrow := row_of (k := .u8) (w := w) (a := A r) (len := L r) (cap := C r) (zs := Z r) (by
      cases hA : A r with
      | none =>
        have := h5 hA
        exact .inl ⟨rfl, by omega, this, List.eq_nil_of_length_eq_zero (by omega)⟩
      | some a' => exact .inr ⟨a', rfl, h1, h2, h3, fun i hi => (h6 a' hA).2 i (by omega), h4⟩)
    exact ⟨hrow.1, bytes_of hrow.2.2, hrow.2.1⟩

theorem parts_none (w : World) : PartsOf w none 0 [] := ⟨Row.empty _ _, by omega, fun p hp => by cases hp⟩

set_option maxRecDepth 100000 in
theorem open_bss {H : Type} {enc : TypeId × Value → H} {W : World} {base : Nat} {v : Value} {d : DataW H} {p : List MemPlace} (hv : Value.okWide Tryd.prog W .any base 56 v) (h : DataW.Trod enc Tryd.prog W 0 (fun _ => true) true 56 v d p) :
    ∃ A n c ps, v = .slice A n c ∧ PartsOf W A n ps := by
  obtain ⟨a, len, cap, rfl⟩ := okWide_slice Tryd.underlying56 hv
  obtain ⟨fuel, hf⟩ := h
  rcases Go.Deep.open_int_rows Tryd.underlying56 Tryd.underlying28 Tryd.underlying5 (by kernel_rfl) (by kernel_rfl) hf with ⟨hcs, _⟩ | ⟨x, l, c, A', L', C', Z', hcs, _, hl, hm, _, hrows⟩
  · simp [Value.cells] at hcs
    obtain ⟨rfl, rfl, rfl⟩ := hcs
    exact ⟨_, _, _, [], rfl, parts_none W⟩
  · simp [Value.cells] at hcs
    obtain ⟨rfl, rfl, rfl⟩ := hcs
    exact ⟨_, _, _, _, rfl, parts_of hl hm hrows⟩

end Go.Proofs.YthkaeimpflggjaaDoor
