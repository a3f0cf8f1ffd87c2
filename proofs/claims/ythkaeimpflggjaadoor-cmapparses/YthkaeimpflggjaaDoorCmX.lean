/- A table cmap that is built is read as it was; a map in a box; the document's example. -/
import Derived.Test.YthkaeimpflggjaaDoorCmB
import Derived.Test.YthkaeimpflggjaaDoorGrpT
import Derived.Test.YthkaeimpflggjaaDoorSegY
import Derived.Test.YthkaeimpflggjaaDoorGlyM
import Derived.Test.YthkaeimpflggjaaDoorLaw01
namespace Go.Proofs.YthkaeimpflggjaaDoor
open Go.RowKit
set_option linter.unusedVariables false

theorem risesF_mono {m1 m2 : Int} (h : m1 ≤ m2) : ∀ {l : List Pr} {ah : Int}, risesF m1 ah l = true → risesF m2 ah l = true
  | [], _, _ => rfl
  | p :: r, ah, hr => by
    obtain ⟨h1, h2, h3⟩ := risesF_cons hr
    rw [risesF, risesF_mono h h3, Bool.and_true, decide_eq_true_eq]
    omega

def cMost (wd : Bool) : Int := if wd then 1114111 else 65534
theorem cHd_bytes (wd : Bool) : Bytes (cHd wd) := by
  unfold cHd
  exact bytes_append (b2_bytes _) (bytes_append (b2_bytes _) (bytes_append (b2_bytes _) (bytes_append (b2_bytes _) (b4_bytes _))))
theorem cHd_drop (wd : Bool) (t : List Int) : (cHd wd ++ t).drop 12 = t := by
  rw [List.drop_append, cHd_len, List.drop_of_length_le (by rw [cHd_len]; exact Nat.le_refl _)]
  simp
theorem n4at_of12 {zs : List Int} {r : List Int} {i : Nat} {x : Int} (e : zs.drop i = b4 x ++ r) (h0 : 0 ≤ x) (h1 : x < 4294967296) : n4at zs i = x := by
  unfold n4at
  rw [e]
  have h := be_b4 x h0 h1
  have hl : (b4 x).length = 4 := rfl
  obtain ⟨e1, _⟩ := ask_front (b4 x) r 0 false 4 hl
  unfold num
  rw [e1]
  exact h
/-- One record, that leads behind it. -/
theorem cFind_one {wd : Bool} {t : List Int} (hok : (if wd then gRight t else sRight t) = true) : cFind (cHd wd ++ t) = some (wd, 12) := by
  have hl : (cHd wd ++ t).length = 12 + t.length := by rw [List.length_append, cHd_len]
  have f0 : n2at (cHd wd ++ t) 0 = 0 := n2at_of (by rfl) (by omega) (by omega)
  have f2 : n2at (cHd wd ++ t) 2 = 1 := n2at_of (by rfl) (by omega) (by omega)
  have f4 : n2at (cHd wd ++ t) (4 + 8 * 0) = 3 := n2at_of (by rfl) (by omega) (by omega)
  have f6 : n2at (cHd wd ++ t) (6 + 8 * 0) = (if wd then 10 else 1) := n2at_of (by rfl) (by cases wd <;> simp) (by cases wd <;> simp)
  have f8 : n4at (cHd wd ++ t) (8 + 8 * 0) = 12 := n4at_of12 (by rfl) (by omega) (by omega)
  have hN : cN (cHd wd ++ t) = 1 := by unfold cN; rw [f2]; rfl
  have hF : cFront (cHd wd ++ t) = true := by
    unfold cFront
    rw [f0, hN, hl]
    simp
    omega
  have hP : cPick (cHd wd ++ t) = some (wd, 12) := by
    unfold cPick
    rw [hN]
    unfold cFst cFst cIs cVal
    rw [f4, f6, f8]
    cases wd <;> simp
  have hO : cOk (cHd wd ++ t) wd 12 = true := by
    unfold cOk
    rw [hl, show (12 : Int).toNat = 12 from rfl, cHd_drop, decide_eq_true (by omega), Bool.true_and]
    exact hok
  unfold cFind
  rw [hF, hP]
  simp [hO]

/-- Of pairs that rise. -/
theorem cOut_right {l : List Pr} {wd : Bool} (hg : PrG l) (h : risesF (cMost wd) (-1) l = true) (hl : l.length ≤ 7000) :
    cOut l wd = cHd wd ++ cTab l wd ∧ (if wd then gRight (cTab l wd) else sRight (cTab l wd)) = true ∧ Bytes (cTab l wd) ∧ (∀ code, cLook wd (cTab l wd) code = glyphOf code l) ∧ (cTab l wd).length ≤ 100000 ∧ 16 ≤ (cTab l wd).length ∧ cTab l wd = (if wd then gBytes (runsF folG l) else sTab ((sRuns l).map sgR)) := by
  cases wd with
  | true =>
    obtain ⟨e0, e1, e2, e3, e4, e5⟩ := gOut_right hg h (by omega)
    have hrn := runsF_len folG l
    have hL : (cTab l true).length = 16 + 12 * (runsF folG l).length := e5
    refine ⟨?_, e1, e4, fun code => ?_, by omega, by omega, e0⟩
    · unfold cOut
      rw [if_neg (by omega)]
    · show lookR (grps (gOut l) (gN (gOut l))) code = _
      rw [e3]
      exact lookG_runs 1114111 code l (-1) hg h
  | false =>
    obtain ⟨e0, e1, e2, e3, e4, e5⟩ := sOut_right hg h (by omega)
    have hrn := runsF_len folS l
    have hL : (cTab l false).length = 16 + 8 * ((runsF folS l).length + 1) := e5
    refine ⟨?_, e1, e4, fun code => ?_, by omega, by omega, e0⟩
    · unfold cOut
      rw [if_neg (by omega)]
    · show lookS (sOut l) (sN (sOut l)) code 0 (sN (sOut l)) = _
      rw [e2]
      exact e3 code

theorem cmV_three (wd : Bool) (A : Option Addr) (n c : Nat) : ∃ (A1 : Option Addr) (n1 c1 : Nat) (A2 : Option Addr) (n2 c2 : Nat), cmV wd A n c = .agg #[.bool wd, .slice A1 n1 c1, .slice A2 n2 c2] := by
  cases wd with
  | true => exact ⟨_, _, _, _, _, _, rfl⟩
  | false => exact ⟨_, _, _, _, _, _, rfl⟩

/-- A map in a box. -/
structure BoxC (w wr : World) (bx : Nat) (wd : Bool) (A1 : Option Addr) (n1 c1 : Nat) (A2 : Option Addr) (n2 c2 : Nat) (t : List Int) (A : Option Addr) (c g : Nat) : Prop where
  box : wr.heap[bx]? = some (.cells #[.bool wd, .slice A1 n1 c1, .slice A2 n2 c2] 37 (0, 0))
  eq : cmV wd A (cCnt wd t) c = .agg #[.bool wd, .slice A1 n1 c1, .slice A2 n2 c2]
  map : CMap wr wd t A g
  bel : Below w.heap.size w wr

section
variable {w wr w' : World} {bx : Nat} {wd : Bool} {A1 : Option Addr} {n1 c1 : Nat} {A2 : Option Addr} {n2 c2 : Nat} {t : List Int} {A : Option Addr} {c g : Nat}
theorem BoxC.below (h : BoxC w wr bx wd A1 n1 c1 A2 n2 c2 t A c g) (hb : Below wr.heap.size wr w') : BoxC w w' bx wd A1 n1 c1 A2 n2 c2 t A c g := ⟨kept_block h.box hb, h.eq, h.map.below hb, h.bel.trans (hb.mono h.bel.size)⟩
theorem BoxC.cells (h : BoxC w wr bx wd A1 n1 c1 A2 n2 c2 t A c g) : wr.cell? ⟨bx, 0, none⟩ = some (.bool wd) ∧ wr.cell? ⟨bx, 1, none⟩ = some (.slice A1 n1 c1) ∧ wr.cell? ⟨bx, 2, none⟩ = some (.slice A2 n2 c2) := ⟨cell_of_row _ _ 0 _ _ _ h.box, cell_of_row _ _ 1 _ _ _ h.box, cell_of_row _ _ 2 _ _ _ h.box⟩
theorem BoxC.look (h : BoxC w wr bx wd A1 n1 c1 A2 n2 c2 t A c g) (code v : Int) (hv : cLook wd t code = v) (c0 : -2147483648 ≤ code) (c1' : code ≤ 2147483647) : Calls Tryd.prog 15 #[.agg #[.bool wd, .slice A1 n1 c1, .slice A2 n2 c2], .int .i32 code] wr (Ret wr (.int .u16 v)) := by
  subst hv
  have := clook_any wd t A c g code wr h.map c0 c1'
  rwa [h.eq] at this
theorem BoxC.new (V : World) (hV : Below w.heap.size w V) (hm : CMap V wd t A g) (he : cmV wd A (cCnt wd t) c = .agg #[.bool wd, .slice A1 n1 c1, .slice A2 n2 c2]) : BoxC w (V.alloc (.cells #[.bool wd, .slice A1 n1 c1, .slice A2 n2 c2] 37)) V.heap.size wd A1 n1 c1 A2 n2 c2 t A c g := by
  have hA : Below V.heap.size V (V.alloc (.cells #[.bool wd, .slice A1 n1 c1, .slice A2 n2 c2] 37)) := (Below.refl _ _).alloc (Nat.le_refl _) _
  exact ⟨heap_alloc_new V _, he, hm.below hA, hV.trans (hA.mono hV.size)⟩
end
theorem cwide_of (wd : Bool) (A1 : Option Addr) (n1 c1 : Nat) (A2 : Option Addr) (n2 c2 : Nat) (W : World) : Calls Tryd.prog 14 #[.agg #[.bool wd, .slice A1 n1 c1, .slice A2 n2 c2]] W (Ret W (.bool wd)) := by
  have hA := (Below.refl W.heap.size W).alloc (Nat.le_refl _) (.cells #[.bool wd, .slice A1 n1 c1, .slice A2 n2 c2] 37)
  go_enter Tryd.func14, Tryd.ntmps14
  go_wp2
  go_ret
  exact ⟨rfl, hA⟩
theorem CMap.zero (w : World) : CMap w false [] none 0 := ⟨SMap.nil _ _ (fun x hx => by cases hx), by decide⟩
theorem cLook_zero (code : Int) : cLook false [] code = 0 := rfl

def ex11 : List Pr := [⟨65, 3⟩]
theorem ex11_g : PrG ex11 := by intro p hp; simp [ex11] at hp; subst hp; simp

set_option maxRecDepth 100000 in
set_option maxHeartbeats 2000000 in
theorem awake11_any (w : World) (hR : Rk w) : Calls Tryd.prog 8 #[] w (True_ w) := by
  have hA : Below w.heap.size w (w.alloc (.cells #[.int .i32 65, .int .u16 3] 45)) := (Below.refl _ _).alloc (Nat.le_refl _) _
  have hrow : RowS encP 2 (w.alloc (.cells #[.int .i32 65, .int .u16 3] 45)) (some ⟨w.heap.size, 0, none⟩) 1 ex11 := rowS_vals encP_len w 45 ex11 _ rfl 1 rfl
  have hris : risesF (cMost false) (-1) ex11 = true := by decide
  obtain ⟨e0, e1, e2, e3, e4, e5, _⟩ := cOut_right (wd := false) ex11_g hris (by decide)
  have el := e3 65
  rw [show glyphOf 65 ex11 = 3 by decide] at el
  have hf := cFind_one (wd := false) (t := cTab ex11 false) e1
  have hd := cHd_drop false (cTab ex11 false)
  have HG := Lib.hid (cbuild_any (some ⟨w.heap.size, 0, none⟩) 1 1 ex11 false _ hrow (by omega) ex11_g (by omega))
  rw [e0] at HG
  have hcl := cHd_len false
  have hBy : Bytes (cHd false ++ cTab ex11 false) := bytes_append (cHd_bytes _) e2
  have hln : (cHd false ++ cTab ex11 false).length ≤ 200000 := by rw [List.length_append]; omega
  clear hrow hris e0 e1 e2 e3 e4 e5 hcl
  generalize cTab ex11 false = t at *
  generalize cHd false ++ t = zs at *
  go_enter Tryd.func8, Tryd.ntmps8
  go_wp2_with fail
  with_reducible refine HG.out.mono ?_
  rintro e w1 ⟨A1, n1, c1, rfl, hown1, hb1⟩
  have hl1 := hown1.len
  have hbw := hA.trans (hb1.mono hA.size)
  have HP := Lib.hid (cparse_any A1 n1 c1 zs w1 hown1.row hBy (by omega) hown1.cap (hR.below hbw))
  clear HG hA hb1 hown1 hR
  go_wp2_with fail
  with_reducible refine HP.out.mono ?_
  rintro e w2 ⟨hb2, ⟨hf', _⟩ | ⟨wd, v, hf', A2, c2, g2, rfl, hm⟩⟩
  · rw [hf] at hf'; cases hf'
  rw [hf] at hf'
  simp at hf'
  obtain ⟨rfl, rfl⟩ := hf'
  rw [hd] at hm ⊢
  obtain ⟨B1, m1, d1, B2, m2, d2, he⟩ := cmV_three false A2 (cCnt false t) c2
  have hs := BoxC.new w2 (hbw.trans (hb2.mono hbw.size)) hm he
  have HL : Hid (∀ W, BoxC w W w2.heap.size false B1 m1 d1 B2 m2 d2 t A2 c2 g2 → Calls Tryd.prog 15 #[.agg #[.bool false, .slice B1 m1 d1, .slice B2 m2 d2], .int .i32 65] W (Ret W (.int .u16 3))) := fun W h => h.look 65 3 el (by omega) (by omega)
  have HW := Lib.hid (fun W => cwide_of false B1 m1 d1 B2 m2 d2 W)
  rw [he]
  obtain ⟨k0, k1, k2⟩ := hs.cells
  clear hm he hbw hb2 el hd hf HP hBy hln hl1
  go_wp2_with (first
    | (go_at_call 14; (with_reducible refine (HW.out _).mono ?_); rintro e wn ⟨rfl, hbn⟩; replace hs := hs.below hbn; obtain ⟨k0, k1, k2⟩ := hs.cells; clear hbn)
    | (go_at_call 15; (with_reducible refine (HL.out _ hs).mono ?_); rintro e wn ⟨rfl, hbn⟩; replace hs := hs.below hbn; obtain ⟨k0, k1, k2⟩ := hs.cells; clear hbn))
  go_ret
  exact ⟨rfl, hs.bel⟩

end Go.Proofs.YthkaeimpflggjaaDoor
