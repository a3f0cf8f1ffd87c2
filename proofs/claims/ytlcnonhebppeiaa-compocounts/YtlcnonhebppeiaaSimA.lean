/- simple: its small functions, changes and Right, as contracts over this seat's translation. -/
import Derived.Test.YtlcnonhebppeiaaSimM
import Derived.Test.YtlcnonhebppeiaaStructs
import Derived.Test.YtlcnonhebppeiaaInts
import Derived.Test.YtlcnonhebppeiaaGrow
import Derived.Test.YtlcnonhebppeiaaCells
import Derived.Deep.RegionHeld3
import Derived.Deep.QuietTactic
import Derived.BigQuiet
import Derived.Deep.DeepCutAuto
namespace Go.Proofs.Ytlcnonhebppeiaa
open Go.RowKit
set_option linter.unusedVariables false

def encSp (p : Sp) : List Value := [.int .i16 p.1, .int .i16 p.2.1, .bool p.2.2]
theorem encSp_len (p : Sp) : (encSp p).length = 3 := rfl
theorem encSp_one (p : Sp) : ∀ u ∈ encSp p, u.oneCell' = true := by intro u hu; simp [encSp] at hu; rcases hu with rfl | rfl | rfl <;> rfl
theorem Try.spinfo : (Try.prog.info? 60).map (fun i => (i.zero, i.size, i.bytes)) = some (some (.agg #[.int .i16 0, .int .i16 0, .bool false]), 3, 6) := by kernel_rfl

theorem atSp {w : World} {A : Option Addr} {n : Nat} {l : List Sp} {j : Nat} {x : Sp} (h : RowS encSp 3 w A n l) (hj : l[j]? = some x) :
    ∃ g off, A = some ⟨g, off, none⟩ ∧ g < w.heap.size ∧ w.cell? ⟨g, off + j * 3, none⟩ = some (.int .i16 x.1) ∧ w.cell? ⟨g, off + j * 3 + 1, none⟩ = some (.int .i16 x.2.1) ∧ w.cell? ⟨g, off + j * 3 + 2, none⟩ = some (.bool x.2.2) := by
  obtain ⟨g, off, e, hg, hc⟩ := h.at encSp_len (by omega) hj
  exact ⟨g, off, e, hg, hc 0 _ rfl, hc 1 _ rfl, hc 2 _ rfl⟩

/-- All numbers of an outline are of their kinds. -/
structure Gl.ok (g : Gl) : Prop where
  bx : ∀ x ∈ g.box, -32768 ≤ x ∧ x ≤ 32767
  es : ∀ x ∈ g.es, 0 ≤ x ∧ x < 65536
  pr : Bytes g.pr
  ps : ∀ p ∈ g.ps, (-32768 ≤ p.1 ∧ p.1 ≤ 32767) ∧ (-32768 ≤ p.2.1 ∧ p.2.1 ≤ 32767)

/-- An outline as a value, and where its lists lie. -/
structure GlV where
  g : Gl
  EA : Option Addr
  en : Nat
  ec : Nat
  PA : Option Addr
  pn : Nat
  pc : Nat
  SA : Option Addr
  sn : Nat
  sc : Nat
def GlV.cells (v : GlV) : Array Value := #[.int .i16 v.g.x0, .int .i16 v.g.x1, .int .i16 v.g.x2, .int .i16 v.g.x3, .slice v.EA v.en v.ec, .slice v.PA v.pn v.pc, .slice v.SA v.sn v.sc]
def GlV.val (v : GlV) : Value := .agg v.cells
structure GlV.rows (w : World) (v : GlV) : Prop where
  es : Row w v.EA v.en (cellsOf .u16 v.g.es)
  pr : Row w v.PA v.pn (cellsOf .u8 v.g.pr)
  ps : RowS encSp 3 w v.SA v.sn v.g.ps
theorem GlV.rows.below {w w' : World} {v : GlV} (h : v.rows w) (hb : Below w.heap.size w w') : v.rows w' := ⟨h.es.below hb, h.pr.below hb, h.ps.below hb⟩
/-- None of the lists is too long. -/
structure GlV.few (v : GlV) : Prop where
  en : v.en ≤ 10000
  pn : v.pn ≤ 10000
  sn : v.sn ≤ 10000

theorem ofits_any (d : Int) (w : World) : Calls Try.prog 58 #[.int .i64 d] w fun e w' => e = .returned (.bool (fitsB d)) ∧ w = w' := by
  unfold fitsB
  cases h1 : decide (-32768 ≤ d) <;> cases h2 : decide (d ≤ 32767)
  all_goals
    go_enter Try.func58, Try.ntmps58
    go_wp2
    go_ret
    exact ⟨rfl, rfl⟩

theorem ofar_any (d : Int) (w : World) : Calls Try.prog 57 #[.int .i64 d] w fun e w' => e = .returned (.bool (!fitsB d)) ∧ w = w' := by
  have H := Lib.hid (ofits_any d w)
  go_enter Try.func57, Try.ntmps57
  go_wp2_with fail
  refine H.out.mono ?_
  rintro e w' ⟨rfl, rfl⟩
  cases hb : fitsB d
  all_goals
    go_wp2
    go_ret
    exact ⟨by rw [hb]; rfl, rfl⟩

def shortB (d : Int) : Bool := decide (-255 ≤ d) && decide (d ≤ 255)
theorem oshort_any (d : Int) (w : World) : Calls Try.prog 92 #[.int .i64 d] w fun e w' => e = .returned (.bool (shortB d)) ∧ w = w' := by
  unfold shortB
  cases h1 : decide (-255 ≤ d) <;> cases h2 : decide (d ≤ 255)
  all_goals
    go_enter Try.func92, Try.ntmps92
    go_wp2
    go_ret
    exact ⟨rfl, rfl⟩
theorem shortB_eq (d : Int) : shortB d = decide (-255 ≤ d ∧ d ≤ 255) := by
  unfold shortB
  by_cases h1 : -255 ≤ d <;> by_cases h2 : d ≤ 255 <;> simp [h1, h2]

theorem obits_any (d sh pl : Int) (w : World) (hor : bits .or .u8 sh pl = sh + pl) : Calls Try.prog 50 #[.int .i64 d, .int .u8 sh, .int .u8 pl] w fun e w' => e = .returned (.int .u8 (bitsV d sh pl)) ∧ w = w' := by
  have H := Lib.hid (oshort_any d w)
  have Hor := Lib.hid hor
  clear hor
  by_cases h0 : d = 0
  · have HV : Hid (bitsV d sh pl = pl) := by show _ = _; unfold bitsV; rw [if_pos h0]
    rw [HV.out]
    have hd : (d == 0) = true := by simp [h0]
    clear h0
    go_enter Try.func50, Try.ntmps50
    go_wp2
    go_ret
    exact ⟨rfl, rfl⟩
  · have hd : (d == 0) = false := by simp [h0]
    by_cases hs : -255 ≤ d ∧ d ≤ 255
    · have HS : Hid (shortB d = true) := by show _ = _; rw [shortB_eq, decide_eq_true hs]
      by_cases hp : 0 < d
      · have HV : Hid (bitsV d sh pl = sh + pl) := by show _ = _; unfold bitsV; rw [if_neg h0, if_pos hs, if_pos hp]
        rw [HV.out]
        clear hs h0
        go_enter Try.func50, Try.ntmps50
        go_wp2_with fail
        refine H.out.mono ?_
        rintro e w' ⟨rfl, rfl⟩
        rw [HS.out]
        go_wp2
        go_ret
        rw [Hor.out]
        exact ⟨rfl, rfl⟩
      · have HV : Hid (bitsV d sh pl = sh) := by show _ = _; unfold bitsV; rw [if_neg h0, if_pos hs, if_neg hp]
        rw [HV.out]
        clear hs h0
        go_enter Try.func50, Try.ntmps50
        go_wp2_with fail
        refine H.out.mono ?_
        rintro e w' ⟨rfl, rfl⟩
        rw [HS.out]
        go_wp2
        go_ret
        exact ⟨rfl, rfl⟩
    · have HS : Hid (shortB d = false) := by show _ = _; rw [shortB_eq, decide_eq_false hs]
      have HV : Hid (bitsV d sh pl = 0) := by show _ = _; unfold bitsV; rw [if_neg h0, if_neg hs]
      rw [HV.out]
      clear hs h0
      go_enter Try.func50, Try.ntmps50
      go_wp2_with fail
      refine H.out.mono ?_
      rintro e w' ⟨rfl, rfl⟩
      rw [HS.out]
      go_wp2
      go_ret
      exact ⟨rfl, rfl⟩

theorem oalongX_any (p : Sp) (w : World) : Calls Try.prog 48 #[.agg #[.int .i16 p.1, .int .i16 p.2.1, .bool p.2.2]] w (Ret w (.int .i16 p.1)) := by
  obtain ⟨x, y, o⟩ := p
  have hA := (Below.refl w.heap.size w).alloc (Nat.le_refl _) (.cells #[.int .i16 x, .int .i16 y, .bool o] 60)
  go_enter Try.func48, Try.ntmps48
  go_wp2
  go_ret
  exact ⟨rfl, hA⟩
theorem oalongY_any (p : Sp) (w : World) : Calls Try.prog 49 #[.agg #[.int .i16 p.1, .int .i16 p.2.1, .bool p.2.2]] w (Ret w (.int .i16 p.2.1)) := by
  obtain ⟨x, y, o⟩ := p
  have hA := (Below.refl w.heap.size w).alloc (Nat.le_refl _) (.cells #[.int .i16 x, .int .i16 y, .bool o] 60)
  go_enter Try.func49, Try.ntmps49
  go_wp2
  go_ret
  exact ⟨rfl, hA⟩

set_option maxHeartbeats 1000000 in
theorem orise_any (A : Option Addr) (n c : Nat) (l : List Int) (w : World) (hr : Row w A n (cellsOf .u16 l)) (hn : n ≤ 1000000) :
    Calls Try.prog 55 #[.slice A n c] w fun e w' => e = .returned (.bool (riseN l n)) ∧ w = w' := by
  have Hl := Lib.hid hr.len
  go_enter Try.func55, Try.ntmps55
  go_wp2
  go_loop [7] (fun i => ∃ k : Nat, k ≤ n ∧ i = .int .i64 k ∧ Hid (riseN l k = true)) (fun i => n - (intOf i).toNat)
  case atStart => exact ⟨0, Nat.zero_le _, rfl, Lib.hid rfl⟩
  case round =>
    obtain ⟨k, hk, rfl, HR⟩ := hrel
    by_cases hlt : k < n
    · obtain ⟨x, hx⟩ := get_some (zs := l) (k := k) (by have := Hl.out; omega)
      obtain ⟨g, off, rfl, hg, hc⟩ := hr.at (cellsOf_get (k := .u16) hx)
      rcases Nat.eq_zero_or_pos k with h0 | h0
      · subst h0
        have HT : Hid (riseN l (0 + 1) = true) := by show _ = _; rw [riseN_succ, HR.out]; rfl
        rw [Nat.add_zero] at hc
        clear hx HR
        go_wp2
        go_round
        case rel => exact ⟨1, by omega, by go_num, HT⟩
        case measure => simp [intOf]; omega
      · obtain ⟨m, rfl⟩ : ∃ m, k = m + 1 := ⟨k - 1, by omega⟩
        obtain ⟨y, hy⟩ := get_some (zs := l) (k := m) (by have := Hl.out; omega)
        obtain ⟨g', off', e', _, hc'⟩ := hr.at (cellsOf_get (k := .u16) hy)
        simp only [Option.some.injEq, Addr.mk.injEq, and_true] at e'
        obtain ⟨rfl, rfl⟩ := e'
        have e2 : ((m : Int) + 1 - 1) = (m : Int) := by omega
        have HA : Hid (riseA l (m + 1) = decide (y < x)) := by
          show _ = _
          unfold riseA
          rw [decide_eq_false (by omega), Bool.false_or, List.getD_eq_getElem?_getD, List.getD_eq_getElem?_getD, hx, Nat.add_sub_cancel, hy]
          rfl
        clear hx hy
        by_cases hxy : x ≤ y
        · have HF : Hid (riseN l n = false) := riseN_not (by rw [HA.out, decide_eq_false (by omega)]) hlt
          clear HA HR
          go_wp2
          go_ret
          exact ⟨by rw [HF.out]; rfl, rfl⟩
        · have HT : Hid (riseN l (m + 1 + 1) = true) := by show _ = _; rw [riseN_succ, HR.out, HA.out, decide_eq_true (by omega)]; rfl
          clear HA HR
          go_wp2
          go_round
          case rel => exact ⟨m + 1 + 1, by omega, by go_num, HT⟩
          case measure => simp [intOf]; omega
    · obtain rfl : k = n := by omega
      go_wp2
      go_ret
      exact ⟨by rw [HR.out]; rfl, rfl⟩

set_option maxHeartbeats 1000000 in
theorem ocount_any (v : GlV) (w : World) (hr : v.rows w) (hn : v.en ≤ 1000000) (hes : ∀ x ∈ v.g.es, 0 ≤ x ∧ x < 65536) :
    Calls Try.prog 56 #[v.val] w (Ret w (.int .i64 (cntE v.g.es : Nat))) := by
  have hA := (Below.refl w.heap.size w).alloc (Nat.le_refl _) (.cells v.cells 29)
  have hre := hr.es
  have Hl := Lib.hid hre.len
  unfold GlV.val GlV.cells
  unfold GlV.cells at hA
  clear hr
  obtain ⟨⟨x0, x1, x2, x3, es, pr, ps⟩, EA, en, ec, PA, pn, pc, SA, sn, sc⟩ := v
  simp only at *
  rcases Nat.eq_zero_or_pos en with h0 | h0
  · subst h0
    have HC : Hid (cntE es = 0) := by show _ = _; unfold cntE; rw [if_pos Hl.out]
    rw [HC.out]
    go_enter Try.func56, Try.ntmps56
    go_wp2
    go_ret
    exact ⟨rfl, hA⟩
  · obtain ⟨m, rfl⟩ : ∃ m, en = m + 1 := ⟨en - 1, by omega⟩
    obtain ⟨x, hx⟩ := get_some (zs := es) (k := m) (by have := Hl.out; omega)
    obtain ⟨g, off, rfl, hg, hc⟩ := hre.at (cellsOf_get (k := .u16) hx)
    obtain ⟨b0, b1⟩ := hes x (List.mem_of_getElem? hx)
    have HC : Hid (((cntE es : Nat) : Int) = x + 1) := by
      show _ = _
      unfold cntE
      rw [if_neg (by have := Hl.out; omega), List.getD_eq_getElem?_getD, show es.length - 1 = m by have := Hl.out; omega, hx]
      simp
      omega
    rw [HC.out]
    have e2 : ((m : Int) + 1 - 1) = (m : Int) := by omega
    have hd : ((m : Int) + 1 == 0) = false := by simp; omega
    have hgn : g ≠ w.heap.size := by omega
    clear hx hes hre
    go_enter Try.func56, Try.ntmps56
    go_wp2
    go_ret
    exact ⟨rfl, hA⟩

set_option maxHeartbeats 1000000 in
theorem oindex_any (A : Option Addr) (n c : Nat) (l : List Int) (w : World) (hr : Row w A n (cellsOf .i64 l)) (hn : n ≤ 1000000) :
    Calls Try.prog 95 #[.slice A n c, .func (.func 57) #[] #[]] w fun e w' => (∃ r : Int, e = .returned (.int .i64 r) ∧ decide (0 ≤ r) = !fitL l) ∧ w = w' := by
  have Hl := Lib.hid hr.len
  have eg : ∀ args w, (callFunc 57 args).run Try.prog w = .ok (.enter 57 args) w := enters_of Try.func57 (by kernel_rfl) rfl
  go_enter Try.func95, Try.ntmps95
  go_wp2
  go_loop [8] (fun i => ∃ k : Nat, k ≤ n ∧ i = .int .i64 k ∧ Hid (fitL (l.take k) = true)) (fun i => n - (intOf i).toNat)
  case atStart => exact ⟨0, Nat.zero_le _, rfl, Lib.hid rfl⟩
  case round =>
    obtain ⟨k, hk, rfl, HR⟩ := hrel
    by_cases hlt : k < n
    · obtain ⟨x, hx⟩ := get_some (zs := l) (k := k) (by have := Hl.out; omega)
      obtain ⟨g, off, rfl, hg, hc⟩ := hr.at (cellsOf_get (k := .i64) hx)
      have HS : Hid (fitL (l.take (k + 1)) = fitsB x) := by
        have h1 := HR.out
        show _ = _
        unfold fitL at *
        rw [List.take_add_one, hx, List.all_append, h1]
        simp
      have HN : Hid (fitsB x = false → fitL l = false) := fun h => by
        unfold fitL
        rw [List.all_eq_false]
        exact ⟨x, List.mem_of_getElem? hx, by rw [h]; simp⟩
      have HF := Lib.hid (ofar_any x w)
      clear hx HR
      go_wp2_with fail
      refine HF.out.mono ?_
      rintro e w' ⟨rfl, rfl⟩
      cases hb : fitsB x with
      | false =>
        have HN2 := Lib.hid (HN.out hb)
        clear HN HS hb HF
        go_wp2
        go_ret
        exact ⟨⟨k, rfl, by rw [HN2.out]; simp⟩, rfl⟩
      | true =>
        rw [hb] at HS
        clear HN hb HF
        go_wp2
        go_round
        case rel => exact ⟨k + 1, by omega, by go_num, HS⟩
        case measure => simp [intOf]; omega
    · obtain rfl : k = n := by omega
      rw [List.take_of_length_le (by have := Hl.out; omega)] at HR
      go_wp2
      go_ret
      exact ⟨⟨-1, rfl, by rw [HR.out]; rfl⟩, rfl⟩

theorem ocontains_any (A : Option Addr) (n c : Nat) (l : List Int) (w : World) (hr : Row w A n (cellsOf .i64 l)) (hn : n ≤ 1000000) :
    Calls Try.prog 59 #[.slice A n c, .func (.func 57) #[] #[]] w fun e w' => e = .returned (.bool (!fitL l)) ∧ w = w' := by
  have H := Lib.hid (oindex_any A n c l w hr hn)
  go_enter Try.func59, Try.ntmps59
  go_wp2_with fail
  refine H.out.mono ?_
  rintro e w' ⟨⟨r, rfl, hd⟩, rfl⟩
  have HD := Lib.hid hd
  clear hd
  go_wp2
  go_ret
  rw [← HD.out]
  exact ⟨rfl, rfl⟩

/-- The number ahead. -/
def ahd (xs : List Int) (k : Nat) : Int := if k = 0 then 0 else xs.getD (k - 1) 0

set_option maxRecDepth 100000 in
set_option maxHeartbeats 2000000 in
theorem ochanges_any (f : Nat) (val : Sp → Int) (eg : ∀ args w, (callFunc f args).run Try.prog w = .ok (.enter f args) w) (hf : ∀ (x : Sp) (W : World), Calls Try.prog f #[.agg #[.int .i16 x.1, .int .i16 x.2.1, .bool x.2.2]] W (Ret W (.int .i16 (val x))))
    (v : GlV) (w : World) (hr : v.rows w) (hn : v.sn ≤ 1000000) (hb : ∀ p ∈ v.g.ps, -32768 ≤ val p ∧ val p ≤ 32767) :
    Calls Try.prog 47 #[v.val, .func (.func f) #[] #[]] w (RetN 3 .i64 w (chs (v.g.ps.map val))) := by
  obtain ⟨i0, hi, hz0, hz1, hz2⟩ := info_parts Try.i64info
  have hA := (Below.refl w.heap.size w).alloc (Nat.le_refl _) (.cells v.cells 29)
  have hrs := hr.ps
  have Hl := Lib.hid hrs.len
  have HF := Lib.hid hf
  have HB := Lib.hid hb
  unfold GlV.val GlV.cells
  unfold GlV.cells at hA
  clear hr hf hb
  obtain ⟨⟨x0, x1, x2, x3, es, pr, ps⟩, EA, en, ec, PA, pn, pc, SA, sn, sc⟩ := v
  simp only at *
  go_enter Try.func47, Try.ntmps47
  go_wp2_with (at_make; refine wpList_make_ints rfl (.tmp 12) (.tmp 12) _ rfl 3 .i64 w.heap.size i0 8 Try.underlying35 hi hz0 hz1 hz2 _ _ sn sn rfl rfl (by omega) (by omega) (Nat.le_refl _) (by omega) (by omega) (by simp) ?_; intro w1 hown1 hg1; have k1 := (hg1.block w.heap.size (by simp) (by simp)).trans (heap_alloc_new w (.cells #[.int .i16 x0, .int .i16 x1, .int .i16 x2, .int .i16 x3, .slice EA en ec, .slice PA pn pc, .slice SA sn sc] 29)); have c6 : w1.cell? ⟨w.heap.size, 6, none⟩ = some (.slice SA sn sc) := cell_of_row w1 _ 6 _ _ _ k1; clear k1)
  clear c6
  have hb1 : Below w.heap.size w w1 := hA.grown hg1 hA.size (fun k e => by cases e)
  have hxl : (ps.map val).length = sn := by rw [List.length_map]; exact Hl.out
  have Hxl := Lib.hid hxl
  clear hg1 hA hi hz0 hz1 hz2 hxl
  simp only [show (w.alloc (.cells #[.int .i16 x0, .int .i16 x1, .int .i16 x2, .int .i16 x3, .slice EA en ec, .slice PA pn pc, .slice SA sn sc] 29)).heap.size = w.heap.size + 1 by simp] at *
  generalize hgp : w.heap.size + 1 = gp at *
  have Hgp := Lib.hid hgp
  clear hgp
  go_loopw [6, 17] (fun a i wr => ∃ k : Nat, k ≤ sn ∧ i = .int .i64 k ∧ a = .int .i64 (ahd (ps.map val) k) ∧ Own 3 .i64 wr w.heap.size (some ⟨gp, 0, none⟩) sn sn (chK (ps.map val) k ++ List.replicate (sn - k) 0) ∧ Below w.heap.size w wr) (fun _ i _ => sn - (intOf i).toNat)
  case atStart => exact ⟨0, Nat.zero_le _, rfl, rfl, hown1, hb1⟩
  case round =>
    clear hown1 hb1
    obtain ⟨k, hk, rfl, rfl, hown, hbel⟩ := hrel
    have hsz := hbel.size
    by_cases hlt : k < sn
    · obtain ⟨p, hp⟩ : ∃ p, ps[k]? = some p := ⟨ps[k]'(by have := Hl.out; omega), List.getElem?_eq_getElem (by have := Hl.out; omega)⟩
      obtain ⟨g, off, rfl, hg, q0, q1, q2⟩ := atSp (hrs.below hbel) hp
      obtain ⟨v0, v1⟩ := HB.out p (List.mem_of_getElem? hp)
      have hpv : (ps.map val).getD k 0 = val p := by simp [hp]
      have hch : chA (ps.map val) k = val p - ahd (ps.map val) k := by
        unfold chA ahd
        rw [hpv]
      have hah : ahd (ps.map val) (k + 1) = val p := by
        unfold ahd
        rw [if_neg (by omega), Nat.add_sub_cancel, hpv]
      have hab : -32768 ≤ ahd (ps.map val) k ∧ ahd (ps.map val) k ≤ 32767 := by
        unfold ahd
        split
        · omega
        · obtain ⟨y, hy⟩ : ∃ y, ps[k - 1]? = some y := ⟨ps[k - 1]'(by have := Hl.out; omega), List.getElem?_eq_getElem (by have := Hl.out; omega)⟩
          have := HB.out y (List.mem_of_getElem? hy)
          simp [hy]
          exact this
      obtain ⟨u0, u1⟩ := hab
      have HS := Lib.hid (chK_set (ps.map val) k sn hlt)
      rw [hch] at HS
      have HAH := Lib.hid hah
      obtain ⟨z, hz⟩ : ∃ z, (chK (ps.map val) k ++ List.replicate (sn - k) 0)[k]? = some z := ⟨_, List.getElem?_eq_getElem (by simp [chK_len]; omega)⟩
      have HZ := Lib.hid hz
      have HP := Lib.hid (HF.out p)
      clear hp hpv hch hah hz
      obtain ⟨px, py, po⟩ := p
      simp only at *
      generalize val (px, py, po) = vp at *
      generalize ahd (ps.map val) k = va at *
      have hA2 := (Below.refl wr.heap.size wr).alloc (Nat.le_refl _) (.cells #[.int .i16 px, .int .i16 py, .bool po] 60)
      have hown2 := hown.below hA2
      have hbel2 := hbel.trans (hA2.mono hsz)
      have hgn : g ≠ wr.heap.size := by omega
      clear hown hbel
      go_wp2_with fail
      refine (HP.out _).mono ?_
      rintro e w2 ⟨rfl, hb2⟩
      have hown3 := hown2.below hb2
      have hbel3 := hbel2.trans (hb2.mono hbel2.size)
      obtain ⟨gg, off', e', _, hc'⟩ := hown3.row.at (cellsOf_get (k := .i64) HZ.out)
      simp only [Option.some.injEq, Addr.mk.injEq, and_true] at e'
      obtain ⟨rfl, rfl⟩ := e'
      rw [Nat.zero_add] at hc'
      have f0 := hown3.thaw
      have hs4 := hown3.set k (vp - va)
      rw [HS.out] at hs4
      have H4 := Lib.hid hs4
      have B4 := Lib.hid (hbel3.setCell (p := ⟨gp, k, none⟩) (hown3.from_ gp rfl).1 (.int .i64 (vp - va)))
      clear hown2 hbel2 hA2 hb2 hs4 hown3 hbel3 HP HS q0 q1 q2
      go_wp2
      go_roundw
      case rel => exact ⟨k + 1, by omega, by go_num, by rw [HAH.out], H4.out, B4.out⟩
      case measure => simp [intOf]; omega
    · obtain rfl : k = sn := by omega
      rw [Nat.sub_self, List.replicate_zero, List.append_nil, ← Hxl.out] at hown
      go_wp2
      go_ret
      refine ⟨_, _, _, rfl, ?_, hbel⟩
      rw [← Hxl.out]
      exact hown

end Go.Proofs.Ytlcnonhebppeiaa
