/- simple: Bytes, as a contract over this seat's translation. -/
import Derived.Test.YtlcnonhebppeiaaSimB
import Derived.Test.YtlcnonhebppeiaaSimW
import Derived.StillTailTactics
namespace Go.Proofs.Ytlcnonhebppeiaa
open Go.RowKit
set_option linter.unusedVariables false

/-- A new Writer behind a struct that was boxed first, calls between. -/
theorem stB_lateO {w W : World} {cs : Array Value} {t : TypeId} (h8 : t ≠ 5) (hw : t ≠ 97) (hk : W.heap[w.heap.size]? = some (.cells cs t (0, 0))) (hb : Below w.heap.size w W) : StB w (W.alloc (.cells #[.slice none 0 0] 97)) W.heap.size [] w.heap.size cs t :=
  ⟨(wr_new W).mono hb.size, hb.alloc hb.size _, (Below.heap_alloc _ _ _ (lt_of_block hk)).trans hk, h8, hw⟩
theorem StB.turnedN {w wr w' : World} {b bt : Nat} {zs ys : List Int} {cs : Array Value} {t : TypeId} (h : StB w wr b zs bt cs t) (h1 : Wr w' w.heap.size b ys) (ht : TurnedN wr w' b) : StB w w' b ys bt cs t := h.turned h1 ht.t
theorem StB.older {w wr : World} {b bt : Nat} {zs : List Int} {cs : Array Value} {t : TypeId} (h : StB w wr b zs bt cs t) {A : Option Addr} {n : Nat} {xs : List Value} (hr : Row w A n xs) : Row wr A n xs := hr.below h.bel

def oBytes (g : Gl) : List Int := if oRight g then oB g else []

/-- A Writer, an outline in a block of its own, its changes, and its flags. -/
structure OF (w wr : World) (bw : Nat) (zs : List Int) (cs : Array Value) (XA : Option Addr) (sn xc : Nat) (cx : List Int) (YA : Option Addr) (yc : Nat) (cy : List Int) (gp : Nat) (fl : List Int) : Prop where
  st : StB w wr bw zs w.heap.size cs 29
  rx : Own 3 .i64 wr w.heap.size XA sn xc cx
  ry : Own 3 .i64 wr w.heap.size YA sn yc cy
  fl : OwnB wr w.heap.size (some ⟨gp, 0, none⟩) sn sn fl
  far : ¬ WrS wr bw gp
theorem OF.below {w wr w' : World} {bw : Nat} {zs : List Int} {cs : Array Value} {XA : Option Addr} {sn xc : Nat} {cx : List Int} {YA : Option Addr} {yc : Nat} {cy : List Int} {gp : Nat} {fl : List Int} (h : OF w wr bw zs cs XA sn xc cx YA yc cy gp fl) (hb : Below wr.heap.size wr w') : OF w w' bw zs cs XA sn xc cx YA yc cy gp fl :=
  ⟨h.st.below hb, h.rx.below hb, h.ry.below hb, h.fl.below hb, fun hh => h.far (wrs_below hb h.st.wr_.from_.2 hh)⟩
theorem OF.drew {w wr : World} {bw : Nat} {zs : List Int} {cs : Array Value} {XA : Option Addr} {sn xc : Nat} {cx : List Int} {YA : Option Addr} {yc : Nat} {cy : List Int} {gp : Nat} {fl : List Int} (h : OF w wr bw zs cs XA sn xc cx YA yc cy gp fl) : OF w wr.drew bw zs cs XA sn xc cx YA yc cy gp fl :=
  h.below (Below.refl _ _).drew
theorem own_ne {t t' : TypeId} {k k' : IntKind} {w : World} {B B' g n c n' c' : Nat} {A : Option Addr} {zs ys : List Int} (h : Own t k w B A n c zs) (h' : Own t' k' w B' (some ⟨g, 0, none⟩) n' c' ys) (ht : t ≠ t') : ∀ q, blockOf A = some q → q ≠ g := by
  intro q hq
  rintro rfl
  rcases h.shape with ⟨rfl, _⟩ | ⟨g', cur, rfl, _, _, hh, _⟩
  · simp [blockOf] at hq
  · simp [blockOf] at hq
    subst hq
    obtain ⟨cur', hc'⟩ := h'.block
    rw [hh] at hc'
    simp at hc'
    exact ht hc'.2
theorem OF.set {w wr : World} {bw : Nat} {zs : List Int} {cs : Array Value} {XA : Option Addr} {sn xc : Nat} {cx : List Int} {YA : Option Addr} {yc : Nat} {cy : List Int} {gp : Nat} {fl : List Int} (h : OF w wr bw zs cs XA sn xc cx YA yc cy gp fl) (k : Nat) (x : Int) : OF w (wr.setCell ⟨gp, k, none⟩ (.int .u8 x)) bw zs cs XA sn xc cx YA yc cy gp (fl.set k x) := by
  have hfar := h.far
  obtain ⟨cur, hcur⟩ := h.fl.block
  have hbt : w.heap.size ≠ gp := by
    intro e
    have := h.st.box
    rw [e, hcur] at this
    simp at this
  have hbw : bw ≠ gp := fun e => hfar (.inl e.symm)
  refine ⟨⟨h.st.wr_.keep (fun k hk => Below.heap_setCell wr _ _ _ (by rintro rfl; exact hfar hk)), h.st.bel.setCell (p := ⟨gp, k, none⟩) (h.fl.from_ gp rfl).1 _, (Below.heap_setCell wr _ _ _ hbt).trans h.st.box, h.st.n8, h.st.nw⟩,
    h.rx.keep (fun q e => Below.heap_setCell wr _ _ _ (own_ne h.rx h.fl (by decide) q e)), h.ry.keep (fun q e => Below.heap_setCell wr _ _ _ (own_ne h.ry h.fl (by decide) q e)), h.fl.set k x, ?_⟩
  rintro (e | ⟨A, n, c, hb, e⟩)
  · exact hbw e.symm
  · rw [Below.heap_setCell wr _ _ _ hbw] at hb
    exact hfar (.inr ⟨A, n, c, hb, e⟩)

theorem oRight_parts {g : Gl} (h : oRight g = true) : (g.es.length ≤ 32767 ∧ g.pr.length ≤ 65535 ∧ riseN g.es g.es.length = true ∧ g.ps.length = cntE g.es) ∧ (∀ d ∈ chs (xsOf g.ps), -32768 ≤ d ∧ d ≤ 32767) ∧ (∀ d ∈ chs (ysOf g.ps), -32768 ≤ d ∧ d ≤ 32767) := by
  unfold oRight fitL at h
  simp at h
  obtain ⟨⟨⟨⟨⟨h1, h2⟩, h3⟩, h4⟩, h5⟩, h6⟩ := h
  exact ⟨⟨h1, h2, h3, h4⟩, fun d hd => fitsB_true (h5 d hd), fun d hd => fitsB_true (h6 d hd)⟩

theorem obytes_no (v : GlV) (w : World) (hr : v.rows w) (hf : v.few) (ho : v.g.ok) (hn : oRight v.g = false) : Calls Try.prog 18 #[v.val] w (RetB w []) := by
  have hA := (Below.refl w.heap.size w).alloc (Nat.le_refl _) (.cells v.cells 29)
  have HR := Lib.hid (oright_any v _ (hr.below hA) hf ho)
  rw [hn] at HR
  clear hr hf ho hn
  unfold GlV.val at *
  unfold GlV.cells at *
  obtain ⟨⟨x0, x1, x2, x3, es, pr, ps⟩, EA, en, ec, PA, pn, pc, SA, sn, sc⟩ := v
  simp only at *
  go_enter Try.func18, Try.ntmps18
  go_wp2_with fail
  with_reducible refine HR.out.mono ?_
  rintro e w1 ⟨rfl, hb1⟩
  go_wp2
  go_ret
  exact ⟨none, 0, 0, rfl, Own.nil _ _ _ _, hA.trans (hb1.mono hA.size)⟩

set_option maxRecDepth 100000 in
set_option maxHeartbeats 8000000 in
theorem obytes_yes (v : GlV) (w : World) (hr : v.rows w) (hf : v.few) (ho : v.g.ok) (hn : oRight v.g = true) : Calls Try.prog 18 #[v.val] w (RetB w (oB v.g)) := by
  obtain ⟨i0, hi, hz0, hz1, hz2⟩ := info_parts Try.u8info
  have hA := (Below.refl w.heap.size w).alloc (Nat.le_refl _) (.cells v.cells 29)
  have hk := heap_alloc_new w (.cells v.cells 29)
  have HR := Lib.hid (oright_any v _ (hr.below hA) hf ho)
  rw [hn] at HR
  obtain ⟨_, hcx, hcy⟩ := oRight_parts hn
  have HCx := Lib.hid hcx
  have HCy := Lib.hid hcy
  obtain ⟨f0, f1, f2⟩ := hf
  have HE : Hid (v.g.es.length = v.en) := hr.es.len
  have HP : Hid (v.g.pr.length = v.pn) := hr.pr.len
  have HS : Hid (v.g.ps.length = v.sn) := hr.ps.len
  have Hre := Lib.hid hr.es
  have Hrp := Lib.hid hr.pr
  have Hrs := Lib.hid hr.ps
  have HX : Hid (∀ W, Below w.heap.size w W → Calls Try.prog 47 #[v.val, .func (.func 48) #[] #[]] W (RetN 3 .i64 W (chs (xsOf v.g.ps)))) := fun W hW => ochX v W (hr.below hW) (by omega) ho
  have HY : Hid (∀ W, Below w.heap.size w W → Calls Try.prog 47 #[v.val, .func (.func 49) #[] #[]] W (RetN 3 .i64 W (chs (ysOf v.g.ps)))) := fun W hW => ochY v W (hr.below hW) (by omega) ho
  have HXl : Hid ((chs (xsOf v.g.ps)).length = v.sn) := by show _ = _; rw [chs_len, xsOf_len, HS.out]
  have HYl : Hid ((chs (ysOf v.g.ps)).length = v.sn) := by show _ = _; rw [chs_len, ysOf_len, HS.out]
  have HEs := Lib.hid ho.es
  have HOk := Lib.hid ho
  have HB : Hid (oB v.g = ((((((b2 v.g.es.length ++ boxB v.g.box) ++ endB v.g.es) ++ b2 v.g.pr.length) ++ v.g.pr) ++ rle (fls v.g.ps)) ++ cbs (chs (xsOf v.g.ps))) ++ cbs (chs (ysOf v.g.ps))) := rfl
  have Hbx : Hid (v.g.box = [v.g.x0, v.g.x1, v.g.x2, v.g.x3]) := rfl
  clear ho hr hcx hcy hn
  unfold GlV.val at *
  unfold GlV.cells at *
  obtain ⟨⟨x0, x1, x2, x3, es, pr, ps⟩, EA, en, ec, PA, pn, pc, SA, sn, sc⟩ := v
  simp only at *
  rw [HB.out, HE.out, HP.out]
  rw [show Gl.box ⟨x0, x1, x2, x3, es, pr, ps⟩ = [x0, x1, x2, x3] from rfl]
  clear HB Hbx
  go_enter Try.func18, Try.ntmps18
  go_wp2_with fail
  generalize w.alloc _ = V at *
  with_reducible refine HR.out.mono ?_
  rintro e w1 ⟨rfl, hb1⟩
  have hk1 := kept_block hk hb1
  have hB1 := hA.trans (hb1.mono hA.size)
  have hs := stB_lateO (by decide) (by decide) hk1 hB1
  clear hk hA hb1 hk1 hB1 HR
  have c4 := hs.cell 4 _ rfl
  have e4 : (en : Int) % 65536 = (en : Int) := by omega
  have HW := Lib.hid (wi16N_any _ _ [] (en : Int) _ hs.wr_ (by simp))
  rw [e4] at HW
  clear e4
  go_wp2_with fail
  generalize w1.heap.size = bw at *
  with_reducible refine HW.out.mono ?_
  rintro e w2 ⟨rfl, h2, t2⟩
  rw [List.nil_append] at h2
  replace hs := hs.turnedN h2 t2
  clear h2 t2 HW c4
  have c0 := hs.cell 0 _ rfl
  have c1 := hs.cell 1 _ rfl
  have c2 := hs.cell 2 _ rfl
  have c3 := hs.cell 3 _ rfl
  go_wp2
  clear c0 c1 c2 c3
  go_loopw [23] (fun i wr => ∃ k : Nat, k ≤ 4 ∧ i = .int .i64 k ∧ StB w wr bw (b2 en ++ boxB ([x0, x1, x2, x3].take k)) w.heap.size #[.int .i16 x0, .int .i16 x1, .int .i16 x2, .int .i16 x3, .slice EA en ec, .slice PA pn pc, .slice SA sn sc] 29) (fun i _ => 4 - (intOf i).toNat)
  case atStart => exact ⟨0, Nat.zero_le _, rfl, by simpa [boxB] using hs⟩
  case round =>
    clear hs
    obtain ⟨k, hk, rfl, hs⟩ := hrel
    by_cases hlt : k < 4
    · have hlen : (b2 en ++ boxB ([x0, x1, x2, x3].take k)).length ≤ 100 := by
        rw [List.length_append, boxB_len, List.length_take]
        simp [b2]
        omega
      obtain ⟨x, hx⟩ := get_some (zs := [x0, x1, x2, x3]) (k := k) hlt
      have HS2 := Lib.hid (boxB_snoc hx)
      have hix := run_index_arr (P := Try.prog) wr 23 22 4 #[.int .i16 x0, .int .i16 x1, .int .i16 x2, .int .i16 x3] k (.int .i16 x) Try.underlying23 (by simp [go_sem]) (by simp [go_sem]) hlt (by
        have h := cellsOf_get (k := .i16) hx
        simpa [cellsOf] using h)
      have HW := Lib.hid (wi16N_any _ bw _ x _ hs.wr_ (by omega))
      clear hx hlen
      go_wp2_with fail
      with_reducible refine HW.out.mono ?_
      rintro e w4 ⟨rfl, h4, t4⟩
      have hs4 := hs.turnedN h4 t4
      rw [List.append_assoc, ← HS2.out] at hs4
      clear t4 h4 hs hix HW
      go_wp2
      go_roundw
      case rel => exact ⟨k + 1, by omega, by go_num, hs4⟩
      case measure => simp [intOf]; omega
    · rw [show [x0, x1, x2, x3].take k = [x0, x1, x2, x3] from List.take_of_length_le (by simp; omega)] at hs
      have hlen : (b2 en ++ boxB [x0, x1, x2, x3]).length = 10 := by simp [b2, boxB]
      generalize b2 en ++ boxB [x0, x1, x2, x3] = Z1 at *
      have Hlen := Lib.hid hlen
      clear hlen
      have c4 := hs.cell 4 _ rfl
      go_wp2
      clear c4 hlt hk
      go_loopw [32] (fun i wr => ∃ k : Nat, k ≤ en ∧ i = .int .i64 k ∧ StB w wr bw (Z1 ++ endB (es.take k)) w.heap.size #[.int .i16 x0, .int .i16 x1, .int .i16 x2, .int .i16 x3, .slice EA en ec, .slice PA pn pc, .slice SA sn sc] 29) (fun i _ => en - (intOf i).toNat)
      case atStart => exact ⟨0, Nat.zero_le _, rfl, by simpa [endB] using hs⟩
      case round =>
        clear hs
        obtain ⟨k, hk, rfl, hs⟩ := hrel
        have hlen : (Z1 ++ endB (es.take k)).length ≤ 100000 := by
          rw [List.length_append, endB_len, List.length_take, Hlen.out]
          omega
        by_cases hlt : k < en
        · obtain ⟨x, hx⟩ := get_some (zs := es) (k := k) (by have := HE.out; omega)
          obtain ⟨g, off, rfl, hg, hc⟩ := (hs.older Hre.out).at (cellsOf_get (k := .u16) hx)
          have HS2 := Lib.hid (endB_snoc hx)
          obtain ⟨u0, u1⟩ := HEs.out x (List.mem_of_getElem? hx)
          have HW := Lib.hid (wu16N_any _ bw _ x _ hs.wr_ (by omega) u0 u1)
          clear hx hlen
          go_wp2_with fail
          with_reducible refine HW.out.mono ?_
          rintro e w4 ⟨rfl, h4, t4⟩
          have hs4 := hs.turnedN h4 t4
          rw [List.append_assoc, ← HS2.out] at hs4
          clear t4 h4 hs hc HW
          go_wp2
          go_roundw
          case rel => exact ⟨k + 1, by omega, by go_num, hs4⟩
          case measure => simp [intOf]; omega
        · rw [show es.take k = es from List.take_of_length_le (by have := HE.out; omega)] at hs hlen
          generalize Z1 ++ endB es = Z2 at *
          have Hlen2 := Lib.hid hlen
          clear hlen Hlen
          replace hs := hs.drew
          have hpv := hs.older Hrp.out
          have hpw : IntKind.u16.wrap (pn : Int) = (pn : Int) := by rw [IntKind.wrap_u16]; omega
          go_upto_region 15 with fail
          go_region_held3 (fun w' => w'.cell? ⟨w.heap.size, 5, none⟩ = some (.slice PA pn pc))
            (first | exact hs.cell 5 _ rfl)
            (first
              | (go_at_call 45; refine (wu16N_any _ bw _ (pn : Int) _ hs.wr_ (by have := Hlen2.out; omega) (by omega) (by omega)).mono ?_; rintro e w5 ⟨rfl, h5, t5⟩; replace hs := hs.turnedN h5 t5; clear h5 t5)
              | (go_at_call 46; refine (wput_any _ bw _ _ _ _ pr _ hs.wr_ (hs.older Hrp.out) (by have := Hlen2.out; rw [List.length_append]; simp [b2]; omega)).mono ?_; rintro e w5 ⟨rfl, h5, t5⟩; replace hs := hs.turned h5 t5; clear h5 t5))
          clear hpv hpw
          have hZ3 : (Z2 ++ b2 (pn : Int) ++ pr).length ≤ 200000 := by
            have := Hlen2.out
            rw [List.length_append, List.length_append, HP.out]
            simp [b2]
            omega
          generalize Z2 ++ b2 (pn : Int) ++ pr = Z3 at *
          have Hlen3 := Lib.hid hZ3
          clear hZ3 Hlen2
          replace hs := hs.drew
          go_upto_region 16 with fail
          go_region_held3 (fun w' => w'.cell? ⟨w.heap.size, 0, none⟩ = some (.int .i16 x0) ∧ w'.cell? ⟨w.heap.size, 1, none⟩ = some (.int .i16 x1) ∧ w'.cell? ⟨w.heap.size, 2, none⟩ = some (.int .i16 x2) ∧ w'.cell? ⟨w.heap.size, 3, none⟩ = some (.int .i16 x3) ∧ w'.cell? ⟨w.heap.size, 4, none⟩ = some (.slice EA en ec) ∧ w'.cell? ⟨w.heap.size, 5, none⟩ = some (.slice PA pn pc) ∧ w'.cell? ⟨w.heap.size, 6, none⟩ = some (.slice SA sn sc))
            (first | exact cells7 hs.box)
            (first
              | ((go_at_call 47; (with_reducible refine (HX.out _ hs.bel).mono ?_); rintro e w6 ⟨XA, xn, xc, rfl, hox, hb6⟩; replace hox := hox.mono hs.bel.size; replace hs := hs.below hb6; clear hb6))
              | ((go_at_call 47; (with_reducible refine (HY.out _ hs.bel).mono ?_); rintro e w7 ⟨YA, yn, yc, rfl, hoy, hb7⟩; replace hoy := hoy.mono hs.bel.size; replace hox := hox.below hb7; replace hs := hs.below hb7; clear hb7)))
          obtain rfl : sn = xn := by have := hox.len; rw [HXl.out] at this; exact this
          obtain rfl : sn = yn := by have := hoy.len; rw [HYl.out] at this; exact this
          have c6 := hs.cell 6 _ rfl
          go_wp2_with (at_make; refine wpList_make_ints rfl (.tmp 53) (.tmp 53) _ rfl 5 .u8 w.heap.size i0 1 Try.underlying25 hi hz0 hz1 hz2 _ _ sn sn rfl rfl (by omega) (by omega) (Nat.le_refl _) (by omega) (by omega) hs.bel.size ?_; intro w8 hown8 hg8; have hb8 := below_of_grown hg8 (Nat.le_refl _) (fun k e => by cases e); have c6' := (hs.below hb8).cell 6 _ rfl)
          have hof : OF w w8 bw Z3 #[.int .i16 x0, .int .i16 x1, .int .i16 x2, .int .i16 x3, .slice EA en ec, .slice PA pn pc, .slice SA sn sc] XA sn xc (chs (xsOf ps)) YA yc (chs (ysOf ps)) w7.heap.size (flK ps 0 ++ List.replicate (sn - 0) 0) :=
            ⟨hs.below hb8, hox.below hb8, hoy.below hb8, hown8, fun hh => by have := (hs.wr_.owns _ (wrs_below hb8 hs.wr_.from_.2 hh)).2; omega⟩
          clear hs hox hoy hown8 hg8 hb8 c6' c6 hi hz0 hz1 hz2 hlt hk
          generalize w7.heap.size = gp at *
          go_loopw [58] (fun i wr => ∃ k : Nat, k ≤ sn ∧ i = .int .i64 k ∧ OF w wr bw Z3 #[.int .i16 x0, .int .i16 x1, .int .i16 x2, .int .i16 x3, .slice EA en ec, .slice PA pn pc, .slice SA sn sc] XA sn xc (chs (xsOf ps)) YA yc (chs (ysOf ps)) gp (flK ps k ++ List.replicate (sn - k) 0)) (fun i _ => sn - (intOf i).toNat)
          case atStart => exact ⟨0, Nat.zero_le _, rfl, hof⟩
          case round =>
            clear hof
            obtain ⟨k, hk, rfl, hs⟩ := hrel
            by_cases hlt : k < sn
            · obtain ⟨p, hp⟩ : ∃ p, ps[k]? = some p := ⟨ps[k]'(by have := HS.out; omega), List.getElem?_eq_getElem (by have := HS.out; omega)⟩
              have hcx := chs_get (xsOf ps) (i := k) (by rw [xsOf_len, HS.out]; exact hlt)
              have hcy := chs_get (ysOf ps) (i := k) (by rw [ysOf_len, HS.out]; exact hlt)
              have hfa : flA ps k = bitsV (chA (xsOf ps) k) 2 16 + bitsV (chA (ysOf ps) k) 4 32 + (if p.2.2 then 1 else 0) := by
                unfold flA flagOf
                rw [List.getD_eq_getElem?_getD, hp]
                rfl
              have HST := Lib.hid (flK_set ps k sn hlt)
              have HFA := Lib.hid hfa
              obtain ⟨z, hz⟩ : ∃ z, (flK ps k ++ List.replicate (sn - k) 0)[k]? = some z := ⟨_, List.getElem?_eq_getElem (by simp [flK_len]; omega)⟩
              obtain ⟨g, off, rfl, hg, q0, q1, q2⟩ := atSp (Hrs.out.below hs.st.bel) hp
              obtain ⟨px, py, po⟩ := p
              simp only at q0 q1 q2 HFA
              have hA2 := (Below.refl wr.heap.size wr).alloc (Nat.le_refl _) (.cells #[.int .i16 px, .int .i16 py, .bool po] 60)
              have hs2 := (hs.below hA2).drew
              have hk2 : (wr.alloc (.cells #[.int .i16 px, .int .i16 py, .bool po] 60)).drew.heap[wr.heap.size]? = some (.cells #[.int .i16 px, .int .i16 py, .bool po] 60 (0, 0)) := heap_alloc_new wr _
              obtain ⟨gx, ox, eXA, _, hqx⟩ := hs2.rx.row.at (cellsOf_get (k := .i64) hcx)
              obtain ⟨gy, oy, eYA, _, hqy⟩ := hs2.ry.row.at (cellsOf_get (k := .i64) hcy)
              obtain ⟨gf, of, eFA, _, hqf⟩ := hs2.fl.row.at (cellsOf_get (k := .u8) hz)
              simp only [Option.some.injEq, Addr.mk.injEq, and_true] at eFA
              obtain ⟨rfl, rfl⟩ := eFA
              rw [Nat.zero_add] at hqf
              subst eXA eYA
              have f0 := hs2.fl.thaw k
              have hgn : g ≠ wr.heap.size := by omega
              have hgp1 : gp ≠ wr.heap.size := by have := (hs.fl.from_ gp rfl).2; omega
              have hgp2 : wr.heap.size ≠ gp := fun e => hgp1 e.symm
              have hbo := bits_or (chA (xsOf ps) k) (chA (ysOf ps) k)
              have hbo1 := bits_or1 (chA (xsOf ps) k) (chA (ysOf ps) k)
              obtain ⟨b0, b1, b2, b3, b4, b5⟩ := bitsV_lt (chA (xsOf ps) k) (chA (ysOf ps) k)
              have HBx : Hid (∀ W, Calls Try.prog 50 #[.int .i64 (chA (xsOf ps) k), .int .u8 2, .int .u8 16] W fun e w' => e = .returned (.int .u8 (bitsV (chA (xsOf ps) k) 2 16)) ∧ w' = W) := fun W => (obits_any _ _ _ W (by decide +kernel)).mono fun e w' ⟨h1, h2⟩ => ⟨h1, h2.symm⟩
              have HBy : Hid (∀ W, Calls Try.prog 50 #[.int .i64 (chA (ysOf ps) k), .int .u8 4, .int .u8 32] W fun e w' => e = .returned (.int .u8 (bitsV (chA (ysOf ps) k) 4 32)) ∧ w' = W) := fun W => (obits_any _ _ _ W (by decide +kernel)).mono fun e w' ⟨h1, h2⟩ => ⟨h1, h2.symm⟩
              clear hs hp hcx hcy hfa hz hA2
              generalize chA (xsOf ps) k = dx at *
              generalize chA (ysOf ps) k = dy at *
              generalize bitsV dx 2 16 = fx at *
              generalize bitsV dy 4 32 = fy at *
              go_upto_region 21 with fail
              generalize (wr.alloc (.cells #[.int .i16 px, .int .i16 py, .bool po] 60)) = U at *
              have x2 : U.cell? ⟨wr.heap.size, 2, none⟩ = some (.bool po) := cell_of_row _ _ 2 _ _ _ hk2
              have hqf' : U.cell? ⟨gp, k, none⟩ = some (.int .u8 z) := hqf
              have f0' : U.frozen? ⟨gp, k, none⟩ = false := f0
              have HS3 := Lib.hid (hs2.set k (fx + fy))
              clear hs2 hk2 q0 q1 q2
              refine wp_region_still_tail 14 (by kernel_rfl) (by kernel_rfl) ?_
              simp only [List.take_succ_cons, List.take_zero, List.drop_succ_cons, List.drop_zero]
              repeat still_step
              still_call (HBx.out _)
              repeat still_step
              still_call (HBy.out _)
              repeat still_step
              refine wpStill_nil ?_
              cases po
              · have hs4 := HS3.out
                have hst2 := HST.out
                rw [show flA ps k = fx + fy by rw [HFA.out]; simp] at hst2
                rw [hst2] at hs4
                have H4 := Lib.hid hs4
                clear hs4 HS3 hst2
                go_wp2
                go_roundw
                case rel => exact ⟨k + 1, by omega, by go_num, H4.out⟩
                case measure => simp [intOf]; omega
              · have hs4 := HS3.out.set k (fx + fy + 1)
                have hst2 := HST.out
                rw [show flA ps k = fx + fy + 1 by rw [HFA.out]; simp] at hst2
                rw [List.set_set, hst2] at hs4
                have H4 := Lib.hid hs4
                clear hs4 HS3 hst2
                go_wp2
                go_roundw
                case rel => exact ⟨k + 1, by omega, by go_num, H4.out⟩
                case measure => simp [intOf]; omega
            · have hE : flK ps k ++ List.replicate (sn - k) 0 = fls ps := by
                have := HS.out
                unfold fls
                rw [show k = ps.length by omega, show sn - ps.length = 0 by omega]
                simp
              rw [hE] at hs
              have hzl := Hlen3.out
              have hfl : (fls ps).length = sn := by unfold fls; rw [flK_len]; exact HS.out
              have hW := Lib.hid (owflags_any w.heap.size bw Z3 (some ⟨gp, 0, none⟩) sn sn (fls ps) wr hs.st.wr_ hs.fl.row (fun q e => by simp [blockOf] at e; subst e; exact hs.far) (Nat.le_refl _) (by omega) (by omega) (fls_in ps))
              have hrl := rle_len (fls ps)
              clear hE
              go_wp2_with fail
              with_reducible refine hW.out.mono ?_
              rintro e w10 ⟨rfl, h10, t10⟩
              have hs10 := hs.st.turnedN h10 t10
              have fx1 : ∀ q, blockOf XA = some q → ¬ WrS wr bw q := fun q e hh => by
                rcases hs.rx.shape with ⟨rfl, _⟩ | ⟨g', cur, rfl, _, _, hh', _⟩
                · simp [blockOf] at e
                · simp [blockOf] at e
                  subst e
                  exact hs.st.wr_.apart hh' (by decide) (by decide) hh
              have fy1 : ∀ q, blockOf YA = some q → ¬ WrS wr bw q := fun q e hh => by
                rcases hs.ry.shape with ⟨rfl, _⟩ | ⟨g', cur, rfl, _, _, hh', _⟩
                · simp [blockOf] at e
                · simp [blockOf] at e
                  subst e
                  exact hs.st.wr_.apart hh' (by decide) (by decide) hh
              have rx1 := t10.row hs.rx.row fx1
              have ry1 := t10.row hs.ry.row fy1
              have fx2 : ∀ q, blockOf XA = some q → ¬ WrS w10 bw q := fun q e => t10.far (hs.rx.from_ q e).2 (fx1 q e)
              have fy2 : ∀ q, blockOf YA = some q → q < w10.heap.size ∧ ¬ WrS w10 bw q := fun q e => ⟨Nat.lt_of_lt_of_le (hs.ry.from_ q e).2 t10.t.size, t10.far (hs.ry.from_ q e).2 (fy1 q e)⟩
              have hz10 : (Z3 ++ rle (fls ps)).length ≤ 300000 := by rw [List.length_append]; omega
              have hW2 := Lib.hid (owchanges_any w.heap.size bw _ XA sn xc (chs (xsOf ps)) w10 hs10.wr_ rx1 fx2 (by omega) (by omega) HCx.out)
              have Hry1 := Lib.hid ry1
              have Hfy2 := Lib.hid fy2
              clear hs h10 t10 fx1 fy1 rx1 fx2 ry1 fy2 hW
              go_wp2_with fail
              with_reducible refine hW2.out.mono ?_
              rintro e w11 ⟨rfl, h11, t11⟩
              have hs11 := hs10.turnedN h11 t11
              have ry2 := t11.row Hry1.out (fun q e => (Hfy2.out q e).2)
              have fy3 : ∀ q, blockOf YA = some q → ¬ WrS w11 bw q := fun q e => t11.far (Hfy2.out q e).1 (Hfy2.out q e).2
              have hxl := cbs_len (chs (xsOf ps))
              have hyl := cbs_len (chs (ysOf ps))
              rw [HXl.out] at hxl
              rw [HYl.out] at hyl
              have hz11 : (Z3 ++ rle (fls ps) ++ cbs (chs (xsOf ps))).length ≤ 400000 := by rw [List.length_append]; omega
              have hW3 := Lib.hid (owchanges_any w.heap.size bw _ YA sn yc (chs (ysOf ps)) w11 hs11.wr_ ry2 fy3 (by omega) (by omega) HCy.out)
              clear h11 t11 hs10 ry2 fy3 hW2 Hry1 Hfy2
              go_wp2_with fail
              with_reducible refine hW3.out.mono ?_
              rintro e w12 ⟨rfl, h12, t12⟩
              have hs12 := hs11.turnedN h12 t12
              have hW4 := Lib.hid (done_any w.heap.size bw _ w12 hs12.wr_ (by rw [List.length_append]; omega))
              clear h12 t12 hs11 hW3
              go_wp2_with fail
              with_reducible refine hW4.out.mono ?_
              rintro e w13 ⟨A13, n13, c13, rfl, ho13, hb13⟩
              have hbf := hs12.bel.trans (hb13.mono hs12.bel.size)
              have hof := ho13.mono hs12.bel.size
              clear hs12 ho13 hb13 hW4
              go_wp2
              go_ret
              exact ⟨A13, n13, c13, rfl, hof, hbf⟩

theorem obytes_any (v : GlV) (w : World) (hr : v.rows w) (hf : v.few) (ho : v.g.ok) : Calls Try.prog 18 #[v.val] w (RetB w (oBytes v.g)) := by
  unfold oBytes
  cases h : oRight v.g with
  | false => rw [if_neg (by decide)]; exact obytes_no v w hr hf ho h
  | true => rw [if_pos rfl]; exact obytes_yes v w hr hf ho h

end Go.Proofs.Ytlcnonhebppeiaa
