/- compo: Bytes, as a contract over this seat's translation. -/
import Derived.Test.YtlcnonhebppeiaaComB2
import Derived.Test.YtlcnonhebppeiaaComW
import Derived.Test.YtlcnonhebppeiaaSimX
namespace Go.Proofs.Ytlcnonhebppeiaa
open Go.RowKit
set_option linter.unusedVariables false
set_option linter.unusedSimpArgs false

/-- The first parts' bytes. -/
def ptsB (ps : List Pt) (k : Nat) : List Int := (List.range k).flatMap fun i => match ps[i]? with
  | some p => ptB p (decide (i + 1 < ps.length))
  | none => []
theorem ptsB_succ {ps : List Pt} {k : Nat} {p : Pt} (h : ps[k]? = some p) : ptsB ps (k + 1) = ptsB ps k ++ ptB p (decide (k + 1 < ps.length)) := by simp [ptsB, List.range_succ, h]
theorem ptB_len (p : Pt) (go : Bool) : (ptB p go).length ≤ 16 := by
  have hm : (matL (knd p.f) p).length ≤ 4 := by unfold matL; split; simp; split; simp; split <;> simp
  have h2 : ∀ l : List Int, (l.flatMap fun v => b2 (v % 65536)).length = 2 * l.length := fun l => by
    induction l with
    | nil => rfl
    | cons x r ih => rw [List.flatMap_cons, List.length_append, ih, List.length_cons]; simp [b2]; omega
  have hx : (if fb p.f 1 then b2 (p.x % 65536) ++ b2 (p.y % 65536) else [p.x % 256, p.y % 256]).length ≤ 4 := by split <;> simp [b2]
  have hb : ∀ x, (b2 x).length = 2 := fun x => rfl
  unfold ptB
  rw [List.length_append, List.length_append, List.length_append, h2, hb, hb]
  omega
theorem ptsB_len (ps : List Pt) : ∀ k, (ptsB ps k).length ≤ 16 * k
  | 0 => by simp [ptsB]
  | k + 1 => by
    have ih := ptsB_len ps k
    have e : ptsB ps (k + 1) = ptsB ps k ++ (match ps[k]? with | some p => ptB p (decide (k + 1 < ps.length)) | none => []) := by simp [ptsB, List.range_succ]
    rw [e, List.length_append]
    cases h : ps[k]? with
    | none => simp; omega
    | some p => have := ptB_len p (decide (k + 1 < ps.length)); simp only; omega
def cB (g : Cg) : List Int := b2 65535 ++ boxB [g.x0, g.x1, g.x2, g.x3] ++ ptsB g.ps g.ps.length ++ (if codeB g.ps then b2 g.pr.length ++ g.pr else [])
def cBytes (g : Cg) : List Int := if cRight g then cB g else []
theorem cRight_parts {g : Cg} (h : cRight g = true) : 1 ≤ g.ps.length ∧ g.ps.length ≤ 200 ∧ g.pr.length ≤ 65535 ∧ partsOk g.ps g.ps.length = true := by
  unfold cRight at h
  simp only [Bool.and_eq_true, decide_eq_true_eq] at h
  exact ⟨h.1.1.1.1, h.1.1.1.2, h.1.1.2, h.1.2⟩
theorem partsOk_at {ps : List Pt} {n k : Nat} {p : Pt} (h : partsOk ps n = true) (hk : k < n) (hp : ps[k]? = some p) : ptRight p = true := by
  unfold partsOk at h
  rw [List.all_eq_true] at h
  have := h k (List.mem_range.2 hk)
  rw [hp] at this
  simp only [Bool.and_eq_true] at this
  exact this.1
theorem ptRight_parts {p : Pt} (h : ptRight p = true) : fb p.f 32 = false ∧ p.f < 8192 ∧ twoK p.f = false := by
  unfold ptRight strange at h
  simp only [Bool.and_eq_true, Bool.not_eq_true', Bool.or_eq_false_iff, decide_eq_false_iff_not] at h
  exact ⟨h.1.1.1.1.1.1.2, by omega, h.1.1.2⟩

theorem cbytes_no (v : CgV) (w : World) (hr : v.rows w) (hq1 : v.q ≤ 1000000) (hp1 : v.pn ≤ 1000000) (ho : v.g.ok) (hn : cRight v.g = false) : Calls Try.prog 32 #[v.val] w (RetB w []) := by
  have hA := (Below.refl w.heap.size w).alloc (Nat.le_refl _) (.cells v.cells 67)
  have hk := heap_alloc_new w (.cells v.cells 67)
  have HR := Lib.hid (cright_any v _ (hr.below hA) hq1 hp1 ho)
  rw [hn] at HR
  clear hr ho hn
  unfold CgV.val at *
  unfold CgV.cells at *
  obtain ⟨⟨x0, x1, x2, x3, ps, pr⟩, QA, q, qc, PA, pn, pc⟩ := v
  simp only at *
  obtain ⟨c0, c1, c2, c3, c4, c5⟩ := cells6 hk
  go_enter Try.func32, Try.ntmps32
  go_wp2_with fail
  with_reducible refine HR.out.mono ?_
  rintro e w1 ⟨rfl, hb1⟩
  go_wp2
  go_ret
  exact ⟨none, 0, 0, rfl, Own.nil _ _ _ _, hA.trans (hb1.mono hA.size)⟩

set_option maxRecDepth 100000 in
set_option maxHeartbeats 8000000 in
theorem cbytes_yes (v : CgV) (w : World) (hr : v.rows w) (hq1 : v.q ≤ 1000000) (hp1 : v.pn ≤ 1000000) (ho : v.g.ok) (hn : cRight v.g = true) : Calls Try.prog 32 #[v.val] w (RetB w (cB v.g)) := by
  have hA := (Below.refl w.heap.size w).alloc (Nat.le_refl _) (.cells v.cells 67)
  have hk := heap_alloc_new w (.cells v.cells 67)
  have HR := Lib.hid (cright_any v _ (hr.below hA) hq1 hp1 ho)
  rw [hn] at HR
  have HS : Hid (v.g.ps.length = v.q) := hr.ps.len
  have HP : Hid (v.g.pr.length = v.pn) := hr.pr.len
  have Hrs := Lib.hid hr.ps
  have Hrp := Lib.hid hr.pr
  have HOk := Lib.hid ho.ps
  obtain ⟨r1, r2, r3, r4⟩ := cRight_parts hn
  have HPo := Lib.hid r4
  rw [HS.out] at r1 r2 HPo
  rw [HP.out] at r3
  have HCc : Hid (∀ W, Below w.heap.size w W → Calls Try.prog 77 #[v.val] W (Ret W (.bool (codeB v.g.ps)))) := fun W hW => ccode_any v W (hr.below hW) r1 hq1 ho
  have HB : Hid (cB v.g = b2 65535 ++ boxB [v.g.x0, v.g.x1, v.g.x2, v.g.x3] ++ ptsB v.g.ps v.q ++ (if codeB v.g.ps then b2 v.pn ++ v.g.pr else [])) := by show _ = _; unfold cB; rw [HS.out, HP.out]
  generalize cB v.g = Zt at *
  clear ho hr hn r4
  unfold CgV.val at *
  unfold CgV.cells at *
  obtain ⟨⟨x0, x1, x2, x3, ps, pr⟩, QA, q, qc, PA, pn, pc⟩ := v
  simp only at *
  obtain ⟨c0, c1, c2, c3, c4, c5⟩ := cells6 hk
  go_enter Try.func32, Try.ntmps32
  go_wp2_with fail
  generalize w.alloc _ = V at *
  with_reducible refine HR.out.mono ?_
  rintro e w1 ⟨rfl, hb1⟩
  have hk1 := kept_block hk hb1
  have hB1 := hA.trans (hb1.mono hA.size)
  have hs := stB_lateO (by decide) (by decide) hk1 hB1
  clear hk hA hb1 hk1 hB1 HR c0 c1 c2 c3 c4 c5
  have HW := Lib.hid (wu16N_any _ _ [] 65535 _ hs.wr_ (by simp) (by omega) (by omega))
  go_wp2_with fail
  generalize w1.heap.size = bw at *
  with_reducible refine HW.out.mono ?_
  rintro e w2 ⟨rfl, h2, t2⟩
  rw [List.nil_append] at h2
  replace hs := hs.turnedN h2 t2
  clear h2 t2 HW
  have c0 := hs.cell 0 _ rfl
  have c1 := hs.cell 1 _ rfl
  have c2 := hs.cell 2 _ rfl
  have c3 := hs.cell 3 _ rfl
  go_wp2
  clear c0 c1 c2 c3
  go_loopw [15] (fun i wr => ∃ k : Nat, k ≤ 4 ∧ i = .int .i64 k ∧ StB w wr bw (b2 65535 ++ boxB ([x0, x1, x2, x3].take k)) w.heap.size #[.int .i16 x0, .int .i16 x1, .int .i16 x2, .int .i16 x3, .slice QA q qc, .slice PA pn pc] 67) (fun i _ => 4 - (intOf i).toNat)
  case atStart => exact ⟨0, Nat.zero_le _, rfl, by simpa [boxB] using hs⟩
  case round =>
    clear hs
    obtain ⟨k, hk, rfl, hs⟩ := hrel
    by_cases hlt : k < 4
    · have hlen : (b2 65535 ++ boxB ([x0, x1, x2, x3].take k)).length ≤ 100 := by
        rw [List.length_append, boxB_len, List.length_take]
        simp [b2]
        omega
      obtain ⟨x, hx⟩ := get_some (zs := [x0, x1, x2, x3]) (k := k) hlt
      have HS2 := Lib.hid (boxB_snoc hx)
      have hix := run_index_arr (P := Try.prog) wr 23 22 4 #[.int .i16 x0, .int .i16 x1, .int .i16 x2, .int .i16 x3] k (.int .i16 x) Try.underlying23 (by simp [go_sem]) (by simp [go_sem]) hlt (by
        have h := cellsOf_get (k := .i16) hx
        simpa [cellsOf] using h)
      have HW := Lib.hid (wi16N_any _ bw _ x _ hs.wr_ (by omega))
      clear hx hlen
      go_wp2_with fail
      with_reducible refine HW.out.mono ?_
      rintro e w4 ⟨rfl, h4, t4⟩
      have hs4 := hs.turnedN h4 t4
      rw [List.append_assoc, ← HS2.out] at hs4
      clear t4 h4 hs hix HW
      go_wp2
      go_roundw
      case rel => exact ⟨k + 1, by omega, by go_num, hs4⟩
      case measure => simp [intOf]; omega
    · rw [show [x0, x1, x2, x3].take k = [x0, x1, x2, x3] from List.take_of_length_le (by simp; omega)] at hs
      have hlen : (b2 65535 ++ boxB [x0, x1, x2, x3]).length = 10 := by simp [b2, boxB]
      generalize b2 65535 ++ boxB [x0, x1, x2, x3] = Z1 at *
      have Hlen := Lib.hid hlen
      clear hlen
      have c4 := hs.cell 4 _ rfl
      have w4 : IntKind.i64.wrap ((q : Int) - 1) = (q : Int) - 1 := IntWalk.i64_in _ (by omega)
      go_wp2
      clear c4 hlt hk
      go_loopw [28] (fun i wr => ∃ k : Nat, k ≤ q ∧ i = .int .i64 k ∧ StB w wr bw (Z1 ++ ptsB ps k) w.heap.size #[.int .i16 x0, .int .i16 x1, .int .i16 x2, .int .i16 x3, .slice QA q qc, .slice PA pn pc] 67) (fun i _ => q - (intOf i).toNat)
      case atStart => exact ⟨0, Nat.zero_le _, rfl, by simpa [ptsB] using hs⟩
      case round =>
        clear hs
        obtain ⟨k, hk, rfl, hs⟩ := hrel
        have hlen : (Z1 ++ ptsB ps k).length ≤ 100000 := by
          have := ptsB_len ps k
          rw [List.length_append, Hlen.out]
          omega
        by_cases hlt : k < q
        · obtain ⟨p, hp⟩ : ∃ p, ps[k]? = some p := ⟨ps[k]'(by have := HS.out; omega), List.getElem?_eq_getElem (by have := HS.out; omega)⟩
          have hpo := HOk.out p (List.mem_of_getElem? hp)
          obtain ⟨s1, s2, s3⟩ := ptRight_parts (partsOk_at HPo.out hlt hp)
          have HS2 := Lib.hid (ptsB_succ hp)
          rw [HS.out] at HS2
          obtain ⟨g, off, rfl, hg, d0, d1, d2, d3, d4, d5, d6, d7⟩ := atPt (Hrs.out.below hs.bel) hp
          have hA2 := (Below.refl wr.heap.size wr).alloc (Nat.le_refl _) (.cells p.cells 89)
          have hkp := heap_alloc_new wr (.cells p.cells 89)
          have hs2 := hs.below hA2
          have hgn : g ≠ wr.heap.size := by omega
          have HWr := Lib.hid (cwrite_any _ bw _ p (decide (k + 1 < q)) _ hs2.wr_ hpo s1 s2 s3 (by omega))
          have hdq : decide ((k : Int) < (q : Int) - 1) = decide (k + 1 < q) := by
            rw [Bool.eq_iff_iff, decide_eq_true_eq, decide_eq_true_eq]
            omega
          clear hp hpo hA2 hs s1 s2 s3
          unfold Pt.val at *
          unfold Pt.cells at *
          generalize ptB p (decide (k + 1 < q)) = pb at *
          obtain ⟨f, i, x, y, xx, xy, yx, yy⟩ := p
          simp only at *
          obtain ⟨m0, m1, m2, m3, m4, m5, m6, m7⟩ := cells8 hkp
          go_wp2_with fail
          clear d0 d1 d2 d3 d4 d5 d6 d7 m0 m1 m2 m3 m4 m5 m6 m7 hkp
          generalize wr.alloc _ = U at *
          try rw [hdq]
          refine HWr.out.mono ?_
          rintro e w5 ⟨rfl, h5, t5⟩
          have hs5 := hs2.turnedN h5 t5
          rw [List.append_assoc, ← HS2.out] at hs5
          clear h5 t5 hs2 HWr
          go_wp2
          go_roundw
          case rel => exact ⟨k + 1, by omega, by go_num, hs5⟩
          case measure => simp [intOf]; omega
        · obtain rfl : k = q := by omega
          generalize Z1 ++ ptsB ps k = Z2 at *
          have Hlen2 := Lib.hid hlen
          clear hlen Hlen
          have HC := Lib.hid (HCc.out wr hs.bel)
          obtain ⟨c0, c1, c2, c3, c4, c5⟩ := cells6 hs.box
          go_wp2_with fail
          with_reducible refine HC.out.mono ?_
          rintro e w5 ⟨rfl, hb5⟩
          replace hs := hs.below hb5
          clear c0 c1 c2 c3 c4 c5 HC hb5 HCc
          generalize codeB ps = cb at *
          cases cb with
          | false =>
            have hW4 := Lib.hid (done_any w.heap.size bw _ w5 hs.wr_ (by have := Hlen2.out; omega))
            go_wp2_with fail
            with_reducible refine hW4.out.mono ?_
            rintro e w6 ⟨A6, n6, c6, rfl, ho6, hb6⟩
            have hbf := hs.bel.trans (hb6.mono hs.bel.size)
            have hof := ho6.mono hs.bel.size
            clear hs ho6 hb6 hW4
            go_wp2
            go_ret
            exact ⟨A6, n6, c6, rfl, by rw [HB.out]; simpa using hof, hbf⟩
          | true =>
            replace hs := hs.drew
            have hpw : IntKind.u16.wrap (pn : Int) = (pn : Int) := by rw [IntKind.wrap_u16]; omega
            go_upto_region 17 with fail
            go_region_held3 (fun w' => w'.cell? ⟨w.heap.size, 5, none⟩ = some (.slice PA pn pc))
              (first | exact hs.cell 5 _ rfl)
              (first
                | (go_at_call 45; refine (wu16N_any _ bw _ (pn : Int) _ hs.wr_ (by have := Hlen2.out; omega) (by omega) (by omega)).mono ?_; rintro e w5 ⟨rfl, h5, t5⟩; replace hs := hs.turnedN h5 t5; clear h5 t5)
                | (go_at_call 46; refine (wput_any _ bw _ _ _ _ pr _ hs.wr_ (hs.older Hrp.out) (by have := Hlen2.out; rw [List.length_append]; simp [b2]; omega)).mono ?_; rintro e w5 ⟨rfl, h5, t5⟩; replace hs := hs.turned h5 t5; clear h5 t5))
            clear hpw
            have hW4 := Lib.hid (done_any w.heap.size bw _ _ hs.wr_ (by have := Hlen2.out; have := HP.out; rw [List.length_append, List.length_append]; simp [b2]; omega))
            go_wp2_with fail
            refine hW4.out.mono ?_
            rintro e w6 ⟨A6, n6, c6, rfl, ho6, hb6⟩
            have hbf := hs.bel.trans (hb6.mono hs.bel.size)
            have hof := ho6.mono hs.bel.size
            clear hs ho6 hb6 hW4
            go_wp2
            go_ret
            exact ⟨A6, n6, c6, rfl, by rw [HB.out]; simpa [List.append_assoc] using hof, hbf⟩

theorem cbytes_any (v : CgV) (w : World) (hr : v.rows w) (hq1 : v.q ≤ 1000000) (hp1 : v.pn ≤ 1000000) (ho : v.g.ok) : Calls Try.prog 32 #[v.val] w (RetB w (cBytes v.g)) := by
  unfold cBytes
  cases h : cRight v.g with
  | false => rw [if_neg (by decide)]; exact cbytes_no v w hr hq1 hp1 ho h
  | true => rw [if_pos rfl]; exact cbytes_yes v w hr hq1 hp1 ho h

end Go.Proofs.Ytlcnonhebppeiaa
