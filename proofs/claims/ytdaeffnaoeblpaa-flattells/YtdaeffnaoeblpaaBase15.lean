/- What the laws of this seat lean on: FlK LocaMath LocaB LocaB2 LocaRef2 Xor SimI DotOpen. -/
import Derived.Lib.SmallJoins
import Derived.ProofKit
import Derived.ChangeSame
import Derived.OpenShut
import Derived.Test.YtdaeffnaoeblpaaBase1
import Derived.Test.YtdaeffnaoeblpaaBase2
import Derived.Test.YtdaeffnaoeblpaaBase3
import Derived.Test.YtdaeffnaoeblpaaBase4
import Derived.Test.YtdaeffnaoeblpaaBase9
import Derived.Test.YtdaeffnaoeblpaaBase11
import Derived.Test.YtdaeffnaoeblpaaBase14

/- flat: the glyphs of which one is made: the program's Parts and the document's, as contracts over this seat's translation. -/
namespace Go.Proofs.Ytdaeffnaoeblpaa
open Go.RowKit
set_option linter.unusedVariables false
set_option linter.unusedSimpArgs false

theorem Try.u16infoK : (Try.prog.info? 39).map (fun i => (i.zero, i.size, i.bytes)) = some (some (.int .u16 0), 1, 2) := by kernel_rfl
def idsK (ps : List Pt) (k : Nat) : List Int := (ps.take k).map (·.i) ++ List.replicate (ps.length - k) 0
theorem idsK_set {ps : List Pt} {k : Nat} {p : Pt} (h : ps[k]? = some p) : (idsK ps k).set k p.i = idsK ps (k + 1) := by
  have hk := (List.getElem?_eq_some_iff.1 h).1
  unfold idsK
  rw [show ps.length - k = (ps.length - (k + 1)) + 1 by omega, List.replicate_succ, List.set_append_right _ _ (by simp; omega), List.length_map, List.length_take, Nat.min_eq_left (by omega), Nat.sub_self, List.set_cons_zero, List.take_add_one, h]
  simp
theorem idsK_all (ps : List Pt) : idsK ps ps.length = ps.map (·.i) := by simp [idsK]
theorem idsK_len (ps : List Pt) (k : Nat) (hk : k ≤ ps.length) : (idsK ps k).length = ps.length := by simp [idsK]; omega

def RetPs (w : World) (zs : List Int) (e : Ending) (w' : World) : Prop :=
  Below w.heap.size w w' ∧ (shZ zs = none → e = .returned (.tuple #[.slice none 0 0, .int .i64 2])) ∧ ∀ cs ps, shZ zs = some (cs, ps) → ∃ PA pn pc, e = .returned (.tuple #[.slice PA pn pc, .int .i64 0]) ∧ Own 39 .u16 w' w.heap.size PA pn pc (ps.map (·.i)) ∧ ps.length ≤ 201

set_option maxRecDepth 100000 in
set_option maxHeartbeats 2000000 in
theorem fparts_any (A : Option Addr) (n c : Nat) (zs : List Int) (w : World) (hr : Row w A n (cellsOf .u8 zs)) (hB : Bytes zs) (hn : n ≤ 68747) (hc : n ≤ c) : Calls Try.prog 29 #[.slice A n c] w (RetPs w zs) := by
  obtain ⟨i0, hi, hz0, hz1, hz2⟩ := info_parts Try.u16infoK
  have HRd := Lib.hid (fread_any A n c zs w hr hB hn hc)
  have HB := Lib.hid hB
  clear hr hB
  go_enter Try.func29, Try.ntmps29
  go_wp2_with fail
  with_reducible refine HRd.out.mono ?_
  rintro e w2 ⟨hb2, hno, hyes⟩
  cases hz : shZ zs with
  | none =>
    obtain ⟨DA, d, dc, TA, t, tc, rfl⟩ := hno hz
    have hA := hb2.alloc hb2.size (.cells #[.slice DA d dc, .slice TA t tc] 128)
    have HRet : Hid (∀ W, Below w.heap.size w W → RetPs w zs (.returned (.tuple #[.slice none 0 0, .int .i64 2])) W) := fun W h => ⟨h, fun _ => rfl, fun cs ps h2 => by rw [hz] at h2; cases h2⟩
    clear HRd hno hyes hz
    go_wp2_with fail
    exact bodyPost_ret (v := .tuple #[.slice none 0 0, .int .i64 2]) (by simp [results, Try.results29, go_sem]) rfl (HRet.out _ hA)
  | some z =>
    obtain ⟨cs, ps⟩ := z
    obtain ⟨CA, cn, cc, TA, t, tc, rfl, hacc, hprow, ht, hty⟩ := hyes cs ps hz
    have HRet : Hid (∀ PA pn pc W, Below w.heap.size w W → Own 39 .u16 W w.heap.size PA pn pc (ps.map (·.i)) → RetPs w zs (.returned (.tuple #[.slice PA pn pc, .int .i64 0])) W) := fun PA pn pc W h h2 => ⟨h, fun h3 => (by rw [hz] at h3; cases h3), fun cs' ps' h3 => by
      rw [hz] at h3
      cases h3
      exact ⟨PA, pn, pc, rfl, h2, by rw [hprow.len]; exact ht⟩⟩
    have HPok := Lib.hid (shZ_ok HB.out hz)
    have hA := (Below.refl w2.heap.size w2).alloc (Nat.le_refl _) (.cells #[.slice CA cn cc, .slice TA t tc] 128)
    have hk := heap_alloc_new w2 (.cells #[.slice CA cn cc, .slice TA t tc] 128)
    have hbw := hb2.trans (hA.mono hb2.size)
    have hprow2 := hprow.below hA
    have hty2 : ∀ g, blockOf TA = some g → ∃ t', Typed (w2.alloc (.cells #[.slice CA cn cc, .slice TA t tc] 128)) g t' ∧ (t' = 46 ∨ t' = 5) := fun g hg => by
      obtain ⟨t', a, b⟩ := hty g hg
      exact ⟨t', a.keep (hA.block g a.lt), b⟩
    have hpl : ps.length = t := hprow.len
    clear HRd hno hyes hz hacc hprow hty hA hb2
    go_upto_region 4 with fail
    generalize w2.alloc _ = V at *
    generalize w2.heap.size = gS at *
    obtain ⟨s0, s1⟩ := cells2 hk
    go_wp2_with (at_make; refine wpList_make_ints rfl (.tmp 18) (.tmp 18) _ rfl 39 .u16 w.heap.size i0 2 Try.underlying40 hi hz0 hz1 hz2 _ _ t t rfl rfl rfl rfl (Nat.le_refl _) (by omega) (by omega) hbw.size ?_; intro w4 hown4 hg4; have hb4 := below_of_grown hg4 (Nat.le_refl _) (fun k e => by cases e); have hk4 := kept_block hk hb4; obtain ⟨r0, r1⟩ := cells2 hk4)
    have hprow4 := hprow2.below hb4
    have hty4 : ∀ g, blockOf TA = some g → ∃ t', Typed w4 g t' ∧ (t' = 46 ∨ t' = 5) := fun g hg => by
      obtain ⟨t', a, b⟩ := hty2 g hg
      exact ⟨t', a.keep (hb4.block g a.lt), b⟩
    have hbw4 := hbw.trans (hb4.mono hbw.size)
    rw [show List.replicate t (0 : Int) = idsK ps 0 by simp [idsK, hpl]] at hown4
    generalize V.heap.size = gp at *
    clear hg4 hb4 hprow2 hty2 hbw hk hk4 s0 s1 r0 r1 hi hz0 hz1 hz2
    go_loopw [23] (fun i' wr => ∃ j : Nat, j ≤ t ∧ i' = .int .i64 j ∧ Own 39 .u16 wr w.heap.size (some ⟨gp, 0, none⟩) t t (idsK ps j) ∧ Below w.heap.size w wr ∧ RowS encPt 8 wr TA t ps ∧ ∀ g, blockOf TA = some g → ∃ t', Typed wr g t' ∧ (t' = 46 ∨ t' = 5)) (fun i' _ => t - (intOf i').toNat)
    case atStart => exact ⟨0, Nat.zero_le _, rfl, hown4, hbw4, hprow4, hty4⟩
    case round =>
      clear hown4 hbw4 hprow4 hty4
      obtain ⟨j, hj, rfl, hown, hbel, hrow, hty⟩ := hrel
      by_cases hlt : j < t
      · obtain ⟨p, hp⟩ : ∃ p, ps[j]? = some p := ⟨_, List.getElem?_eq_getElem (by omega)⟩
        obtain ⟨gt, ot, rfl, hgt, d0, d1, d2, d3, d4, d5, d6, d7⟩ := atPt hrow hp
        have hset := idsK_set hp
        have hpo := HPok.out p (List.mem_of_getElem? hp)
        have hpi := hpo.i
        have hA := (Below.refl wr.heap.size wr).alloc (Nat.le_refl _) (.cells #[.int .u16 p.f, .int .u16 p.i, .int .i16 p.x, .int .i16 p.y, .int .i16 p.xx, .int .i16 p.xy, .int .i16 p.yx, .int .i16 p.yy] 46)
        have hown2 := hown.below hA
        have hrow2 := hrow.below hA
        have hbel2 := hbel.trans (hA.mono hbel.size)
        have hty2 : ∀ g, blockOf (some ⟨gt, ot, none⟩) = some g → ∃ t', Typed (wr.alloc (.cells #[.int .u16 p.f, .int .u16 p.i, .int .i16 p.x, .int .i16 p.y, .int .i16 p.xx, .int .i16 p.xy, .int .i16 p.yx, .int .i16 p.yy] 46)) g t' ∧ (t' = 46 ∨ t' = 5) := fun g hg => by
          obtain ⟨t', a, b⟩ := hty g hg
          exact ⟨t', a.keep (hA.block g a.lt), b⟩
        have hgp := (hown.from_ gp rfl)
        have hgs : (wr.alloc (.cells #[.int .u16 p.f, .int .u16 p.i, .int .i16 p.x, .int .i16 p.y, .int .i16 p.xx, .int .i16 p.xy, .int .i16 p.yx, .int .i16 p.yy] 46)).heap.size = wr.heap.size + 1 := by simp
        obtain ⟨z, hz⟩ : ∃ z, (idsK ps j)[j]? = some z := ⟨_, List.getElem?_eq_getElem (by rw [idsK_len ps j (by omega)]; omega)⟩
        obtain ⟨g', o', e', _, r0⟩ := hown2.row.at (cellsOf_get (k := .u16) hz)
        simp only [Option.some.injEq, Addr.mk.injEq, and_true] at e'
        obtain ⟨rfl, rfl⟩ := e'
        rw [Nat.zero_add] at r0
        have yf : (wr.alloc (.cells #[.int .u16 p.f, .int .u16 p.i, .int .i16 p.x, .int .i16 p.y, .int .i16 p.xx, .int .i16 p.xy, .int .i16 p.yx, .int .i16 p.yy] 46)).frozen? ⟨gp, j, none⟩ = false := by
          obtain ⟨cur, hcur⟩ := hown2.block
          exact thawed hcur j
        have hsame : ∀ g, blockOf (some ⟨gt, ot, none⟩) = some g → g ≠ gp := fun g hg => by
          obtain ⟨t', a, b⟩ := hty g hg
          exact a.ne (hown.typed gp rfl) (by rcases b with rfl | rfl <;> decide)
        have t1 := hown.set j p.i
        rw [hset] at t1
        have t2 := hbel.setCell (p := ⟨gp, j, none⟩) hgp.1 (.int .u16 p.i)
        have t3 := hrow.keep (w' := wr.setCell ⟨gp, j, none⟩ (.int .u16 p.i)) (by simp [World.setCell]) (fun g hg _ => Below.heap_setCell _ ⟨gp, j, none⟩ _ g (hsame g hg))
        have t4 : ∀ g, blockOf (some ⟨gt, ot, none⟩) = some g → ∃ t', Typed (wr.setCell ⟨gp, j, none⟩ (.int .u16 p.i)) g t' ∧ (t' = 46 ∨ t' = 5) := fun g hg => by
          obtain ⟨t', a, b⟩ := hty g hg
          exact ⟨t', a.keep (Below.heap_setCell _ ⟨gp, j, none⟩ _ g (hsame g hg)), b⟩
        have hA2 := (Below.refl (wr.setCell ⟨gp, j, none⟩ (.int .u16 p.i)).heap.size (wr.setCell ⟨gp, j, none⟩ (.int .u16 p.i))).alloc (Nat.le_refl _) (.cells #[.int .u16 p.f, .int .u16 p.i, .int .i16 p.x, .int .i16 p.y, .int .i16 p.xx, .int .i16 p.xy, .int .i16 p.yx, .int .i16 p.yy] 46)
        have S1 := Lib.hid (t1.below hA2)
        have S2 := Lib.hid (t2.trans (hA2.mono t2.size))
        have S3 := Lib.hid (t3.below hA2)
        have S4 : Hid (∀ g, blockOf (some ⟨gt, ot, none⟩) = some g → ∃ t', Typed ((wr.setCell ⟨gp, j, none⟩ (.int .u16 p.i)).alloc (.cells #[.int .u16 p.f, .int .u16 p.i, .int .i16 p.x, .int .i16 p.y, .int .i16 p.xx, .int .i16 p.xy, .int .i16 p.yx, .int .i16 p.yy] 46)) g t' ∧ (t' = 46 ∨ t' = 5)) := Lib.hid fun g hg => by
          obtain ⟨t', a, b⟩ := t4 g hg
          exact ⟨t', a.keep (hA2.block g a.lt), b⟩
        have hne1 : gp ≠ wr.heap.size := by omega
        have hne2 : wr.heap.size ≠ gp := by omega
        obtain ⟨pf, pi, px, py, xx, xy, yx, yy⟩ := p
        simp only at d0 d1 d2 d3 d4 d5 d6 d7 hpi
        clear hset hpo hp hz hown hrow hbel hty hown2 hrow2 hbel2 hty2 hsame hgs t1 t2 t3 t4 hA2
        go_wp2_with fail
        go_roundw
        case rel => exact ⟨j + 1, by omega, by go_num, S1.out, S2.out, S3.out, S4.out⟩
        case measure => simp [intOf]; omega
      · obtain rfl : j = t := by omega
        have hE : idsK ps j = ps.map (·.i) := by rw [← hpl]; exact idsK_all ps
        rw [hE] at hown
        go_wp2_with fail
        exact bodyPost_ret (v := .tuple #[.slice (some ⟨gp, 0, none⟩) j j, .int .i64 0]) (by simp [results, Try.results29, go_sem]) rfl (HRet.out _ _ _ _ hbel hown)

/-- The glyphs of which one is made, as the document has them. -/
def idsZ (zs : List Int) : List Int := if kindZ zs = 2 then (cgRd zs 2).ps.map (·.i) else []
def RetRPs (w : World) (zs : List Int) (e : Ending) (w' : World) : Prop :=
  Below w.heap.size w w' ∧ ∃ PA pn pc, e = .returned (.tuple #[.slice PA pn pc, .bool (decide (0 ≤ kindZ zs))]) ∧ Own 3 .i64 w' w.heap.size PA pn pc (idsZ zs)
theorem kindZ_ok {zs : List Int} (h : kindZ zs = 2) : cOk zs = true := by
  unfold kindZ at h
  split at h
  · omega
  split at h
  · split at h
    · rename_i h2
      simp only [Bool.and_eq_true] at h2
      exact h2.1
    · omega
  · split at h
    · split at h <;> omega
    · omega
theorem shZ_kind {zs : List Int} (hB : Bytes zs) : (kindZ zs < 0 → shZ zs = none) ∧ (0 ≤ kindZ zs → ∃ cs ps, shZ zs = some (cs, ps) ∧ ps.map (·.i) = idsZ zs) := by
  have hc := cIs_n2v hB
  have key : ∀ (k : Int) (r : Option (List (List Sp) × List Pt)), kindZ zs = k → shZ zs = r → (k = -1 ∧ r = none) ∨ (0 ≤ k ∧ ∃ cs ps, r = some (cs, ps) ∧ (k = 2 → ps = (cgRd zs 2).ps) ∧ (k ≠ 2 → ps = [])) := by
    rintro k r rfl rfl
    unfold kindZ shZ
    by_cases h0 : zs.length = 0
    · rw [if_pos h0, if_pos h0]
      exact .inr ⟨by omega, [], [], rfl, fun h => absurd h (by decide), fun _ => rfl⟩
    rw [if_neg h0, if_neg h0]
    by_cases h1 : 32767 < n2v zs 0
    · have hcT : cIs zs = true := by rw [hc]; exact decide_eq_true h1
      rw [if_pos h1, hcT]
      simp only [if_true]
      cases hk : (cOk zs && fillB (zs.drop (cgEnd zs 2)))
      · exact .inl ⟨rfl, rfl⟩
      · exact .inr ⟨by simp, [], _, rfl, fun _ => rfl, fun h => absurd rfl h⟩
    · have hcF : cIs zs = false := by rw [hc]; exact decide_eq_false h1
      rw [if_neg h1, hcF]
      simp only [Bool.false_eq_true, if_false]
      cases ho : oParse zs with
      | none => exact .inl ⟨rfl, rfl⟩
      | some z =>
        obtain ⟨g, a⟩ := z
        simp only
        cases hf : fillB (zs.drop a)
        · exact .inl ⟨rfl, rfl⟩
        · exact .inr ⟨by simp, _, [], rfl, fun h => absurd h (by simp), fun _ => rfl⟩
  constructor
  · intro hk
    rcases key _ _ rfl rfl with ⟨_, h⟩ | ⟨h, _⟩
    · exact h
    · omega
  · intro hk
    rcases key _ _ rfl rfl with ⟨h, _⟩ | ⟨_, cs, ps, h, h2, h3⟩
    · omega
    · refine ⟨cs, ps, h, ?_⟩
      unfold idsZ
      split
      · rename_i e; rw [h2 e]
      · rename_i e; rw [h3 e]; rfl

set_option maxRecDepth 100000 in
set_option maxHeartbeats 2000000 in
theorem rparts_any (A : Option Addr) (n c : Nat) (zs : List Int) (w : World) (hr : Row w A n (cellsOf .u8 zs)) (hB : Bytes zs) (hn : n ≤ 100000) (hc : n ≤ c) : Calls Try.prog 30 #[.slice A n c] w (RetRPs w zs) := by
  obtain ⟨i0, hi, hz0, hz1, hz2⟩ := info_parts Try.i64infoW
  have HK := Lib.hid (rkind14_any A n c zs w hr hB hn hc)
  have HR := Lib.hid hr
  have HB := Lib.hid hB
  clear hr hB
  go_enter Try.func30, Try.ntmps30
  go_wp2_with fail
  with_reducible refine HK.out.mono ?_
  rintro e w1 ⟨rfl, hb1⟩
  by_cases h2 : kindZ zs = 2
  · have hok := kindZ_ok h2
    have HP := Lib.hid (rparse13_any A n c zs w1 (HR.out.below hb1) HB.out hn hc)
    have HI : Hid (idsZ zs = (cgRd zs 2).ps.map (·.i)) := by show _ = _; unfold idsZ; rw [if_pos h2]
    have HRet : Hid (∀ PA pn pc W, Below w.heap.size w W → Own 3 .i64 W w.heap.size PA pn pc ((cgRd zs 2).ps.map (·.i)) → RetRPs w zs (.returned (.tuple #[.slice PA pn pc, .bool true])) W) := fun PA pn pc W h h3 => ⟨h, PA, pn, pc, by rw [h2]; rfl, by rw [HI.out]; exact h3⟩
    rw [h2]
    clear HK
    go_wp2_with fail
    with_reducible refine HP.out.mono ?_
    rintro e w2 ⟨hb2, hway⟩
    rcases hway with ⟨hno, -⟩ | ⟨-, v, rfl, hvr, hvg, hvo, hvq, -⟩
    · rw [hok] at hno; cases hno
    have hbw2 := hb1.trans (hb2.mono hb1.size)
    obtain ⟨⟨x0, x1, x2, x3, ps, pr⟩, QA, q, qc, PA, pn, pc⟩ := v
    simp only at hvg hvo hvq
    have hps : (cgRd zs 2).ps = ps := by rw [← hvg]
    rw [hps] at HRet
    have HPo := Lib.hid hvo.ps
    have hrows := hvr.ps
    unfold RcV.val RcV.cells
    simp only at hrows HPo ⊢
    clear hvr hvg hvo hps HI HP hb1 hb2 h2
    have hA := (Below.refl w2.heap.size w2).alloc (Nat.le_refl _) (.cells #[.int .i64 x0, .int .i64 x1, .int .i64 x2, .int .i64 x3, .slice QA q qc, .slice PA pn pc] 134)
    have hk := heap_alloc_new w2 (.cells #[.int .i64 x0, .int .i64 x1, .int .i64 x2, .int .i64 x3, .slice QA q qc, .slice PA pn pc] 134)
    have hbw3 := hbw2.trans (hA.mono hbw2.size)
    have hrow3 := hrows.below hA
    have hpl : ps.length = q := hrows.len
    clear hrows hbw2 hA
    go_upto_region 5 with fail
    generalize w2.alloc _ = V at *
    generalize w2.heap.size = gS at *
    obtain ⟨s0, s1, s2, s3, s4, s5⟩ := cells6 hk
    go_wp2_with fail
    clear s0 s1 s2 s3 s4 s5 hk
    go_loopw [5, 24] (fun a i' wr => ∃ (j : Nat) (DA : Option Addr) (dc : Nat), j ≤ q ∧ i' = .int .i64 j ∧ a = .slice DA j dc ∧ Own 3 .i64 wr V.heap.size DA j dc ((ps.map (·.i)).take j) ∧ Below V.heap.size V wr) (fun _ i' _ => q - (intOf i').toNat)
    case atStart => exact ⟨0, none, 0, Nat.zero_le _, rfl, rfl, Own.nil _ _ _ _, Below.refl _ _⟩
    case round =>
      obtain ⟨j, DA, dc, hj, rfl, rfl, hown, hbel⟩ := hrel
      by_cases hlt : j < q
      · obtain ⟨p, hp⟩ : ∃ p, ps[j]? = some p := ⟨_, List.getElem?_eq_getElem (by omega)⟩
        obtain ⟨gt, ot, rfl, hgt, d0, d1, d2, d3, d4, d5, d6, d7⟩ := atRt (hrow3.below hbel) hp
        have hmt : (ps.map (·.i)).take j ++ [p.i] = (ps.map (·.i)).take (j + 1) := by rw [List.take_add_one]; simp [hp]
        have hA1 := (Below.refl wr.heap.size wr).alloc (Nat.le_refl _) (.cells #[.int .i64 p.f, .int .i64 p.i, .int .i64 p.x, .int .i64 p.y, .int .i64 p.xx, .int .i64 p.xy, .int .i64 p.yx, .int .i64 p.yy] 138)
        have hA2 := hA1.alloc hA1.size (.cells #[.int .i64 p.i] 3)
        have hown2 := hown.below hA2
        have hbel2 := hbel.trans (hA2.mono hbel.size)
        have hrow : Row ((wr.alloc (.cells #[.int .i64 p.f, .int .i64 p.i, .int .i64 p.x, .int .i64 p.y, .int .i64 p.xx, .int .i64 p.xy, .int .i64 p.yx, .int .i64 p.yy] 138)).alloc (.cells #[.int .i64 p.i] 3)) (some ⟨wr.heap.size + 1, 0, none⟩) 1 (cellsOf .i64 [p.i]) := by
          have h := (own_lit (wr.alloc (.cells #[.int .i64 p.f, .int .i64 p.i, .int .i64 p.x, .int .i64 p.y, .int .i64 p.xx, .int .i64 p.xy, .int .i64 p.yx, .int .i64 p.yy] 138)) 0 3 .i64 [p.i] 1 rfl (Nat.zero_le _) (by simp only [maxLen]; omega)).row
          have e : (wr.alloc (.cells #[.int .i64 p.f, .int .i64 p.i, .int .i64 p.x, .int .i64 p.y, .int .i64 p.xx, .int .i64 p.xy, .int .i64 p.yx, .int .i64 p.yy] 138)).heap.size = wr.heap.size + 1 := by simp
          rw [e] at h
          exact h
        have hsz := hbel.size
        obtain ⟨pf, pi, px, py, xx, xy, yx, yy⟩ := p
        simp only at d0 d1 d2 d3 d4 d5 d6 d7 hmt hown2 hbel2 hrow
        have HOw := Lib.hid hown2
        clear hp hA1 hA2 hown
        go_wp2_with (at_builtin; refine wpList_append_at rfl (.tmp 28) (.tmp 31) _ rfl 3 .i64 V.heap.size i0 8 Try.underlying71 hi hz0 hz1 hz2 DA j dc _ rfl HOw.out (some ⟨wr.heap.size + 1, 0, none⟩) 1 1 [pi] rfl hrow (by omega) (by omega) (by omega) (by simp; omega) ?_)
        intro A2 c2 w5 hown5 hg5 _
        have hbel5 := hbel2.grown hg5 hbel2.size (fun k e => (HOw.out.from_ k e).1)
        clear HOw hown2 hbel2 hrow hg5 hmt
        go_wp2_with fail
        go_roundw
        case rel => exact ⟨j + 1, A2, c2, by omega, by go_num, rfl, hown5, hbel5⟩
        case measure => simp [intOf]; omega
      · obtain rfl : j = q := by omega
        rw [List.take_of_length_le (by rw [List.length_map]; omega)] at hown
        have hbf := hbw3.trans (hbel.mono hbw3.size)
        have hownF := hown.mono hbw3.size
        go_wp2_with fail
        exact bodyPost_ret (v := .tuple #[.slice DA j dc, .bool true]) (by simp [results, Try.results30, go_sem]) rfl (HRet.out _ _ _ _ hbf hownF)
  · have hI : idsZ zs = [] := by unfold idsZ; rw [if_neg h2]
    have HRet : Hid (RetRPs w zs (.returned (.tuple #[.slice none 0 0, .bool (decide (0 ≤ kindZ zs))])) w1) := ⟨hb1, none, 0, 0, rfl, by rw [hI]; exact Own.nil _ _ _ _⟩
    clear HK hI HR HB
    generalize kindZ zs = kz at *
    go_wp2_with fail
    exact bodyPost_ret (v := .tuple #[.slice none 0 0, .bool (decide (0 ≤ kz))]) (by simp [results, Try.results30, go_sem]) rfl HRet.out

end Go.Proofs.Ytdaeffnaoeblpaa

/- Places of glyphs, as plain lists: what a table tells, and what sizes make. -/
namespace Go.Proofs.Ytdaeffnaoeblpaa
set_option linter.unusedVariables false

/-- How many bytes a place has. -/
def eachB (long : Bool) : Nat := if long then 4 else 2
/-- The place i of a table. -/
def plc (long : Bool) (zs : List Int) (i : Nat) : Int := if long then n4at zs (4 * i) else 2 * n2at zs (2 * i)
def pls (long : Bool) (zs : List Int) (m : Nat) : List Int := (List.range m).map (plc long zs)
/-- The place ahead. -/
def prv (long : Bool) (zs : List Int) : Nat → Int
  | 0 => 0
  | k + 1 => plc long zs k
/-- Do the first m places rise, up to size? -/
def okPls (long : Bool) (zs : List Int) (size : Int) : Nat → Bool
  | 0 => true
  | m + 1 => okPls long zs size m && decide (prv long zs m ≤ plc long zs m ∧ plc long zs m ≤ size)
def placesB (long : Bool) (zs : List Int) (g : Nat) (size : Int) : Bool := decide (zs.length = (g + 1) * eachB long) && okPls long zs size (g + 1)

section
variable {long : Bool} {zs : List Int} {size : Int}
theorem plc_bd (hB : Bytes zs) (i : Nat) : 0 ≤ plc long zs i ∧ plc long zs i < 4294967296 := by
  have h1 := n4at_lt hB (4 * i)
  have h2 := n2at_lt hB (2 * i)
  unfold plc
  split <;> omega
theorem prv_bd (hB : Bytes zs) (i : Nat) : 0 ≤ prv long zs i ∧ prv long zs i < 4294967296 := by
  cases i with
  | zero => simp [prv]
  | succ i => exact plc_bd hB i
theorem okPls_mono (k m : Nat) (h : okPls long zs size k = false) (hk : k ≤ m) : okPls long zs size m = false := by
  induction m with
  | zero =>
    obtain rfl : k = 0 := by omega
    exact h
  | succ m ih =>
    rcases Nat.lt_or_ge m k with h1 | h1
    · obtain rfl : k = m + 1 := by omega
      exact h
    · rw [okPls, ih h1]
      rfl
theorem pls_len (m : Nat) : (pls long zs m).length = m := by simp [pls]
theorem pls_get (m i : Nat) (h : i < m) : (pls long zs m)[i]? = some (plc long zs i) := by simp [pls, h]
theorem pls_succ (m : Nat) : pls long zs (m + 1) = pls long zs m ++ [plc long zs m] := by simp [pls, List.range_succ]
/-- How the list looks behind k rounds. -/
theorem pls_set (n k : Nat) (h : k < n) : (pls long zs k ++ List.replicate (n - k) 0).set k (plc long zs k) = pls long zs (k + 1) ++ List.replicate (n - (k + 1)) 0 := by
  rw [pls_succ, show n - k = (n - (k + 1)) + 1 by omega, List.replicate_succ, List.set_append_right _ _ (by rw [pls_len]; omega), pls_len, Nat.sub_self, List.set_cons_zero, List.append_assoc]
  rfl
end

/-- The sum of numbers; the places that sizes make, from one on; do they all fit? -/
def sumI (l : List Int) : Int := l.foldl (· + ·) 0
def scan (a : Int) : List Int → List Int
  | [] => [a]
  | x :: l => a :: scan (a + x) l
def okS (a : Int) : List Int → Bool
  | [] => true
  | x :: l => decide (0 ≤ x ∧ x ≤ 67108864 - a) && okS (a + x) l

theorem foldl_add (l : List Int) : ∀ a : Int, l.foldl (· + ·) a = a + sumI l := by
  induction l with
  | nil => intro a; simp [sumI]
  | cons x l ih =>
    intro a
    have h1 := ih (a + x)
    have h2 := ih (0 + x)
    unfold sumI at *
    simp only [List.foldl_cons] at *
    rw [h1, h2]
    omega
theorem sumI_cons (x : Int) (l : List Int) : sumI (x :: l) = x + sumI l := by
  have := foldl_add l (0 + x)
  rw [show sumI (x :: l) = l.foldl (· + ·) (0 + x) from rfl, this]
  omega
theorem sumI_snoc (l : List Int) (x : Int) : sumI (l ++ [x]) = sumI l + x := by simp [sumI]
theorem sumI_nil : sumI [] = 0 := rfl

theorem scan_snoc (l : List Int) (x : Int) : ∀ a, scan a (l ++ [x]) = scan a l ++ [a + sumI l + x] := by
  induction l with
  | nil => intro a; simp [scan, sumI_nil]
  | cons y l ih =>
    intro a
    simp only [List.cons_append, scan, ih, sumI_cons]
    rw [show a + y + sumI l + x = a + (y + sumI l) + x by omega]
theorem scan_len (l : List Int) : ∀ a, (scan a l).length = l.length + 1 := by
  induction l with
  | nil => intro a; rfl
  | cons y l ih => intro a; simp [scan, ih]
theorem scan_get (l : List Int) : ∀ (a : Int) (i : Nat), i ≤ l.length → (scan a l)[i]? = some (a + sumI (l.take i)) := by
  induction l with
  | nil =>
    intro a i h
    simp at h
    subst h
    simp [scan, sumI]
  | cons y l ih =>
    intro a i h
    cases i with
    | zero => simp [scan, sumI]
    | succ i =>
      simp only [scan, List.getElem?_cons_succ, List.take_succ_cons]
      rw [ih (a + y) i (by simpa using h), sumI_cons]
      congr 1
      omega
theorem okS_snoc (l : List Int) (x : Int) : ∀ a, okS a (l ++ [x]) = (okS a l && decide (0 ≤ x ∧ x ≤ 67108864 - (a + sumI l))) := by
  induction l with
  | nil => intro a; simp [okS, sumI_nil]
  | cons y l ih =>
    intro a
    simp only [List.cons_append, okS, ih, sumI_cons]
    rw [show a + y + sumI l = a + (y + sumI l) by omega, Bool.and_assoc]
theorem okS_take (l : List Int) (a : Int) (k : Nat) (h : okS a (l.take k) = false) : okS a l = false := by
  induction l generalizing a k with
  | nil => simpa using h
  | cons y l ih =>
    cases k with
    | zero => simp [okS] at h
    | succ k =>
      simp only [List.take_succ_cons, okS, Bool.and_eq_false_iff] at h ⊢
      rcases h with h | h
      · exact .inl h
      · exact .inr (ih _ _ h)
theorem okS_sum (l : List Int) : ∀ a, okS a l = true → 0 ≤ a → a ≤ 67108864 → 0 ≤ sumI l ∧ a + sumI l ≤ 67108864 ∧ ∀ x ∈ l, 0 ≤ x := by
  induction l with
  | nil => intro a _ h0 h1; simp [sumI_nil]; omega
  | cons y l ih =>
    intro a h h0 h1
    simp only [okS, Bool.and_eq_true, decide_eq_true_eq] at h
    have := ih (a + y) h.2 (by omega) (by omega)
    rw [sumI_cons]
    refine ⟨by omega, by omega, fun x hx => ?_⟩
    rcases List.mem_cons.1 hx with rfl | hx
    · omega
    · exact this.2.2 x hx
theorem okS_take_true (l : List Int) (a : Int) (k : Nat) (h : okS a l = true) : okS a (l.take k) = true := by
  cases hh : okS a (l.take k) with
  | true => rfl
  | false => rw [okS_take l a k hh] at h; cases h
theorem sumI_take (l : List Int) (k : Nat) (h : okS 0 l = true) : 0 ≤ sumI (l.take k) ∧ sumI (l.take k) ≤ 67108864 := by
  have := okS_sum (l.take k) 0 (okS_take_true l 0 k h) (by omega) (by omega)
  omega
theorem scan_mem (l : List Int) (h : okS 0 l = true) : ∀ x ∈ scan 0 l, 0 ≤ x ∧ x ≤ 67108864 := by
  intro x hx
  obtain ⟨i, hi⟩ := List.mem_iff_getElem?.1 hx
  have hl : i < (scan 0 l).length := (List.getElem?_eq_some_iff.1 hi).1
  rw [scan_len] at hl
  rw [scan_get l 0 i (by omega)] at hi
  have := sumI_take l i h
  simp at hi
  omega
theorem take_snocI (l : List Int) (k : Nat) (x : Int) (h : l[k]? = some x) : l.take (k + 1) = l.take k ++ [x] := by rw [List.take_add_one, h]; rfl

/-- Do two bytes hold the half of each place? The bytes of all places. -/
def fitB (l : List Int) : Bool := l.all fun x => decide (x % 2 = 0 ∧ x ≤ 131070)
def plB (long : Bool) (x : Int) : List Int := if long then b4 x else b2 (x / 2)
def plsB (long : Bool) (l : List Int) : List Int := l.flatMap (plB long)

theorem fitB_take (l : List Int) (k : Nat) (h : fitB (l.take k) = false) : fitB l = false := by
  cases hh : fitB l with
  | false => rfl
  | true =>
    unfold fitB at *
    rw [List.all_eq_true] at hh
    have : (l.take k).all (fun x => decide (x % 2 = 0 ∧ x ≤ 131070)) = true := List.all_eq_true.2 fun x hx => hh x (List.mem_of_mem_take hx)
    rw [this] at h
    cases h
theorem fitB_snoc (l : List Int) (x : Int) : fitB (l ++ [x]) = (fitB l && decide (x % 2 = 0 ∧ x ≤ 131070)) := by simp [fitB]
theorem plB_len (long : Bool) (x : Int) : (plB long x).length = eachB long := by cases long <;> rfl
theorem plsB_snoc (long : Bool) (l : List Int) (x : Int) : plsB long (l ++ [x]) = plsB long l ++ plB long x := by simp [plsB]
theorem plsB_len (long : Bool) (l : List Int) : (plsB long l).length = l.length * eachB long := by
  unfold plsB
  induction l with
  | nil => simp
  | cons x l ih => rw [List.flatMap_cons, List.length_append, ih, plB_len, List.length_cons, Nat.succ_mul]; omega
theorem plsB_bytes (long : Bool) (l : List Int) : Bytes (plsB long l) := by
  intro y hy
  unfold plsB at hy
  obtain ⟨x, _, hx⟩ := List.mem_flatMap.1 hy
  cases long
  · exact b2_bytes _ y hx
  · exact b4_bytes _ y hx
theorem each_le (long : Bool) : eachB long ≤ 4 ∧ 2 ≤ eachB long := by cases long <;> simp [eachB]

end Go.Proofs.Ytdaeffnaoeblpaa

/- What package loca's Build answers, as a contract over this seat's translation. -/
namespace Go.Proofs.Ytdaeffnaoeblpaa
open Go.RowKit
set_option linter.unusedVariables false

end Go.Proofs.Ytdaeffnaoeblpaa

/- What package loca's Build answers, as a contract over this seat's translation. -/
namespace Go.Proofs.Ytdaeffnaoeblpaa
open Go.RowKit
set_option linter.unusedVariables false

/-- Is the table of these sizes long? Its bytes. -/
def longOf (l : List Int) : Bool := !fitB (scan 0 l)
def bytesOf (l : List Int) : List Int := plsB (longOf l) (scan 0 l)

theorem fit_at {l : List Int} (h : fitB l = true) {k : Nat} {x : Int} (hx : l[k]? = some x) : x % 2 = 0 ∧ x ≤ 131070 := by
  have := List.all_eq_true.1 h x (List.mem_of_getElem? hx)
  simpa using this

/-- What building leaves. -/
def RetBd (w : World) (l : List Int) (e : Ending) (w' : World) : Prop :=
  Below w.heap.size w w' ∧ ((okS 0 l = false ∧ e = .returned (.tuple #[.slice none 0 0, .bool false])) ∨ (okS 0 l = true ∧ ∃ A n c, e = .returned (.tuple #[.slice A n c, .bool (longOf l)]) ∧ OwnB w' w.heap.size A n c (bytesOf l)))

theorem cur_at {cur : Array Value} {n : Nat} {l : List Int} (h : cur.toList.take n = cellsOf .i64 l) {k : Nat} {x : Int} (hx : l[k]? = some x) : cur[k]? = some (.int .i64 x) := by
  have := cellsOf_get (k := .i64) hx
  rw [← h, List.getElem?_take] at this
  split at this
  · simpa using this
  · cases this

end Go.Proofs.Ytdaeffnaoeblpaa

/- What the document's Build of layer 8 answers, as a contract over this seat's translation. -/
namespace Go.Proofs.Ytdaeffnaoeblpaa
open Go.RowKit
set_option linter.unusedVariables false

/-- Two slices of bytes written out, to be joined. -/
theorem join2_any (V : World) (b : Nat) (A A' : Option Addr) (n c n' c' : Nat) (xs ys : List Int) (hb : b = V.heap.size) (hx : Row V A n (cellsOf .u8 xs)) (hy : Row V A' n' (cellsOf .u8 ys)) (hl : xs.length + ys.length ≤ 140737488351232) :
    Calls Try.prog 27 #[.slice (some ⟨b, 0, none⟩) 2 2] (V.alloc (.cells #[.slice A n c, .slice A' n' c'] 42)) (RetB V (xs ++ ys)) := by
  have := joinN_any V b [⟨A, n, c, xs⟩, ⟨A', n', c', ys⟩] 2 #[.slice A n c, .slice A' n' c'] rfl hb rfl (fun p hp => by
    simp at hp
    rcases hp with rfl | rfl
    · exact hx
    · exact hy) (by omega) (by simpa [joined] using hl)
  simpa [joined] using this

theorem fit_snoc (l : List Int) (x : Int) : fitB (scan 0 (l ++ [x])) = (fitB (scan 0 l) && decide ((sumI l + x) % 2 = 0 ∧ sumI l + x ≤ 131070)) := by rw [scan_snoc, fitB_snoc, Int.zero_add]


end Go.Proofs.Ytdaeffnaoeblpaa

/- A byte that is turned. -/
namespace Go.Proofs.Ytdaeffnaoeblpaa
open Go.RowKit
set_option linter.unusedVariables false

theorem xor_byte2 (x y : Int) : 0 ≤ bits .xor .u8 x y ∧ bits .xor .u8 x y ≤ 255 := by
  have h := wf_bits .xor .u8 x y
  exact bounds_u8 h

theorem set_bytes {zs : List Int} (h : Bytes zs) (j : Nat) {v : Int} (hv : 0 ≤ v ∧ v ≤ 255) : Bytes (zs.set j v) := fun x hx => by
  rcases List.mem_or_eq_of_mem_set hx with h' | rfl
  · exact h x h'
  · exact hv

theorem take_bytes {zs : List Int} (h : Bytes zs) (j : Nat) : Bytes (zs.take j) := fun x hx => h x (List.mem_of_mem_take hx)

end Go.Proofs.Ytdaeffnaoeblpaa

/- Outlines' boxes and points that come in. -/
namespace Go.Proofs.Ytdaeffnaoeblpaa
open Go.RowKit Go.Joins Go.ChangeShapes Go.WideShapes
set_option linter.unusedVariables false

theorem Try.cellsSp : Try.prog.cellsOf 54 = 3 := by kernel_rfl
theorem Try.cellsI16 : Try.prog.cellsOf 36 = 1 := by kernel_rfl
theorem Try.cellsBool : Try.prog.cellsOf 4 = 1 := by kernel_rfl
theorem Try.cellsArr4 : Try.prog.cellsOf 41 = 4 := by kernel_rfl

def Sp.ok (p : Sp) : Prop := (-32768 ≤ p.1 ∧ p.1 ≤ 32767) ∧ (-32768 ≤ p.2.1 ∧ p.2.1 ≤ 32767)

section
variable {H : Type} {enc : TypeId × Value → H} {W : World} {base : Nat} {v : Value} {d : DataW H} {p : List MemPlace}

theorem read_i16 {m : Nat} {c : Value} {y : DataW H × List MemPlace} (h : DataW.trod enc Try.prog W 0 (fun _ => true) true m 36 [c] = some y) : ∃ a, c = .int .i16 a ∧ -32768 ≤ a ∧ a ≤ 32767 := by
  obtain ⟨a, e, _, wa⟩ := DataW.trod_int Try.underlying36 h
  simp at e
  subst e
  have := bounds_i16 wa
  exact ⟨a, rfl, by omega⟩

set_option maxRecDepth 100000 in
theorem read_sp {m : Nat} {cs : List Value} {y : DataW H × List MemPlace} (h : DataW.trod enc Try.prog W 0 (fun _ => true) true m 54 cs = some y) : ∃ p : Sp, cs = encSp p ∧ Sp.ok p := by
  obtain ⟨xs, n, _, _, hl, hxl, hf⟩ := DataW.trod_struct Try.underlying54 h
  rw [Try.cellsSp] at hl
  match cs, hl with
  | [c0, c1, c2], _ =>
    match xs, hxl with
    | [y0, y1, y2], _ =>
      have h0 := hf 0 _ rfl
      have h1 := hf 1 _ rfl
      have h2 := hf 2 _ rfl
      simp [Try.cellsI16, Try.cellsBool] at h0 h1 h2
      obtain ⟨a, rfl, a0, a1⟩ := read_i16 h0
      obtain ⟨b, rfl, b0, b1⟩ := read_i16 h1
      obtain ⟨o, e2, _⟩ := DataW.trod_bool Try.underlying4 h2
      simp at e2
      subst e2
      exact ⟨(a, b, o), rfl, ⟨a0, a1⟩, ⟨b0, b1⟩⟩

set_option maxRecDepth 100000 in
theorem open_sps (hv : Value.okWide Try.prog W .any base 35 v) (h : DataW.Trod enc Try.prog W 0 (fun _ => true) true 35 v d p) :
    ∃ A len cap l, v = .slice A len cap ∧ RowS encSp 3 W A len l ∧ (∀ q ∈ l, Sp.ok q) ∧ len ≤ 9223372036854775807 ∧ len ≤ cap := by
  obtain ⟨a, len, cap, rfl⟩ := okWide_slice Try.underlying35 hv
  refine ⟨a, len, cap, ?_⟩
  rcases open_sliceK Try.underlying35 Try.cellsSp h with ⟨rfl, rfl, rfl⟩ | ⟨x, rfl, hl, hm, hi⟩
  · exact ⟨[], rfl, RowS.empty _ _, (fun q hq => by cases hq), by omega, by omega⟩
  · obtain ⟨l, hll, hp⟩ := list_of (p := fun i (q : Sp) => Sp.ok q ∧ ∀ j u, (encSp q)[j]? = some u → W.cell? (x.add (i * 3 + j)) = some u) len (fun i hlt => by
      obtain ⟨cs, m, y, hcl, hc, ht⟩ := hi i hlt
      obtain ⟨q, rfl, hq⟩ := read_sp ht
      refine ⟨q, hq, fun j u hu => ?_⟩
      have hj : j < 3 := (List.getElem?_eq_some_iff.1 hu).1
      rw [hc j hj]
      exact hu)
    simp only [maxLen] at hm
    refine ⟨l, rfl, rowS_in encSp_len l hll (fun i y hy => (hp i y hy).2), fun q hq => ?_, by omega, hl⟩
    obtain ⟨i, hi2⟩ := List.mem_iff_getElem?.1 hq
    exact (hp i q hi2).1

set_option maxRecDepth 100000 in
theorem open_box (hv : Value.okWide Try.prog W .any base 41 v) (h : DataW.Trod enc Try.prog W 0 (fun _ => true) true 41 v d p) :
    ∃ x0 x1 x2 x3, v = .agg #[.int .i16 x0, .int .i16 x1, .int .i16 x2, .int .i16 x3] ∧ ∀ x ∈ [x0, x1, x2, x3], -32768 ≤ x ∧ x ≤ 32767 := by
  obtain ⟨fuel, hf⟩ := h
  obtain ⟨ys, m, _, _, hcl, hyl, ha⟩ := DataW.trod_array Try.underlying41 hf
  rw [Try.cellsArr4] at hcl
  have hvv : ∃ cs, v = .agg cs := by
    cases v with
    | agg cs => exact ⟨cs, rfl⟩
    | _ => simp [Value.cells] at hcl
  obtain ⟨⟨l⟩, rfl⟩ := hvv
  simp only [Value.cells] at hcl ha
  match l, hcl with
  | [c0, c1, c2, c3], _ =>
    have key : ∀ i, i < 4 → ∀ c, ([c0, c1, c2, c3] : List Value)[i]? = some c → ∃ a, c = .int .i16 a ∧ -32768 ≤ a ∧ a ≤ 32767 := by
      intro i hi c hc
      have h2 := ha i hi
      rw [Try.cellsI16, Nat.mul_one, List.getElem?_eq_getElem (by omega)] at h2
      obtain ⟨hlt, hce⟩ := List.getElem?_eq_some_iff.1 hc
      rw [List.drop_eq_getElem_cons hlt, List.take_succ_cons, List.take_zero, hce] at h2
      exact read_i16 h2
    obtain ⟨a0, rfl, b0⟩ := key 0 (by omega) c0 rfl
    obtain ⟨a1, rfl, b1⟩ := key 1 (by omega) c1 rfl
    obtain ⟨a2, rfl, b2⟩ := key 2 (by omega) c2 rfl
    obtain ⟨a3, rfl, b3⟩ := key 3 (by omega) c3 rfl
    exact ⟨a0, a1, a2, a3, rfl, fun x hx => by simp at hx; rcases hx with rfl | rfl | rfl | rfl <;> assumption⟩
end

end Go.Proofs.Ytdaeffnaoeblpaa

/- Points and matrices that come in. -/
namespace Go.Proofs.Ytdaeffnaoeblpaa
open Go.RowKit Go.Joins Go.ChangeShapes Go.WideShapes
set_option linter.unusedVariables false

theorem Try.cellsPt : Try.prog.cellsOf 59 = 3 := by kernel_rfl
theorem Try.cells1i : Try.prog.cellsOf 3 = 1 := by kernel_rfl
theorem Try.cells1b : Try.prog.cellsOf 4 = 1 := by kernel_rfl
theorem Try.cellsMx : Try.prog.cellsOf 38 = 4 := by kernel_rfl

section
variable {H : Type} {enc : TypeId × Value → H} {W : World} {base : Nat} {v : Value} {d : DataW H} {p : List MemPlace}

set_option maxRecDepth 100000 in
theorem open_pt (hv : Value.okWide Try.prog W .any base 59 v) (h : DataW.Trod enc Try.prog W 0 (fun _ => true) true 59 v d p) :
    ∃ x y on, v = ptV x y on ∧ (Lit.int .i64 x).wf = true ∧ (Lit.int .i64 y).wf = true := by
  obtain ⟨c0, c1, c2, y0, y1, y2, m, rfl, rfl, rfl, h0, h1, h2⟩ := open_agg3 Try.underlying59 (by kernel_rfl) Try.cellsPt hv h
  obtain ⟨a, e0, rfl, wa⟩ := DataW.trod_int Try.underlying3 h0
  obtain ⟨b, e1, rfl, wb⟩ := DataW.trod_int Try.underlying3 h1
  obtain ⟨o, e2, rfl⟩ := DataW.trod_bool Try.underlying4 h2
  simp at e0 e1 e2
  subst e0 e1 e2
  exact ⟨a, b, o, rfl, wa, wb⟩

set_option maxRecDepth 100000 in
theorem open_mx (hv : Value.okWide Try.prog W .any base 38 v) (h : DataW.Trod enc Try.prog W 0 (fun _ => true) true 38 v d p) :
    ∃ a b c e, v = mxV a b c e ∧ (-32768 ≤ a ∧ a ≤ 32767) ∧ (-32768 ≤ b ∧ b ≤ 32767) ∧ (-32768 ≤ c ∧ c ≤ 32767) ∧ (-32768 ≤ e ∧ e ≤ 32767) := by
  obtain ⟨c0, c1, c2, c3, y0, y1, y2, y3, m, rfl, rfl, rfl, h0, h1, h2, h3⟩ := open_agg4 Try.underlying38 (by kernel_rfl) Try.cellsMx hv h
  obtain ⟨a, e0, rfl, wa⟩ := DataW.trod_int Try.underlying36 h0
  obtain ⟨b, e1, rfl, wb⟩ := DataW.trod_int Try.underlying36 h1
  obtain ⟨c, e2, rfl, wc⟩ := DataW.trod_int Try.underlying36 h2
  obtain ⟨e, e3, rfl, we⟩ := DataW.trod_int Try.underlying36 h3
  simp at e0 e1 e2 e3
  subst e0 e1 e2 e3
  exact ⟨a, b, c, e, rfl, bounds_i16 wa, bounds_i16 wb, bounds_i16 wc, bounds_i16 we⟩
end

end Go.Proofs.Ytdaeffnaoeblpaa
