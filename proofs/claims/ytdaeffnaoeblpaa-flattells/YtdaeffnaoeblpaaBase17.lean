/- What the laws of this seat lean on: FlT FlW BssOpen FlX. -/
import Derived.StillTailTactics
import Derived.Deep.CutRange
import Derived.Deep.DeepCutAuto
import Derived.Deep.QuietTactic
import Derived.ProofKit
import Derived.ChangeSame
import Derived.Deep.Matrix
import Derived.Test.YtdaeffnaoeblpaaBase1
import Derived.Test.YtdaeffnaoeblpaaBase3
import Derived.Test.YtdaeffnaoeblpaaBase14
import Derived.Test.YtdaeffnaoeblpaaBase15
import Derived.Test.YtdaeffnaoeblpaaBase16

/- flat: the document's walk, as a contract over this seat's translation. -/
namespace Go.Proofs.Ytdaeffnaoeblpaa
open Go.RowKit
set_option linter.unusedVariables false
set_option linter.unusedSimpArgs false

/-- What a glyph's bytes are, kind by kind. -/
theorem kind_cases {zs : List Int} (hB : Bytes zs) : (kindZ zs = -1 ∧ shZ zs = none) ∨ (kindZ zs = 0 ∧ shZ zs = some ([], [])) ∨ (kindZ zs = 1 ∧ ∃ g a, oParse zs = some (g, a) ∧ shZ zs = some (ctsG g, [])) ∨ (kindZ zs = 2 ∧ cOk zs = true ∧ shZ zs = some ([], (cgRd zs 2).ps)) := by
  have hc := cIs_n2v hB
  unfold kindZ shZ
  by_cases h0 : zs.length = 0
  · rw [if_pos h0, if_pos h0]
    exact .inr (.inl ⟨rfl, rfl⟩)
  rw [if_neg h0, if_neg h0]
  by_cases h1 : 32767 < n2v zs 0
  · have hcT : cIs zs = true := by rw [hc]; exact decide_eq_true h1
    rw [if_pos h1, hcT]
    simp only [if_true]
    cases hk : (cOk zs && fillB (zs.drop (cgEnd zs 2)))
    · exact .inl ⟨rfl, rfl⟩
    · simp only [Bool.and_eq_true] at hk
      exact .inr (.inr (.inr ⟨rfl, hk.1, rfl⟩))
  · have hcF : cIs zs = false := by rw [hc]; exact decide_eq_false h1
    rw [if_neg h1, hcF]
    simp only [Bool.false_eq_true, if_false]
    cases ho : oParse zs with
    | none => exact .inl ⟨rfl, rfl⟩
    | some z =>
      obtain ⟨g, a⟩ := z
      simp only
      cases hf : fillB (zs.drop a)
      · exact .inl ⟨rfl, rfl⟩
      · exact .inr (.inr (.inl ⟨rfl, g, a, rfl, rfl⟩))

/-- What the document's walk leaves. -/
def RetA (r : VR) (gw : Nat) (GA : Option Addr) (gn gc : Nat) (w : World) (e : Ending) (w' : World) : Prop :=
  ∃ CA n c, e = .returned (.tuple #[.slice CA n c, .int .i64 r.1]) ∧ KW gw none w w' ∧ (r.1 = 0 → w'.heap[gw]? = some (.cells #[.slice GA gn gc, .int .i64 (r.2.2.1 : Nat), .int .i64 (r.2.2.2 : Nat)] 104 (0, 0))) ∧ AccT 56 106 w' w.heap.size CA n c r.2.1
theorem cells3W {w : World} {b : Nat} {t : TypeId} {x0 x1 x2 : Value} (h : w.heap[b]? = some (.cells #[x0, x1, x2] t (0, 0))) : w.cell? ⟨b, 0, none⟩ = some x0 ∧ w.cell? ⟨b, 1, none⟩ = some x1 ∧ w.cell? ⟨b, 2, none⟩ = some x2 :=
  ⟨cell_of_row _ _ 0 _ _ _ h, cell_of_row _ _ 1 _ _ _ h, cell_of_row _ _ 2 _ _ _ h⟩
/-- A row of parts doesn't lie in the walk's own block. -/
theorem rowRt_ne {w : World} {A : Option Addr} {n : Nat} {l : List Pt} {gw : Nat} {x0 x1 x2 : Value} {t : TypeId} (h : RowS encRt 8 w A n l) (hn : 0 < n) (hb : w.heap[gw]? = some (.cells #[x0, x1, x2] t (0, 0))) : ∀ g, blockOf A = some g → g ≠ gw := by
  intro g hg e
  obtain ⟨p, hp⟩ : ∃ p, l[0]? = some p := ⟨_, List.getElem?_eq_getElem (by rw [h.len]; exact hn)⟩
  obtain ⟨g', off, rfl, _, hc⟩ := h.at encRt_len (by omega) hp
  simp [blockOf] at hg
  subst hg e
  have h7 := hc 7 _ rfl
  unfold World.cell? at h7
  simp only [hb] at h7
  rw [show off + 0 * 8 + 7 = off + 7 by omega] at h7
  simp at h7

theorem own_emptyW (t : TypeId) (k : IntKind) (w : World) (B : Nat) (h : B ≤ w.heap.size) : Own t k (w.alloc (.cells #[] t)) B (some ⟨w.heap.size, 0, none⟩) 0 0 [] :=
  ⟨rfl, .inr ⟨w.heap.size, 0, #[], rfl, h, heap_alloc_new w _, by omega, by simp [maxLen], by simp, by simp [cellsOf]⟩⟩
theorem KW.appW {gw : Nat} {w w1 w2 : World} {A : Option Addr} (h : KW gw none w w1) (hg : w1.grownBy w2 (blockOf A)) (hgw : gw < w.heap.size) (hn : ∀ g, blockOf A = some g → w.heap.size ≤ g) : KW gw none w w2 := by
  have hs := h.size
  refine ⟨h.bel.trans ⟨hg.os, hg.tape, hg.output, hg.size, fun k hk => hg.block k (by omega) fun e => by have := hn k e.symm; omega⟩, fun g a b c => (hg.block g (by omega) fun e => by have := hn g e.symm; omega).trans (h.kept g a b c)⟩
/-- The contours of a part in memory, beside those that are gathered. -/
structure LR (wr : World) (DA LA : Option Addr) (ln : Nat) (cs : List (List Sp)) : Prop where
  row : ∃ S : List Sl, RowS encSl 1 wr LA ln S ∧ InT 56 wr S cs
  ty : ∀ g, blockOf LA = some g → Typed wr g 106
  ne : ∀ g, blockOf LA = some g → blockOf DA ≠ some g
theorem LR.below {wr w' : World} {DA LA : Option Addr} {ln : Nat} {cs : List (List Sp)} (h : LR wr DA LA ln cs) (hb : Below wr.heap.size wr w') : LR w' DA LA ln cs := by
  obtain ⟨⟨S, a, b⟩, c, d⟩ := h
  exact ⟨⟨S, a.below hb, b.below hb⟩, fun g hg => (c g hg).keep (hb.block g (c g hg).lt), d⟩
theorem LR.len {wr : World} {DA LA : Option Addr} {ln : Nat} {cs : List (List Sp)} (h : LR wr DA LA ln cs) : cs.length = ln := by
  obtain ⟨⟨S, a, b⟩, c, d⟩ := h
  rw [← b.1]
  exact a.len
theorem LR.at {wr : World} {DA LA : Option Addr} {ln : Nat} {cs : List (List Sp)} (h : LR wr DA LA ln cs) {j : Nat} {c : List Sp} (hj : cs[j]? = some c) : ∃ g off A n k, LA = some ⟨g, off, none⟩ ∧ g < wr.heap.size ∧ wr.cell? ⟨g, off + j, none⟩ = some (.slice A n k) ∧ RowS encRp 3 wr A n c ∧ n ≤ k := by
  obtain ⟨⟨S, a, b⟩, _, _⟩ := h
  have hjl := (List.getElem?_eq_some_iff.1 hj).1
  obtain ⟨s, hs⟩ : ∃ s, S[j]? = some s := ⟨_, List.getElem?_eq_getElem (by rw [b.1]; exact hjl)⟩
  obtain ⟨g, off, e, hg, hc⟩ := atSl a hs
  obtain ⟨r1, r2, _⟩ := b.2 j s c hs hj
  exact ⟨g, off, s.1, s.2.1, s.2.2, e, hg, hc, r1, r2⟩
theorem LR.push {w wr w' : World} {DA D2 LA : Option Addr} {ln dn dc : Nat} {cs : List (List Sp)} {S : List Sl} (h : LR wr DA LA ln cs) (hd : OwnS 106 encSl 1 wr w.heap.size DA dn dc S) (hg : wr.grownBy w' (blockOf DA)) (hb : blockOf D2 = blockOf DA ∨ blockOf D2 = some wr.heap.size) : LR w' D2 LA ln cs := by
  obtain ⟨⟨Q, a, b⟩, c, d⟩ := h
  have hne : ∀ g, blockOf LA = some g → w'.heap[g]? = wr.heap[g]? := fun g hq => hg.block g (c g hq).lt fun e => d g hq e.symm
  refine ⟨⟨Q, a.keep hg.size (fun g hq _ => hne g hq), b.keep hg.size fun g hq => hg.block g hq.lt fun e => (hq.ne (hd.typed g e.symm) (by decide)) rfl⟩, fun g hq => (c g hq).keep (hne g hq), fun g hq => ?_⟩
  rcases hb with e | e
  · rw [e]; exact d g hq
  · rw [e]
    intro e2
    have := (c g hq).lt
    cases e2
    omega
theorem rowU8_ne {w : World} {A : Option Addr} {n : Nat} {l : List Int} {gw : Nat} {a b : Int} {A' : Option Addr} {p q : Nat} {t : TypeId} (h : Row w A n (cellsOf .u8 l)) (hn : 0 < n) (hb : w.heap[gw]? = some (.cells #[.slice A' p q, .int .i64 a, .int .i64 b] t (0, 0))) : ∀ g, blockOf A = some g → g ≠ gw := by
  intro g hg e
  have hl : l.length = n := by have := h.len; simpa [cellsOf] using this
  obtain ⟨x, hx⟩ := get_some (zs := l) (k := 0) (by omega)
  obtain ⟨g', off, rfl, _, hc⟩ := h.at (cellsOf_get (k := .u8) hx)
  simp [blockOf] at hg
  subst hg e
  unfold World.cell? at hc
  simp only [hb] at hc
  rw [Nat.add_zero] at hc
  rcases off with _ | _ | _ | off <;> simp at hc
/-- The lists of an outline that is told are kept when the walk's own block turns. -/
theorem RlV.keepW {w : World} {v : RlV} {gw B : Nat} {a b : Int} {A' : Option Addr} {p q : Nat} {t : TypeId} (h : v.rows w) (hf : ∀ g, (blockOf v.IA = some g ∨ blockOf v.QA = some g) → B ≤ g) (hB : gw < B) (hb : w.heap[gw]? = some (.cells #[.slice A' p q, .int .i64 a, .int .i64 b] t (0, 0))) (o : Nat) (x : Value) : v.rows (w.setCell ⟨gw, o, none⟩ x) := by
  have hs : w.heap.size ≤ (w.setCell ⟨gw, o, none⟩ x).heap.size := by simp [World.setCell]
  refine ⟨h.es.keep hs fun g hg _ => Below.heap_setCell w ⟨gw, o, none⟩ x g (by have := hf g (.inl hg); show g ≠ gw; omega), ?_, h.ps.keep hs fun g hg _ => Below.heap_setCell w ⟨gw, o, none⟩ x g (by have := hf g (.inr hg); show g ≠ gw; omega)⟩
  by_cases hn : 0 < v.pn
  · exact h.pr.keep hs fun g hg _ => Below.heap_setCell w ⟨gw, o, none⟩ x g (rowU8_ne h.pr hn hb g hg)
  · exact ⟨h.pr.1, fun h2 => absurd h2 hn⟩

set_option maxRecDepth 1000000 in
set_option maxHeartbeats 16000000 in
theorem rat_any (L : List (List Int)) (hL : ptsOk L) (w0 : World) (gc : Nat) : ∀ (k : Nat) (GA : Option Addr) (gn : Nat) (way : List Int) (id : Int) (m q : Nat) (w : World) (WA : Option Addr) (wn wc : Nat), GlsIn w0 GA gn L → gn ≤ 1000000000000 → way.length + k = 18 → 1 ≤ k → w.heap[w0.heap.size]? = some (.cells #[.slice GA gn gc, .int .i64 m, .int .i64 q] 104 (0, 0)) → Row w WA wn (cellsOf .i64 way) → (∀ g, blockOf WA = some g → g ≠ w0.heap.size) → Below w0.heap.size w0 w → m ≤ 20000 → q ≤ 20000 → -9223372036854775808 ≤ id → id ≤ 9223372036854775807 →
    Calls Try.prog 45 #[.pointer (some ⟨w0.heap.size, 0, none⟩), .int .i64 id, .slice WA wn wc] w (RetA (visitZ L k way id m q) w0.heap.size GA gn gc w) := by
  intro k
  induction k with
  | zero => intro GA gn way id m q w WA wn wc hG hgn hk hk1; omega
  | succ k ih =>
    intro GA gn way id m q w WA wn wc hG hgn hk hk1 hbx hWr hWn hb hm hq hid0 hid1
    generalize hgw : w0.heap.size = gw at *
    have hwl : way.length = wn := hWr.len
    have hLl := hG.len
    have hlt := lt_of_block hbx
    have HV : Hid (visitZ L (k + 1) way id m q = if codeE gn way id m = 0 then stepZ (visitZ L k (way ++ [id])) (m + 1) q (shZ (L.getD id.toNat [])) else (codeE gn way id m, [], m, q)) := by show _ = _; rw [visitZ_code, hLl]
    have HErr : Hid (∀ (x : Int), x ≠ 0 → (visitZ L (k + 1) way id m q).1 = x → ∀ W, KW gw none w W → RetA (visitZ L (k + 1) way id m q) gw GA gn gc w (.returned (.tuple #[.slice none 0 0, .int .i64 x])) W) := fun x hx he W hW => ⟨none, 0, 0, by rw [he], hW, fun h => absurd (he ▸ h) hx, by rw [(visitZ_ok L (k + 1) way id m q).no (by rw [he]; exact hx)]; exact AccT.nil _ _⟩
    obtain ⟨c0, c1, c2⟩ := cells3W hbx
    have fz := fun o => thawed hbx o
    have hk0 := KW.of (gw := gw) (WA := none) (Below.refl w.heap.size w) (Nat.le_of_lt hlt)
    go_enter Try.func45, Try.ntmps45
    by_cases hrng : id < 0 ∨ (gn : Int) ≤ id
    · have he : (visitZ L (k + 1) way id m q).1 = 6 := by
        have hc : codeE gn way id m = 6 := by unfold codeE; rw [if_pos hrng]
        rw [HV.out, if_neg (by rw [hc]; decide)]
        exact hc
      have HF := Lib.hid (HErr.out 6 (by decide) he w hk0)
      clear HV HErr he
      rcases hrng with h0 | h0
      · go_wp2_with fail
        exact bodyPost_ret (v := .tuple #[.slice none 0 0, .int .i64 6]) (by simp [results, Try.results45, go_sem]) rfl HF.out
      · by_cases h1 : id < 0
        · exfalso; omega
        · go_wp2_with fail
          exact bodyPost_ret (v := .tuple #[.slice none 0 0, .int .i64 6]) (by simp [results, Try.results45, go_sem]) rfl HF.out
    · have h1 : ¬ id < 0 := by omega
      have h2 : ¬ (gn : Int) ≤ id := by omega
      have Hrng := Lib.hid hrng
      go_wp2_with fail
      clear c0 c1 c2
      go_loopw [40] (fun i' wr => ∃ j : Nat, j ≤ wn ∧ i' = .int .i64 j ∧ Hid ((way.take j).contains id = false) ∧ wr = w) (fun i' _ => wn - (intOf i').toNat)
      case atStart => exact ⟨0, Nat.zero_le _, rfl, Lib.hid rfl, rfl⟩
      case round =>
        obtain ⟨j, hj, rfl, HR, rfl⟩ := hrel
        by_cases hlt1 : j < wn
        · obtain ⟨z, hz⟩ := get_some (zs := way) (k := j) (by omega)
          obtain ⟨gz, oz, rfl, hgz, hcz⟩ := hWr.at (cellsOf_get (k := .i64) hz)
          by_cases hzx : z = id
          · have hct : way.contains id = true := by rw [List.contains_iff_mem, ← hzx]; exact List.mem_of_getElem? hz
            have he : (visitZ L (k + 1) way id m q).1 = 8 := by
              have hc : codeE gn way id m = 8 := by unfold codeE; rw [if_neg Hrng.out, if_pos hct]
              rw [HV.out, if_neg (by rw [hc]; decide)]
              exact hc
            have HF := Lib.hid (HErr.out 8 (by decide) he wr hk0)
            subst hzx
            clear HV HErr he hct HR hz
            go_wp2_with fail
            exact bodyPost_ret (v := .tuple #[.slice none 0 0, .int .i64 8]) (by simp [results, Try.results45, go_sem]) rfl HF.out
          · have HS : Hid ((way.take (j + 1)).contains id = false) := by
              show _ = _
              rw [contains_take hz, HR.out]
              simp
              exact fun e => hzx e.symm
            clear hz HR
            go_wp2_with fail
            go_roundw
            case rel => exact ⟨j + 1, by omega, by go_num, HS, by first | rfl | trivial⟩
            case measure => simp [intOf]; omega
        · obtain rfl : j = wn := by omega
          have hct : way.contains id = false := by have h := HR.out; rwa [List.take_of_length_le (by omega)] at h
          by_cases h16 : 16 < j
          · have he : (visitZ L (k + 1) way id m q).1 = 7 := by
              have hc : codeE gn way id m = 7 := by unfold codeE; rw [if_neg Hrng.out, if_neg (by rw [hct]; simp), if_pos (by rw [hwl]; exact h16)]
              rw [HV.out, if_neg (by rw [hc]; decide)]
              exact hc
            have HF := Lib.hid (HErr.out 7 (by decide) he wr hk0)
            have h16i : 16 < (j : Int) := by omega
            clear HV HErr he hct HR
            go_wp2_with fail
            exact bodyPost_ret (v := .tuple #[.slice none 0 0, .int .i64 7]) (by simp [results, Try.results45, go_sem]) rfl HF.out
          · have h16i : ¬ 16 < (j : Int) := by omega
            obtain ⟨c0, c1, c2⟩ := cells3W hbx
            have hbx1 := set_block hbx 1 (.int .i64 ((m : Int) + 1))
            simp only [List.setIfInBounds_toArray, List.set_cons_zero, List.set_cons_succ] at hbx1
            have hk1w := hk0.set 1 (.int .i64 ((m : Int) + 1))
            by_cases hm2 : m = 20000
            · have he : (visitZ L (k + 1) way id m q).1 = 9 := by
                have hc : codeE gn way id m = 9 := by unfold codeE; rw [if_neg Hrng.out, if_neg (by rw [hct]; simp), if_neg (by rw [hwl]; exact h16), if_pos hm2]
                rw [HV.out, if_neg (by rw [hc]; decide)]
                exact hc
              have hk9 := hk0.set 1 (.int .i64 20001)
              have HF := Lib.hid (HErr.out 9 (by decide) he _ hk9)
              subst hm2
              clear HV HErr he hct HR hbx1 hk1w hk9
              go_wp2_with fail
              exact bodyPost_ret (v := .tuple #[.slice none 0 0, .int .i64 9]) (by simp [results, Try.results45, go_sem]) rfl HF.out
            · have hm3 : ¬ 20000 < (m : Int) + 1 := by omega
              have hc0 : codeE gn way id m = 0 := by unfold codeE; rw [if_neg Hrng.out, if_neg (by rw [hct]; simp), if_neg (by rw [hwl]; exact h16), if_neg hm2]
              obtain ⟨i, rfl⟩ : ∃ i : Nat, id = i := ⟨id.toNat, by omega⟩
              have HV2 : Hid (visitZ L (k + 1) way (i : Int) m q = stepZ (visitZ L k (way ++ [(i : Int)])) (m + 1) q (shZ (L.getD i []))) := by show _ = _; rw [HV.out, if_pos hc0]; rfl
              have hin : i < gn := by omega
              have hbw := hb.trans hk1w.bel
              obtain ⟨gg, off, A, n, c, rfl, hgg, hcell, hrow, hB, hn, hnc⟩ := (hG.below (by rw [hgw]; exact hbw)).at hin
              have hKd := Lib.hid (rkind14_any A n c (L.getD i []) _ hrow hB (by omega) hnc)
              have HB := Lib.hid hB
              have hneg : gg ≠ gw ∨ True := .inr trivial
              clear HV hct HR hc0 hB
              go_upto_region 14 with fail
              generalize wr.setCell ⟨gw, 1, none⟩ (.int .i64 ((m : Int) + 1)) = V at *
              clear c0 c1 c2
              obtain ⟨c0, c1, c2⟩ := cells3W hbx1
              go_wp2_with fail
              with_reducible refine hKd.out.mono ?_
              rintro e w1 ⟨rfl, hb1⟩
              have hkV := hk1w.trans (KW.of (gw := gw) (WA := none) hb1 (Nat.le_of_lt (lt_of_block hbx1))) (.inl rfl)
              have hbxV := kept_block hbx1 hb1
              have hrow1 := hrow.below hb1
              rcases kind_cases HB.out with ⟨hkd, hz⟩ | ⟨hkd, hz⟩ | ⟨hkd, g, a, hpar, hz⟩ | ⟨hkd, hcok, hz⟩
              · have he : (visitZ L (k + 1) way (i : Int) m q).1 = 2 := by rw [HV2.out, hz]; rfl
                have HF := Lib.hid (HErr.out 2 (by decide) he _ hkV)
                rw [hkd]
                clear HErr HV2 he hz hKd c0 c1 c2 hkd
                go_wp2_with fail
                exact bodyPost_ret (v := .tuple #[.slice none 0 0, .int .i64 2]) (by simp [results, Try.results45, go_sem]) rfl HF.out
              · have he : visitZ L (k + 1) way (i : Int) m q = (0, [], m + 1, q) := by rw [HV2.out, hz]; unfold stepZ; simp only; rw [if_neg (by rw [ptsN_nil]; omega)]; rfl
                have HF : Hid (RetA (visitZ L (k + 1) way (i : Int) m q) gw (some ⟨gg, off, none⟩) gn gc wr (.returned (.tuple #[.slice none 0 0, .int .i64 0])) w1) := by
                  rw [he]
                  exact ⟨none, 0, 0, rfl, hkV, fun _ => by rw [show (((m + 1 : Nat) : Int)) = (m : Int) + 1 by omega]; exact hbxV, AccT.nil _ _⟩
                rw [hkd]
                clear HErr HV2 he hz hKd c0 c1 c2 hkd
                go_wp2_with fail
                exact bodyPost_ret (v := .tuple #[.slice none 0 0, .int .i64 0]) (by simp [results, Try.results45, go_sem]) rfl HF.out
              · have hright := oParse_right HB.out hpar
                have hgok := (oParse_ok HB.out hpar).1
                have hpl := (oParse_ok HB.out hpar).2.2.2
                have hcp := ctsG_pts hgok hright
                have hE12 := (oRight_parts hright).1
                have hP12 := Lib.hid (rparse12_anyF A n c (L.getD i []) w1 hrow1 HB.out (by omega))
                have HV3 : Hid (visitZ L (k + 1) way (i : Int) m q = if 20000 < q + g.ps.length then (9, [], m + 1, q + g.ps.length) else (0, ctsG g, m + 1, q + g.ps.length)) := by
                  show _ = _
                  rw [HV2.out, hz]
                  unfold stepZ
                  simp only [hcp]
                  split <;> rfl
                rw [hkd]
                clear HV2 hz hKd c0 c1 c2 hkd hcp
                go_wp2_with fail
                with_reducible refine hP12.out.mono ?_
                rintro e w2 ⟨hb2, hway⟩
                rcases hway with ⟨hno, -⟩ | ⟨g', a', v, hpar', rfl, hvr, hvg, hv1, hv2, hv3, hvf⟩
                · rw [hpar] at hno; cases hno
                rw [hpar] at hpar'
                cases hpar'
                subst hvg
                have hVr := hvr
                have hEn := hvr.es.len
                have hPn := hvr.pr.len
                have hSn := hvr.ps.len
                unfold RlV.val RlV.cells
                have HRr : Hid (∀ W, v.rows W → Calls Try.prog 108 #[RlV.val v] W (Ret W (.bool true))) := Lib.hid fun W hW => by
                  have h := rright12_mid v W hW (by omega) (by omega) hv3 hgok
                  rw [hright] at h
                  exact h
                have HCn : Hid (∀ W, v.rows W → Calls Try.prog 109 #[RlV.val v] W fun e w' => ∃ A n c, e = .returned (.slice A n c) ∧ AccT 56 106 w' W.heap.size A n c (ctsG v.g) ∧ Below W.heap.size W w') := Lib.hid fun W hW => rcont_any v W hW hgok hright hv3
                unfold RlV.val RlV.cells at HRr HCn
                generalize ctsG v.g = cg at *
                obtain ⟨⟨x0, x1, x2, x3, es, pr, ps⟩, EA, en, ec, PA, pn, pc, SA, sn, sc⟩ := v
                simp only at hv1 hv2 hv3 hEn hPn hSn HRr HCn HV3 hpl ⊢
                have hA2 := (Below.refl w2.heap.size w2).alloc (Nat.le_refl _) (.cells #[.int .i64 x0, .int .i64 x1, .int .i64 x2, .int .i64 x3, .slice EA en ec, .slice PA pn pc, .slice SA sn sc] 179)
                have hkg := heap_alloc_new w2 (.cells #[.int .i64 x0, .int .i64 x1, .int .i64 x2, .int .i64 x3, .slice EA en ec, .slice PA pn pc, .slice SA sn sc] 179)
                have hbx2 := kept_block (kept_block hbxV hb2) hA2
                have hkW2 := (hkV.trans (KW.of (gw := gw) (WA := none) hb2 (Nat.le_of_lt (lt_of_block hbxV))) (.inl rfl)).trans (KW.of (gw := gw) (WA := none) hA2 (Nat.le_of_lt (lt_of_block (kept_block hbxV hb2)))) (.inl rfl)
                have hvr2 := hvr.below hA2
                have hgw1 : gw < w1.heap.size := lt_of_block hbxV
                have hvr3 := RlV.keepW hvr2 hvf hgw1 hbx2 2 (.int .i64 ((q : Int) + (sn : Int)))
                clear hvr hVr hgok hright hpar hP12 hb2 hvr2
                go_upto_region 22 with fail
                generalize hV2 : w2.alloc (.cells #[.int .i64 x0, .int .i64 x1, .int .i64 x2, .int .i64 x3, .slice EA en ec, .slice PA pn pc, .slice SA sn sc] 179) = V2 at *
                obtain ⟨c0, c1, c2⟩ := cells3W hbx2
                have fz2 := fun o => thawed hbx2 o
                obtain ⟨g0, g1, g2, g3, g4, g5, g6⟩ := cells7 hkg
                have hneg : w2.heap.size ≠ gw := Typed.ne ⟨_, hkg⟩ ⟨_, hbx2⟩ (by decide)
                have hneg' : gw ≠ w2.heap.size := fun h => hneg h.symm
                have hbx3 := set_block hbx2 2 (.int .i64 ((q : Int) + (sn : Int)))
                simp only [List.setIfInBounds_toArray, List.set_cons_zero, List.set_cons_succ] at hbx3
                have hkW3 := hkW2.set 2 (.int .i64 ((q : Int) + (sn : Int)))
                have hkg3 := (Below.heap_setCell V2 ⟨gw, 2, none⟩ (.int .i64 ((q : Int) + (sn : Int))) w2.heap.size hneg).trans hkg
                by_cases hov : 20000 < q + ps.length
                · have hovi : 20000 < (q : Int) + (sn : Int) := by omega
                  have he : (visitZ L (k + 1) way (i : Int) m q).1 = 9 := by rw [HV3.out, if_pos hov]
                  have HF := Lib.hid (HErr.out 9 (by decide) he _ (hkW3.trans (KW.of (gw := gw) (WA := none) (Below.refl _ _).drew (Nat.le_of_lt (lt_of_block hbx3))) (.inl rfl)))
                  clear HErr HV3 he hbx3 hkg3 hkW3
                  refine wp_region_still_tail 10 (by kernel_rfl) (by kernel_rfl) ?_
                  simp only [List.take_succ_cons, List.take_zero, List.drop_succ_cons, List.drop_zero]
                  repeat still_step
                  refine wpStill_nil ?_
                  go_wp2_with fail
                  exact bodyPost_ret (v := .tuple #[.slice none 0 0, .int .i64 9]) (by simp [results, Try.results45, go_sem]) rfl HF.out
                · have hovi : ¬ 20000 < (q : Int) + (sn : Int) := by omega
                  have he : visitZ L (k + 1) way (i : Int) m q = (0, cg, m + 1, q + sn) := by rw [HV3.out, if_neg hov, hSn]
                  refine wp_region_still_tail 10 (by kernel_rfl) (by kernel_rfl) ?_
                  simp only [List.take_succ_cons, List.take_zero, List.drop_succ_cons, List.drop_zero]
                  repeat still_step
                  refine wpStill_nil ?_
                  have hd3 := (Below.refl (V2.setCell ⟨gw, 2, none⟩ (.int .i64 ((q : Int) + (sn : Int)))).heap.size (V2.setCell ⟨gw, 2, none⟩ (.int .i64 ((q : Int) + (sn : Int))))).drew
                  have hvr4 := hvr3.below hd3
                  have hbx4 := kept_block hbx3 hd3
                  have hkg4 := kept_block hkg3 hd3
                  have hkW4 := hkW3.trans (KW.of (gw := gw) (WA := none) hd3 (Nat.le_of_lt (lt_of_block hbx3))) (.inl rfl)
                  clear hbx2 hbx3 hkg hkg3 hkW2 hkW3 hvr3 hd3
                  go_upto_region 25 with fail
                  clear c0 c1 c2 fz2 g0 g1 g2 g3 g4 g5 g6
                  generalize (V2.setCell ⟨gw, 2, none⟩ (.int .i64 ((q : Int) + (sn : Int)))).drew = V4 at *
                  obtain ⟨g0, g1, g2, g3, g4, g5, g6⟩ := cells7 hkg4
                  have HR4 := Lib.hid (HRr.out V4 hvr4)
                  go_wp2_with fail
                  with_reducible refine HR4.out.mono ?_
                  rintro e w5 ⟨rfl, hb5⟩
                  have hvr5 := hvr4.below hb5
                  have hbx5 := kept_block hbx4 hb5
                  have hkg5 := kept_block hkg4 hb5
                  have hkW5 := hkW4.trans (KW.of (gw := gw) (WA := none) hb5 (Nat.le_of_lt (lt_of_block hbx4))) (.inl rfl)
                  have HC5 := Lib.hid (HCn.out w5 hvr5)
                  clear g0 g1 g2 g3 g4 g5 g6 HR4 hvr4 hbx4 hkg4 hkW4 hb5 HRr HCn
                  obtain ⟨g0, g1, g2, g3, g4, g5, g6⟩ := cells7 hkg5
                  go_wp2_with fail
                  refine HC5.out.mono ?_
                  rintro e w6 ⟨DA, dn, dc, rfl, hacc, hb6⟩
                  have hkW6 := hkW5.trans (KW.of (gw := gw) (WA := none) hb6 (Nat.le_of_lt (lt_of_block hbx5))) (.inl rfl)
                  have hbx6 := kept_block hbx5 hb6
                  have HF : Hid (RetA (visitZ L (k + 1) way (i : Int) m q) gw (some ⟨gg, off, none⟩) gn gc wr (.returned (.tuple #[.slice DA dn dc, .int .i64 0])) w6) := by
                    rw [he]
                    exact ⟨DA, dn, dc, rfl, hkW6, fun _ => by rw [show (((m + 1 : Nat) : Int)) = (m : Int) + 1 by omega, show (((q + sn : Nat) : Int)) = (q : Int) + sn by omega]; exact hbx6, hacc.mono hkW5.size⟩
                  clear HErr HV3 he hacc hkW6 hbx6 HC5
                  go_wp2_with fail
                  exact bodyPost_ret (v := .tuple #[.slice DA dn dc, .int .i64 0]) (by simp [results, Try.results45, go_sem]) rfl HF.out
              · have hP13 := Lib.hid (rparse13_any A n c (L.getD i []) w1 hrow1 HB.out (by omega) hnc)
                have HPok := Lib.hid (shZ_ok HB.out hz)
                have HV3 : Hid (visitZ L (k + 1) way (i : Int) m q = partsZ (visitZ L k (way ++ [(i : Int)])) (cgRd (L.getD i []) 2).ps [] (m + 1) q) := by
                  show _ = _
                  rw [HV2.out, hz]
                  unfold stepZ
                  simp only
                  rw [if_neg (by rw [ptsN_nil]; omega), ptsN_nil]
                  rfl
                rw [hkd]
                clear HV2 hz hKd c0 c1 c2
                go_wp2_with fail
                with_reducible refine hP13.out.mono ?_
                rintro e w2 ⟨hb2, hway⟩
                rcases hway with ⟨hno, -⟩ | ⟨-, v, rfl, hvr, hvg, hvo, hvq, -⟩
                · rw [hcok] at hno; cases hno
                obtain ⟨⟨x0, x1, x2, x3, ps, pr⟩, QA, qn, qc, PA, pn, pc⟩ := v
                simp only at hvg hvo hvq
                have hps : (cgRd (L.getD i []) 2).ps = ps := by rw [← hvg]
                rw [hps] at HV3 HPok
                have hrows := hvr.ps
                unfold RcV.val RcV.cells
                simp only at hrows ⊢
                have hA := (Below.refl w2.heap.size w2).alloc (Nat.le_refl _) (.cells #[.int .i64 x0, .int .i64 x1, .int .i64 x2, .int .i64 x3, .slice QA qn qc, .slice PA pn pc] 134)
                have hkq := heap_alloc_new w2 (.cells #[.int .i64 x0, .int .i64 x1, .int .i64 x2, .int .i64 x3, .slice QA qn qc, .slice PA pn pc] 134)
                have hrow3 := hrows.below hA
                have hbx3 := kept_block (kept_block hbxV hb2) hA
                have hkW3 := (hkV.trans (KW.of (gw := gw) (WA := none) hb2 (Nat.le_of_lt (lt_of_block hbxV))) (.inl rfl)).trans (KW.of (gw := gw) (WA := none) hA (Nat.le_of_lt (lt_of_block (kept_block hbxV hb2)))) (.inl rfl)
                clear hvr hvg hvo hps hP13 hb2 hrows hA hkd hbxV hkV hbx1 hk1w
                generalize cgEnd (L.getD i []) 2 = ce
                go_upto_region 30 with fail
                generalize w2.alloc _ = V2 at *
                generalize w2.heap.size = gS at *
                obtain ⟨s0, s1, s2, s3, s4, s5⟩ := cells6 hkq
                go_wp2_with fail
                clear s0 s1 s2 s3 s4 s5 hkq
                obtain ⟨i0, hi, hz0, hz1, hz2⟩ := info_parts Try.i64infoW
                obtain ⟨i1, hi1, hz01, hz11, hz21⟩ := info_parts Try.rptinfo
                obtain ⟨i2, hi2, hz02, hz12, hz22⟩ := info_parts Try.rptsinfo
                obtain ⟨ws, rfl⟩ : ∃ ws, ws = wr := ⟨_, rfl⟩
                obtain ⟨wn, rfl⟩ : ∃ wn, wn = j := ⟨_, rfl⟩
                have hsV : ws.heap.size ≤ V2.heap.size := hkW3.size
                have HQ : Hid (0 < qn → ∀ g, blockOf QA = some g → g < V2.heap.size) := Lib.hid fun h g hg => by
                  obtain ⟨p, hp⟩ : ∃ p, ps[0]? = some p := ⟨_, List.getElem?_eq_getElem (by rw [hrow3.len]; exact h)⟩
                  obtain ⟨g', o', rfl, hl, _⟩ := hrow3.at encRt_len (by omega) hp
                  simp [blockOf] at hg
                  omega
                go_loopw [17, 113] (fun out i' wr => ∃ (jj : Nat) (DA : Option Addr) (dn dc : Nat) (acc : List (List Sp)) (mr qr : Nat), jj ≤ qn ∧ i' = .int .i64 jj ∧ out = .slice DA dn dc ∧ KW gw none ws wr ∧ wr.heap[gw]? = some (.cells #[.slice (some ⟨gg, off, none⟩) gn gc, .int .i64 (mr : Nat), .int .i64 (qr : Nat)] 104 (0, 0)) ∧ AccT 56 106 wr V2.heap.size DA dn dc acc ∧ V2.heap.size ≤ wr.heap.size ∧ RowS encRt 8 wr QA qn ps ∧ Hid (partsZ (visitZ L k (way ++ [(i : Int)])) (ps.drop jj) acc mr qr = visitZ L (k + 1) way (i : Int) m q) ∧ m + 1 ≤ mr ∧ mr ≤ 20000 ∧ qr ≤ 20000 ∧ dn ≤ 32767 * (mr - m)) (fun _ i' _ => qn - (intOf i').toNat)
                case atStart => exact ⟨0, none, 0, 0, [], m + 1, q, Nat.zero_le _, rfl, rfl, hkW3, by rw [show (((m + 1 : Nat) : Int)) = (m : Int) + 1 by omega]; exact hbx3, AccT.nil _ _, Nat.le_refl _, hrow3, Lib.hid HV3.out.symm, Nat.le_refl _, by omega, by omega, by omega⟩
                case round =>
                  clear hbx3 hkW3 hrow3 HV3
                  obtain ⟨jj, DA, dn, dc, acc, mr, qr, hjj, rfl, rfl, hkW, hbxR, hacc, hVr, hrowR, HPz, hm1, hm2', hq2, hdn⟩ := hrel
                  by_cases hltj : jj < qn
                  · obtain ⟨p, hp⟩ : ∃ p, ps[jj]? = some p := ⟨_, List.getElem?_eq_getElem (by have := hrowR.len; omega)⟩
                    obtain ⟨gt, ot, rfl, hgt, d0, d1, d2, d3, d4, d5, d6, d7⟩ := atRt hrowR hp
                    have hpo := HPok.out p (List.mem_of_getElem? hp)
                    have hPs := partsZ_step (f := visitZ L k (way ++ [(i : Int)])) hp acc mr qr
                    rw [HPz.out] at hPs
                    have hA := (Below.refl wr.heap.size wr).alloc (Nat.le_refl _) (.cells #[.int .i64 p.f, .int .i64 p.i, .int .i64 p.x, .int .i64 p.y, .int .i64 p.xx, .int .i64 p.xy, .int .i64 p.yx, .int .i64 p.yy] 138)
                    have hkP := heap_alloc_new wr (.cells #[.int .i64 p.f, .int .i64 p.i, .int .i64 p.x, .int .i64 p.y, .int .i64 p.xx, .int .i64 p.xy, .int .i64 p.yx, .int .i64 p.yy] 138)
                    have hltg := lt_of_block hbxR
                    have hkWA := hkW.trans (KW.of (gw := gw) (WA := none) hA (Nat.le_of_lt hltg)) (.inl rfl)
                    have hbxA := kept_block hbxR hA
                    have haccA := hacc.below hA
                    have hrowA := hrowR.below hA
                    have hpi := hpo.i
                    have HIH : Hid (∀ (W : World) (A3 : Option Addr) (c3 : Nat), W.heap[gw]? = some (.cells #[.slice (some ⟨gg, off, none⟩) gn gc, .int .i64 (mr : Nat), .int .i64 (qr : Nat)] 104 (0, 0)) → Row W A3 (wn + 1) (cellsOf .i64 (way ++ [(i : Int)])) → (∀ g, blockOf A3 = some g → g ≠ gw) → Below gw w0 W → Calls Try.prog 45 #[.pointer (some ⟨gw, 0, none⟩), .int .i64 p.i, .slice A3 (wn + 1) c3] W (RetA (visitZ L k (way ++ [(i : Int)]) p.i mr qr) gw (some ⟨gg, off, none⟩) gn gc W)) := Lib.hid fun W A3 c3 a b c' d => ih (some ⟨gg, off, none⟩) gn (way ++ [(i : Int)]) p.i mr qr W A3 (wn + 1) c3 hG hgn (by rw [List.length_append, List.length_singleton]; omega) (by omega) a b c' d hm2' hq2 (by omega) (by omega)
                    have hvok := visitZ_ok L k (way ++ [(i : Int)]) p.i mr qr
                    have hnear := visitZ_near hL k (way ++ [(i : Int)]) p.i mr qr (by rw [List.length_append, List.length_singleton]; omega) (by simp)
                    generalize visitZ L k (way ++ [(i : Int)]) p.i mr qr = R at *
                    have HPs := Lib.hid hPs
                    have Hnear := Lib.hid hnear
                    have Hvok := Lib.hid hvok
                    have Hpo := Lib.hid hpo
                    obtain ⟨pf, pi, px, py, xx, xy, yx, yy⟩ := p
                    simp only at d0 d1 d2 d3 d4 d5 d6 d7 hpi
                    clear hPs hnear hvok hpo hp hacc hA hrowR HPz
                    have HWay : Hid (∀ W, KW gw none ws W → Row W WA wn (cellsOf .i64 way)) := Lib.hid fun W hW => hWr.keep hW.size fun g e hgl => hW.kept g hgl (hWn g e) (by simp [blockOf])
                    go_upto_region 33 with fail
                    generalize hbp : wr.heap.size = bp at *
                    have hbpl := lt_of_block hkP
                    have hbpn : bp ≠ gw := by omega
                    generalize wr.alloc (.cells #[.int .i64 pf, .int .i64 pi, .int .i64 px, .int .i64 py, .int .i64 xx, .int .i64 xy, .int .i64 yx, .int .i64 yy] 138) = V5 at *
                    clear d0 d1 d2 d3 d4 d5 d6 d7
                    go_cut [20, 21, 113] from 113 to 162 (fun l e i' wx => ∃ (CB : Option Addr) (cn cb : Nat), l = .slice CB cn cb ∧ e = .int .i64 R.1 ∧ i' = .int .i64 jj ∧ KW gw none V5 wx ∧ (R.1 = 0 → wx.heap[gw]? = some (.cells #[.slice (some ⟨gg, off, none⟩) gn gc, .int .i64 (R.2.2.1 : Nat), .int .i64 (R.2.2.2 : Nat)] 104 (0, 0))) ∧ AccT 56 106 wx V5.heap.size CB cn cb R.2.1)
                    case first =>
                      have hdr := (Below.refl V5.heap.size V5).drew
                      have hbxD := kept_block hbxA hdr
                      have hkPD := kept_block hkP hdr
                      have hbplD := lt_of_block hkPD
                      have hwsD := hkWA.trans (KW.of (gw := gw) (WA := none) hdr (by omega)) (.inl rfl)
                      have hbdD := hb.trans hwsD.bel
                      have hltD := lt_of_block hbxD
                      clear haccA hrowA hkP hbxA hkWA hdr hbpl
                      have hx0 : KW gw none V5.drew V5.drew := KW.of (Below.refl _ _) (Nat.le_of_lt hltD)
                      refine regT_start 14 (KW gw none V5.drew) (by kernel_rfl) ?_
                      have hsz5 : V5.heap.size ≤ V5.drew.heap.size := Nat.le_refl _
                      have hkw50 : KW gw none V5 V5.drew := KW.of (Below.refl _ _).drew (Nat.le_of_lt hltD)
                      generalize V5.drew = V at *
                      refine regT_take (i := 0) (d := some 118) (v := ?_) [] hx0 rfl rfl (by kernel_rfl) (by kernel_rfl) (by kernel_rfl) (by kernel_rfl) (by kernel_rfl) (by decide) (fun _ _ _ h => h) (Or.inl ⟨by rfl, ?_⟩) ?_
                      rotate_left
                      · intro w' hx; (go_simp <;> with_reducible rfl)
                      simp only [Act.put, List.setIfInBounds_toArray, List.set_cons_zero, List.set_cons_succ]
                      refine regT_take (i := 1) (d := some 119) (v := ?_) [] hx0 rfl rfl (by kernel_rfl) (by kernel_rfl) (by kernel_rfl) (by kernel_rfl) (by kernel_rfl) (by decide) (fun _ _ _ h => h) (Or.inl ⟨by rfl, ?_⟩) ?_
                      rotate_left
                      · intro w' hx; (go_simp <;> with_reducible rfl)
                      simp only [Act.put, List.setIfInBounds_toArray, List.set_cons_zero, List.set_cons_succ]
                      refine regT_take (i := 2) (d := some 120) (v := ?_) [] hx0 rfl rfl (by kernel_rfl) (by kernel_rfl) (by kernel_rfl) (by kernel_rfl) (by kernel_rfl) (by decide) (fun _ _ _ h => h) (Or.inl ⟨by rfl, ?_⟩) ?_
                      rotate_left
                      · intro w' hx; obtain ⟨q0, q1, q2, q3, q4, q5, q6, q7⟩ := cells8 ((hx.kept bp hbplD hbpn (by simp [blockOf])).trans hkPD); (go_simp <;> with_reducible rfl)
                      simp only [Act.put, List.setIfInBounds_toArray, List.set_cons_zero, List.set_cons_succ]
                      refine regT_take (i := 4) (d := some 122) (v := ?_) [] hx0 rfl rfl (by kernel_rfl) (by kernel_rfl) (by kernel_rfl) (by kernel_rfl) (by kernel_rfl) (by decide) (fun _ _ _ h => h) (Or.inl ⟨by rfl, ?_⟩) ?_
                      rotate_left
                      · intro w' hx; (go_simp <;> with_reducible rfl)
                      simp only [Act.put, List.setIfInBounds_toArray, List.set_cons_zero, List.set_cons_succ]
                      refine regT_take (i := 6) (d := some 124) (v := ?_) [] hx0 rfl rfl (by kernel_rfl) (by kernel_rfl) (by kernel_rfl) (by kernel_rfl) (by kernel_rfl) (by decide) (fun _ _ _ h => h) (Or.inl ⟨by rfl, ?_⟩) ?_
                      rotate_left
                      · intro w' hx; (go_simp <;> with_reducible rfl)
                      simp only [Act.put, List.setIfInBounds_toArray, List.set_cons_zero, List.set_cons_succ]
                      refine regT_two 3 7 _ _ (by kernel_rfl) rfl rfl ?_ ?_
                      · intro K hK
                        go_simp
                        have hAW1 := (Below.refl V.heap.size V).alloc (Nat.le_refl _) (.cells #[] 3)
                        have hx1 : KW gw none V (V.alloc (.cells #[] 3)) := hx0.trans (KW.of (gw := gw) (WA := none) hAW1 (by have := hx0.size; omega)) (.inl rfl)
                        have hEW1 : Own 3 .i64 (V.alloc (.cells #[] 3)) V.heap.size (some ⟨V.heap.size, 0, none⟩) 0 0 [] := own_emptyW 3 .i64 V V.heap.size hx0.size
                        have hszW1 : V.heap.size + 1 ≤ (V.alloc (.cells #[] 3)).heap.size := by simp
                        refine hK.out _ _ (fun _ => hx1) ?_
                        clear hK K
                        try simp only [Act.put, List.setIfInBounds_toArray, List.set_cons_zero, List.set_cons_succ]
                        generalize hqW1 : V.alloc (.cells #[] 3) = W1 at *
                        refine regT_two 5 7 _ _ (by kernel_rfl) rfl rfl ?_ ?_
                        · intro K hK
                          refine step_append_row rfl (.tmp 121) (.tmp 122) _ rfl 3 .i64 V.heap.size i0 8 Try.underlying71 hi hz0 hz1 hz2 (some ⟨V.heap.size, 0, none⟩) 0 0 [] rfl hEW1 WA wn wc way rfl (HWay.out _ (hwsD.trans hx1 (.inl rfl))) (by omega) (by omega) hx1.size ?_
                          intro A2 c2 W2 hOW2 hgW2
                          have hx2 : KW gw none V W2 := KW.appW hx1 hgW2 (by omega) (fun g e => by simp [blockOf] at e; have := hx1.size; omega)
                          refine hK.out _ _ (fun _ => hx2) ?_
                          clear hK K
                          simp only [Act.put, List.setIfInBounds_toArray, List.set_cons_zero, List.set_cons_succ]
                          have hbx2 := (hgW2.block gw (by omega) (by simp [blockOf]; omega)).trans ((hAW1.block gw (by omega)).trans hbxD)
                          refine regT_one 7 _ (by kernel_rfl) rfl ?_
                          intro K hK
                          go_simp
                          have hAW3 := (Below.refl W2.heap.size W2).alloc (Nat.le_refl _) (.cells #[.int .i64 (i : Int)] 3)
                          have hx3 : KW gw none V (W2.alloc (.cells #[.int .i64 (i : Int)] 3)) := hx2.trans (KW.of (gw := gw) (WA := none) hAW3 (by have := hx2.size; omega)) (.inl rfl)
                          have hRW3 : Row (W2.alloc (.cells #[.int .i64 (i : Int)] 3)) (some ⟨W2.heap.size, 0, none⟩) 1 (cellsOf .i64 [(i : Int)]) := row_one W2 .i64 (i : Int) 3
                          have hszW3 : W2.heap.size + 1 ≤ (W2.alloc (.cells #[.int .i64 (i : Int)] 3)).heap.size := by simp
                          refine hK.out _ _ (fun _ => hx3) ?_
                          clear hK K
                          try simp only [Act.put, List.setIfInBounds_toArray, List.set_cons_zero, List.set_cons_succ]
                          generalize hqW3 : W2.alloc (.cells #[.int .i64 (i : Int)] 3) = W3 at *
                          have hbxL := (hAW3.block gw (by have := hx2.size; omega)).trans hbx2
                          have hOW3 := hOW2.below hAW3
                          simp only [List.nil_append, Nat.zero_add] at hOW3 ⊢
                          refine regT_one 8 _ (by kernel_rfl) rfl ?_
                          intro K hK
                          refine step_append_row rfl (.tmp 123) (.tmp 125) _ rfl 3 .i64 V.heap.size i0 8 Try.underlying71 hi hz0 hz1 hz2 A2 wn c2 way rfl hOW3 (some ⟨W2.heap.size, 0, none⟩) 1 1 [(i : Int)] rfl hRW3 (by omega) (by omega) hx3.size ?_
                          intro A3 c3 W4 hO4 hg4
                          have hx4 : KW gw none V W4 := KW.appW hx3 hg4 (by omega) (fun g e => (hOW3.from_ g e).1)
                          refine hK.out _ _ (fun _ => hx4) ?_
                          clear hK K
                          simp only [Act.put, List.setIfInBounds_toArray, List.set_cons_zero, List.set_cons_succ]
                          have hbx4 : W4.heap[gw]? = some (.cells #[.slice (some ⟨gg, off, none⟩) gn gc, .int .i64 (mr : Nat), .int .i64 (qr : Nat)] 104 (0, 0)) := by
                            have h1 := (hg4.block gw (by have := hx3.size; omega) (fun e => by have := (hOW3.from_ gw e.symm).1; omega))
                            exact h1.trans hbxL
                          have HIh := Lib.hid (HIH.out W4 A3 c3 hbx4 hO4.row (fun g e => by have := (hO4.from_ g e).1; omega) (hbdD.trans hx4.bel))
                          clear hOW3 hRW3 hg4 hbxL hbx4
                          refine regT_one 9 _ (by kernel_rfl) rfl ?_
                          intro K hK
                          go_simp
                          with_reducible refine HIh.out.mono ?_
                          rintro e W5 ⟨CB, cn, cb, rfl, hkw5, hbx5, hac5⟩
                          have hx5 := hx4.trans hkw5 (.inl rfl)
                          have hac6 := hac5.mono hx4.size
                          refine hK.out _ _ (fun _ => hx5) ?_
                          clear hK K HIh hac5 hkw5
                          try simp only [Act.put, List.setIfInBounds_toArray, List.set_cons_zero, List.set_cons_succ]
                          refine regT_take (i := 10) (d := some 117) (v := ?_) [] hx5 rfl rfl (by kernel_rfl) (by kernel_rfl) (by kernel_rfl) (by kernel_rfl) (by kernel_rfl) (by decide) (fun _ _ _ h => h) (Or.inl ⟨by rfl, ?_⟩) ?_
                          rotate_left
                          · intro w' hx; (go_simp <;> with_reducible rfl)
                          simp only [Act.put, List.setIfInBounds_toArray, List.set_cons_zero, List.set_cons_succ]
                          refine regT_take (i := 11) (d := some 128) (v := ?_) [] hx5 rfl rfl (by kernel_rfl) (by kernel_rfl) (by kernel_rfl) (by kernel_rfl) (by kernel_rfl) (by decide) (fun _ _ _ h => h) (Or.inl ⟨by rfl, ?_⟩) ?_
                          rotate_left
                          · intro w' hx; (go_simp <;> with_reducible rfl)
                          simp only [Act.put, List.setIfInBounds_toArray, List.set_cons_zero, List.set_cons_succ]
                          refine regT_take (i := 12) (d := some 129) (v := ?_) [] hx5 rfl rfl (by kernel_rfl) (by kernel_rfl) (by kernel_rfl) (by kernel_rfl) (by kernel_rfl) (by decide) (fun _ _ _ h => h) (Or.inl ⟨by rfl, ?_⟩) ?_
                          rotate_left
                          · intro w' hx; (go_simp <;> with_reducible rfl)
                          simp only [Act.put, List.setIfInBounds_toArray, List.set_cons_zero, List.set_cons_succ]
                          refine regT_take (i := 13) (d := some 20) (v := ?_) [] hx5 rfl rfl (by kernel_rfl) (by kernel_rfl) (by kernel_rfl) (by kernel_rfl) (by kernel_rfl) (by decide) (fun _ _ _ h => h) (Or.inl ⟨by rfl, ?_⟩) ?_
                          rotate_left
                          · intro w' hx; (go_simp <;> with_reducible rfl)
                          simp only [Act.put, List.setIfInBounds_toArray, List.set_cons_zero, List.set_cons_succ]
                          refine regT_one 14 _ (by kernel_rfl) rfl ?_
                          intro K hK
                          go_simp
                          refine hK.out _ _ (fun h => absurd h (by decide)) ?_
                          clear hK K
                          refine regT_done (by kernel_rfl) ?_ _
                          go_wp2_with fail
                          go_meet
                          case rel => exact ⟨CB, cn, cb, rfl, rfl, rfl, hkw50.trans hx5 (.inl rfl), hbx5, hac6.mono (by omega)⟩
                        · intro K hK
                          go_simp
                          have hAW2 := (Below.refl W1.heap.size W1).alloc (Nat.le_refl _) (.cells #[.int .i64 (i : Int)] 3)
                          have hx2 : KW gw none V (W1.alloc (.cells #[.int .i64 (i : Int)] 3)) := hx1.trans (KW.of (gw := gw) (WA := none) hAW2 (by have := hx1.size; omega)) (.inl rfl)
                          have hRW2 : Row (W1.alloc (.cells #[.int .i64 (i : Int)] 3)) (some ⟨W1.heap.size, 0, none⟩) 1 (cellsOf .i64 [(i : Int)]) := row_one W1 .i64 (i : Int) 3
                          have hszW2 : W1.heap.size + 1 ≤ (W1.alloc (.cells #[.int .i64 (i : Int)] 3)).heap.size := by simp
                          refine hK.out _ _ (fun _ => hx2) ?_
                          clear hK K
                          try simp only [Act.put, List.setIfInBounds_toArray, List.set_cons_zero, List.set_cons_succ]
                          generalize hqW2 : W1.alloc (.cells #[.int .i64 (i : Int)] 3) = W2 at *
                          have hEW2 := hEW1.below hAW2
                          have hbx2 := (hAW2.block gw (by omega)).trans ((hAW1.block gw (by omega)).trans hbxD)
                          refine regT_one 5 _ (by kernel_rfl) rfl ?_
                          intro K hK
                          refine step_append_row rfl (.tmp 121) (.tmp 122) _ rfl 3 .i64 V.heap.size i0 8 Try.underlying71 hi hz0 hz1 hz2 (some ⟨V.heap.size, 0, none⟩) 0 0 [] rfl hEW2 WA wn wc way rfl (HWay.out _ (hwsD.trans hx2 (.inl rfl))) (by omega) (by omega) hx2.size ?_
                          intro A2 c2 W3 hOW3 hgW3
                          have hx3 : KW gw none V W3 := KW.appW hx2 hgW3 (by omega) (fun g e => by simp [blockOf] at e; have := hx2.size; omega)
                          refine hK.out _ _ (fun _ => hx3) ?_
                          clear hK K
                          simp only [Act.put, List.setIfInBounds_toArray, List.set_cons_zero, List.set_cons_succ]
                          have hbxL := (hgW3.block gw (by omega) (by simp [blockOf]; omega)).trans hbx2
                          have hRW3 := hRW2.grown hgW3 (fun g e => by simp [blockOf] at e ⊢; omega)
                          simp only [List.nil_append, Nat.zero_add] at hOW3 ⊢
                          refine regT_one 8 _ (by kernel_rfl) rfl ?_
                          intro K hK
                          refine step_append_row rfl (.tmp 123) (.tmp 125) _ rfl 3 .i64 V.heap.size i0 8 Try.underlying71 hi hz0 hz1 hz2 A2 wn c2 way rfl hOW3 (some ⟨W1.heap.size, 0, none⟩) 1 1 [(i : Int)] rfl hRW3 (by omega) (by omega) hx3.size ?_
                          intro A3 c3 W4 hO4 hg4
                          have hx4 : KW gw none V W4 := KW.appW hx3 hg4 (by omega) (fun g e => (hOW3.from_ g e).1)
                          refine hK.out _ _ (fun _ => hx4) ?_
                          clear hK K
                          simp only [Act.put, List.setIfInBounds_toArray, List.set_cons_zero, List.set_cons_succ]
                          have hbx4 : W4.heap[gw]? = some (.cells #[.slice (some ⟨gg, off, none⟩) gn gc, .int .i64 (mr : Nat), .int .i64 (qr : Nat)] 104 (0, 0)) := by
                            have h1 := (hg4.block gw (by have := hx3.size; omega) (fun e => by have := (hOW3.from_ gw e.symm).1; omega))
                            exact h1.trans hbxL
                          have HIh := Lib.hid (HIH.out W4 A3 c3 hbx4 hO4.row (fun g e => by have := (hO4.from_ g e).1; omega) (hbdD.trans hx4.bel))
                          clear hOW3 hRW3 hg4 hbxL hbx4
                          refine regT_one 9 _ (by kernel_rfl) rfl ?_
                          intro K hK
                          go_simp
                          with_reducible refine HIh.out.mono ?_
                          rintro e W5 ⟨CB, cn, cb, rfl, hkw5, hbx5, hac5⟩
                          have hx5 := hx4.trans hkw5 (.inl rfl)
                          have hac6 := hac5.mono hx4.size
                          refine hK.out _ _ (fun _ => hx5) ?_
                          clear hK K HIh hac5 hkw5
                          try simp only [Act.put, List.setIfInBounds_toArray, List.set_cons_zero, List.set_cons_succ]
                          refine regT_take (i := 10) (d := some 117) (v := ?_) [] hx5 rfl rfl (by kernel_rfl) (by kernel_rfl) (by kernel_rfl) (by kernel_rfl) (by kernel_rfl) (by decide) (fun _ _ _ h => h) (Or.inl ⟨by rfl, ?_⟩) ?_
                          rotate_left
                          · intro w' hx; (go_simp <;> with_reducible rfl)
                          simp only [Act.put, List.setIfInBounds_toArray, List.set_cons_zero, List.set_cons_succ]
                          refine regT_take (i := 11) (d := some 128) (v := ?_) [] hx5 rfl rfl (by kernel_rfl) (by kernel_rfl) (by kernel_rfl) (by kernel_rfl) (by kernel_rfl) (by decide) (fun _ _ _ h => h) (Or.inl ⟨by rfl, ?_⟩) ?_
                          rotate_left
                          · intro w' hx; (go_simp <;> with_reducible rfl)
                          simp only [Act.put, List.setIfInBounds_toArray, List.set_cons_zero, List.set_cons_succ]
                          refine regT_take (i := 12) (d := some 129) (v := ?_) [] hx5 rfl rfl (by kernel_rfl) (by kernel_rfl) (by kernel_rfl) (by kernel_rfl) (by kernel_rfl) (by decide) (fun _ _ _ h => h) (Or.inl ⟨by rfl, ?_⟩) ?_
                          rotate_left
                          · intro w' hx; (go_simp <;> with_reducible rfl)
                          simp only [Act.put, List.setIfInBounds_toArray, List.set_cons_zero, List.set_cons_succ]
                          refine regT_take (i := 13) (d := some 20) (v := ?_) [] hx5 rfl rfl (by kernel_rfl) (by kernel_rfl) (by kernel_rfl) (by kernel_rfl) (by kernel_rfl) (by decide) (fun _ _ _ h => h) (Or.inl ⟨by rfl, ?_⟩) ?_
                          rotate_left
                          · intro w' hx; (go_simp <;> with_reducible rfl)
                          simp only [Act.put, List.setIfInBounds_toArray, List.set_cons_zero, List.set_cons_succ]
                          refine regT_one 14 _ (by kernel_rfl) rfl ?_
                          intro K hK
                          go_simp
                          refine hK.out _ _ (fun h => absurd h (by decide)) ?_
                          clear hK K
                          refine regT_done (by kernel_rfl) ?_ _
                          go_wp2_with fail
                          go_meet
                          case rel => exact ⟨CB, cn, cb, rfl, rfl, rfl, hkw50.trans hx5 (.inl rfl), hbx5, hac6.mono (by omega)⟩
                      · intro K hK
                        go_simp
                        have hAW1 := (Below.refl V.heap.size V).alloc (Nat.le_refl _) (.cells #[.int .i64 (i : Int)] 3)
                        have hx1 : KW gw none V (V.alloc (.cells #[.int .i64 (i : Int)] 3)) := hx0.trans (KW.of (gw := gw) (WA := none) hAW1 (by have := hx0.size; omega)) (.inl rfl)
                        have hRW1 : Row (V.alloc (.cells #[.int .i64 (i : Int)] 3)) (some ⟨V.heap.size, 0, none⟩) 1 (cellsOf .i64 [(i : Int)]) := row_one V .i64 (i : Int) 3
                        have hszW1 : V.heap.size + 1 ≤ (V.alloc (.cells #[.int .i64 (i : Int)] 3)).heap.size := by simp
                        refine hK.out _ _ (fun _ => hx1) ?_
                        clear hK K
                        try simp only [Act.put, List.setIfInBounds_toArray, List.set_cons_zero, List.set_cons_succ]
                        generalize hqW1 : V.alloc (.cells #[.int .i64 (i : Int)] 3) = W1 at *
                        refine regT_one 3 _ (by kernel_rfl) rfl ?_
                        intro K hK
                        go_simp
                        have hAW2 := (Below.refl W1.heap.size W1).alloc (Nat.le_refl _) (.cells #[] 3)
                        have hx2 : KW gw none V (W1.alloc (.cells #[] 3)) := hx1.trans (KW.of (gw := gw) (WA := none) hAW2 (by have := hx1.size; omega)) (.inl rfl)
                        have hEW2 : Own 3 .i64 (W1.alloc (.cells #[] 3)) V.heap.size (some ⟨W1.heap.size, 0, none⟩) 0 0 [] := own_emptyW 3 .i64 W1 V.heap.size hx1.size
                        have hszW2 : W1.heap.size + 1 ≤ (W1.alloc (.cells #[] 3)).heap.size := by simp
                        refine hK.out _ _ (fun _ => hx2) ?_
                        clear hK K
                        try simp only [Act.put, List.setIfInBounds_toArray, List.set_cons_zero, List.set_cons_succ]
                        generalize hqW2 : W1.alloc (.cells #[] 3) = W2 at *
                        have hRW2 := hRW1.below hAW2
                        have hbx2 := (hAW2.block gw (by omega)).trans ((hAW1.block gw (by omega)).trans hbxD)
                        refine regT_one 5 _ (by kernel_rfl) rfl ?_
                        intro K hK
                        refine step_append_row rfl (.tmp 121) (.tmp 122) _ rfl 3 .i64 V.heap.size i0 8 Try.underlying71 hi hz0 hz1 hz2 (some ⟨W1.heap.size, 0, none⟩) 0 0 [] rfl hEW2 WA wn wc way rfl (HWay.out _ (hwsD.trans hx2 (.inl rfl))) (by omega) (by omega) hx2.size ?_
                        intro A2 c2 W3 hOW3 hgW3
                        have hx3 : KW gw none V W3 := KW.appW hx2 hgW3 (by omega) (fun g e => by simp [blockOf] at e; have := hx2.size; omega)
                        refine hK.out _ _ (fun _ => hx3) ?_
                        clear hK K
                        simp only [Act.put, List.setIfInBounds_toArray, List.set_cons_zero, List.set_cons_succ]
                        have hbxL := (hgW3.block gw (by omega) (by simp [blockOf]; omega)).trans hbx2
                        have hRW3 := hRW2.grown hgW3 (fun g e => by simp [blockOf] at e ⊢; omega)
                        simp only [List.nil_append, Nat.zero_add] at hOW3 ⊢
                        refine regT_one 8 _ (by kernel_rfl) rfl ?_
                        intro K hK
                        refine step_append_row rfl (.tmp 123) (.tmp 125) _ rfl 3 .i64 V.heap.size i0 8 Try.underlying71 hi hz0 hz1 hz2 A2 wn c2 way rfl hOW3 (some ⟨V.heap.size, 0, none⟩) 1 1 [(i : Int)] rfl hRW3 (by omega) (by omega) hx3.size ?_
                        intro A3 c3 W4 hO4 hg4
                        have hx4 : KW gw none V W4 := KW.appW hx3 hg4 (by omega) (fun g e => (hOW3.from_ g e).1)
                        refine hK.out _ _ (fun _ => hx4) ?_
                        clear hK K
                        simp only [Act.put, List.setIfInBounds_toArray, List.set_cons_zero, List.set_cons_succ]
                        have hbx4 : W4.heap[gw]? = some (.cells #[.slice (some ⟨gg, off, none⟩) gn gc, .int .i64 (mr : Nat), .int .i64 (qr : Nat)] 104 (0, 0)) := by
                          have h1 := (hg4.block gw (by have := hx3.size; omega) (fun e => by have := (hOW3.from_ gw e.symm).1; omega))
                          exact h1.trans hbxL
                        have HIh := Lib.hid (HIH.out W4 A3 c3 hbx4 hO4.row (fun g e => by have := (hO4.from_ g e).1; omega) (hbdD.trans hx4.bel))
                        clear hOW3 hRW3 hg4 hbxL hbx4
                        refine regT_one 9 _ (by kernel_rfl) rfl ?_
                        intro K hK
                        go_simp
                        with_reducible refine HIh.out.mono ?_
                        rintro e W5 ⟨CB, cn, cb, rfl, hkw5, hbx5, hac5⟩
                        have hx5 := hx4.trans hkw5 (.inl rfl)
                        have hac6 := hac5.mono hx4.size
                        refine hK.out _ _ (fun _ => hx5) ?_
                        clear hK K HIh hac5 hkw5
                        try simp only [Act.put, List.setIfInBounds_toArray, List.set_cons_zero, List.set_cons_succ]
                        refine regT_take (i := 10) (d := some 117) (v := ?_) [] hx5 rfl rfl (by kernel_rfl) (by kernel_rfl) (by kernel_rfl) (by kernel_rfl) (by kernel_rfl) (by decide) (fun _ _ _ h => h) (Or.inl ⟨by rfl, ?_⟩) ?_
                        rotate_left
                        · intro w' hx; (go_simp <;> with_reducible rfl)
                        simp only [Act.put, List.setIfInBounds_toArray, List.set_cons_zero, List.set_cons_succ]
                        refine regT_take (i := 11) (d := some 128) (v := ?_) [] hx5 rfl rfl (by kernel_rfl) (by kernel_rfl) (by kernel_rfl) (by kernel_rfl) (by kernel_rfl) (by decide) (fun _ _ _ h => h) (Or.inl ⟨by rfl, ?_⟩) ?_
                        rotate_left
                        · intro w' hx; (go_simp <;> with_reducible rfl)
                        simp only [Act.put, List.setIfInBounds_toArray, List.set_cons_zero, List.set_cons_succ]
                        refine regT_take (i := 12) (d := some 129) (v := ?_) [] hx5 rfl rfl (by kernel_rfl) (by kernel_rfl) (by kernel_rfl) (by kernel_rfl) (by kernel_rfl) (by decide) (fun _ _ _ h => h) (Or.inl ⟨by rfl, ?_⟩) ?_
                        rotate_left
                        · intro w' hx; (go_simp <;> with_reducible rfl)
                        simp only [Act.put, List.setIfInBounds_toArray, List.set_cons_zero, List.set_cons_succ]
                        refine regT_take (i := 13) (d := some 20) (v := ?_) [] hx5 rfl rfl (by kernel_rfl) (by kernel_rfl) (by kernel_rfl) (by kernel_rfl) (by kernel_rfl) (by decide) (fun _ _ _ h => h) (Or.inl ⟨by rfl, ?_⟩) ?_
                        rotate_left
                        · intro w' hx; (go_simp <;> with_reducible rfl)
                        simp only [Act.put, List.setIfInBounds_toArray, List.set_cons_zero, List.set_cons_succ]
                        refine regT_one 14 _ (by kernel_rfl) rfl ?_
                        intro K hK
                        go_simp
                        refine hK.out _ _ (fun h => absurd h (by decide)) ?_
                        clear hK K
                        refine regT_done (by kernel_rfl) ?_ _
                        go_wp2_with fail
                        go_meet
                        case rel => exact ⟨CB, cn, cb, rfl, rfl, rfl, hkw50.trans hx5 (.inl rfl), hbx5, hac6.mono (by omega)⟩
                    case rest =>
                      clear HIH HWay
                      obtain ⟨CB, cn, cb, rfl, rfl, rfl, hkwc, hbxC, hacC⟩ := hcut
                      have hkC := hkWA.trans hkwc (.inl rfl)
                      have hTw : Typed V5 gw 104 := ⟨_, hbxA⟩
                      have hTp : Typed V5 bp 138 := ⟨_, hkP⟩
                      have haccC : AccT 56 106 wc V2.heap.size DA dn dc acc := haccA.keep hkwc.size fun g t hg ht => hkwc.kept g hg.lt (hg.ne hTw (by rcases ht with rfl | rfl <;> decide)) (by simp [blockOf])
                      have hkPC : wc.heap[bp]? = some (.cells #[.int .i64 pf, .int .i64 pi, .int .i64 px, .int .i64 py, .int .i64 xx, .int .i64 xy, .int .i64 yx, .int .i64 yy] 138 (0, 0)) := (hkwc.kept bp hbpl hbpn (by simp [blockOf])).trans hkP
                      have hrowC := hrowA.keep hkwc.size fun g hg hgl => hkwc.kept g hgl (rowRt_ne hrowA (by omega) hbxA g hg) (by simp [blockOf])
                      obtain ⟨re, rcs, rm, rq⟩ := R
                      simp only at hbxC hacC
                      obtain ⟨hvo1, hvo2, hvo3, hvo4, hvo5⟩ := Hvok.out
                      simp only at hvo1 hvo2 hvo3 hvo4 hvo5
                      by_cases he : re = 0
                      · subst he
                        have HPs2 : Hid (partsZ (visitZ L k (way ++ [(i : Int)])) (ps.drop (jj + 1)) (acc ++ rcs.map (mvC ⟨pf, pi, px, py, xx, xy, yx, yy⟩)) rm rq = visitZ L (k + 1) way (i : Int) m q) := by
                          show _ = _
                          have h := HPs.out
                          simp only [if_true] at h
                          exact h.symm
                        have hbxD := hbxC rfl
                        clear HPs hbxC hbxA hkP hrowA
                        have hDA : ∀ g, blockOf DA = some g → g < V5.heap.size := fun g hg => by
                          obtain ⟨S, hSo, _⟩ := haccA
                          exact (hSo.from_ g hg).2
                        have hlr : LR wc DA CB cn rcs := by
                          obtain ⟨S, hSo, hSi⟩ := hacC
                          exact ⟨⟨S, hSo.row encSl_len, hSi⟩, hSo.typed, fun g hg e => by
                            have h1 := (hSo.from_ g hg).1
                            have h2 := hDA g e
                            omega⟩
                        have hVc : V2.heap.size ≤ wc.heap.size := by have := hkwc.size; have := hkWA.size; omega
                        have hm3 := hvo3 hm2'
                        have hq3 := hvo4 hq2 rfl
                        have hll := hlr.len
                        have hdn5 : dn + cn ≤ 655340000 := by omega
                        have hgtV := HQ.out (by omega) gt rfl
                        clear haccA hDA hacC hkwc hTw hTp HErr
                        go_wp2_with fail
                        go_loopw [17, 135] (fun a i2 w3 => ∃ (j3 : Nat) (D2 : Option Addr) (dn2 dc2 : Nat), j3 ≤ cn ∧ i2 = .int .i64 j3 ∧ a = .slice D2 dn2 dc2 ∧ dn2 = dn + j3 ∧ KW gw none ws w3 ∧ w3.heap[gw]? = some (.cells #[.slice (some ⟨gg, off, none⟩) gn gc, .int .i64 (rm : Nat), .int .i64 (rq : Nat)] 104 (0, 0)) ∧ AccT 56 106 w3 V2.heap.size D2 dn2 dc2 (acc ++ (rcs.take j3).map (mvC ⟨pf, pi, px, py, xx, xy, yx, yy⟩)) ∧ V2.heap.size ≤ w3.heap.size ∧ RowS encRt 8 w3 (some ⟨gt, ot, none⟩) qn ps ∧ LR w3 D2 CB cn rcs ∧ w3.heap[bp]? = some (.cells #[.int .i64 pf, .int .i64 pi, .int .i64 px, .int .i64 py, .int .i64 xx, .int .i64 xy, .int .i64 yx, .int .i64 yy] 138 (0, 0))) (fun _ i2 _ => cn - (intOf i2).toNat)
                        case atStart => exact ⟨0, DA, dn, dc, Nat.zero_le _, rfl, rfl, rfl, hkC, hbxD, by rw [List.take_zero, List.map_nil, List.append_nil]; exact haccC, hVc, hrowC, hlr, hkPC⟩
                        case round =>
                          clear hkC hbxD haccC hrowC hlr hkPC hVc
                          obtain ⟨j3, D2, dn2, dc2, hj3, rfl, rfl, rfl, hk3, hbx3, hacc3, hV3, hrow3, hlr3, hkP3⟩ := hrel
                          obtain ⟨wo, rfl⟩ : ∃ wo, wo = wr := ⟨_, rfl⟩
                          by_cases hlt3 : j3 < cn
                          · obtain ⟨c', hc'⟩ : ∃ c', rcs[j3]? = some c' := ⟨_, List.getElem?_eq_getElem (by omega)⟩
                            obtain ⟨g2, o2, MA0, mn0, mk0, rfl, hg2, hcell2, hcrow, hck⟩ := hlr3.at hc'
                            obtain ⟨hcl', hcn'⟩ := Hnear.out c' (List.mem_of_getElem? hc')
                            have hmt := map_take (f := mvC ⟨pf, pi, px, py, xx, xy, yx, yy⟩) hc'
                            have hcrl := hcrow.len
                            have hpx := Hpo.out.x
                            have hpy := Hpo.out.y
                            have hxx := Hpo.out.xx
                            have hxy := Hpo.out.xy
                            have hyx := Hpo.out.yx
                            have hyy := Hpo.out.yy
                            simp only at hpx hpy hxx hxy hyx hyy
                            have HAp : Hid (∀ (x y : Int) (on : Bool) (W : World), NearP (x, y, on) → Calls Try.prog 23 #[.agg #[.int .i64 xx, .int .i64 xy, .int .i64 yx, .int .i64 yy], ptV x y on, .int .i64 px, .int .i64 py] W fun e w' => e = .returned (ptV (rnd (xx * x + yx * y) + px) (rnd (xy * x + yy * y) + py) on) ∧ Below W.heap.size W w') := Lib.hid fun x y on W hn => rapply_any xx xy yx yy x y on px py W hxx.1 hxx.2 hxy.1 hxy.2 hyx.1 hyx.2 hyy.1 hyy.2 hn.1.1 hn.1.2 hn.2.1 hn.2.2 (by omega) (by omega) (by omega) (by omega)
                            unfold ptV at HAp
                            have HC := Lib.hid hcrow
                            have HCn := Lib.hid hcn'
                            clear hc' hcrow hcn' hpx hpy hxx hxy hyx hyy
                            go_wp2_with fail
                            go_loopw [24, 141] (fun l' i4 w4 => ∃ (a : Nat) (LA : Option Addr) (lc : Nat), a ≤ mn0 ∧ i4 = .int .i64 a ∧ l' = .slice LA a lc ∧ OwnS 56 encRp 3 w4 wo.heap.size LA a lc ((c'.take a).map (moveP xx xy yx yy px py)) ∧ Below wo.heap.size wo w4) (fun _ i4 _ => mn0 - (intOf i4).toNat)
                            case atStart => exact ⟨0, none, 0, Nat.zero_le _, rfl, rfl, OwnS.nil _ _ _ _ _, Below.refl _ _⟩
                            case round =>
                              obtain ⟨a, LA, lc, ha, rfl, rfl, hown, hb4⟩ := hrel
                              by_cases hlt4 : a < mn0
                              · obtain ⟨p4, hp4⟩ : ∃ p4, c'[a]? = some p4 := ⟨_, List.getElem?_eq_getElem (by omega)⟩
                                obtain ⟨gs, os, rfl, hgs, q0, q1, q2⟩ := atRp (HC.out.below hb4) hp4
                                have hnp := HCn.out p4 (List.mem_of_getElem? hp4)
                                obtain ⟨qx, qy, qo⟩ := p4
                                simp only at q0 q1 q2
                                have hmt4 : (c'.take (a + 1)).map (moveP xx xy yx yy px py) = (c'.take a).map (moveP xx xy yx yy px py) ++ [(rnd (xx * qx + yx * qy) + px, rnd (xy * qx + yy * qy) + py, qo)] := by
                                  rw [List.take_add_one, hp4, List.map_append]
                                  rfl
                                have HAq := Lib.hid fun W => HAp.out qx qy qo W hnp
                                have hA4 := (Below.refl wr.heap.size wr).alloc (Nat.le_refl _) (.cells #[.int .i64 qx, .int .i64 qy, .bool qo] 56)
                                have hkq := heap_alloc_new wr (.cells #[.int .i64 qx, .int .i64 qy, .bool qo] 56)
                                have hkP4 := kept_block (kept_block hkP3 hb4) hA4
                                have hown4 := hown.below hA4
                                have hb5 := hb4.trans (hA4.mono hb4.size)
                                clear hp4 hnp hown
                                go_upto_region 43 with fail
                                generalize hbq : wr.heap.size = bq at *
                                generalize wr.alloc (.cells #[.int .i64 qx, .int .i64 qy, .bool qo] 56) = V6 at *
                                obtain ⟨e0, e1, e2, e3, e4, e5, e6, e7⟩ := cells8 hkP4
                                obtain ⟨k0, k1, k2⟩ := cells3W hkq
                                clear q0 q1 q2 hkP4 hkq hb4 hA4
                                go_wp2_with fail
                                with_reducible refine (HAq.out _).mono ?_
                                rintro e W5 ⟨rfl, hb7⟩
                                clear HAq e0 e1 e2 e3 e4 e5 e6 e7 k0 k1 k2
                                generalize rnd (xx * qx + yx * qy) + px = X at *
                                generalize rnd (xy * qx + yy * qy) + py = Y at *
                                have hA8 := (Below.refl W5.heap.size W5).alloc (Nat.le_refl _) (.cells #[.int .i64 X, .int .i64 Y, .bool qo] 56)
                                have hown8 := (hown4.below hb7).below hA8
                                have Hown8 := Lib.hid hown8
                                have hrow8 : RowS encRp 3 (W5.alloc (.cells #[.int .i64 X, .int .i64 Y, .bool qo] 56)) (some ⟨W5.heap.size, 0, none⟩) 1 [(X, Y, qo)] := rowS_vals encRp_len W5 56 [(X, Y, qo)] _ rfl 1 rfl
                                have hb8 := (hb5.trans (hb7.mono hb5.size)).trans (hA8.mono (hb5.trans (hb7.mono hb5.size)).size)
                                have Hsz8 := Lib.hid hb8.size
                                have Hmt4 := Lib.hid hmt4
                                clear hown4 hb5 hb7 hA8 hmt4
                                go_wp2_with (at_builtin; refine wpList_append_atS rfl (.tmp 145) (.tmp 154) _ rfl 56 encRp 3 encRp_len (by omega) encRp_one wo.heap.size i1 _ 24 Try.underlying106 hi1 hz01 hz11 rfl hz21 LA a lc _ rfl Hown8.out (some ⟨W5.heap.size, 0, none⟩) 1 1 [(X, Y, qo)] rfl hrow8 (by omega) (by omega) (by omega) Hsz8.out ?_)
                                intro A4 c4 w9 hown9 hg9 _
                                have hownT : OwnS 56 encRp 3 w9 wo.heap.size A4 (a + 1) c4 ((c'.take (a + 1)).map (moveP xx xy yx yy px py)) := by rw [Hmt4.out, List.map_take]; exact hown9
                                have hb9 := hb8.grown hg9 hb8.size (fun k e => (Hown8.out.from_ k e).1)
                                have H9 := Lib.hid hownT
                                have B9 := Lib.hid hb9
                                clear hown9 hownT hb9 hg9 hown8 Hown8 hrow8 hb8 Hsz8 Hmt4
                                go_wp2_with fail
                                go_roundw
                                case rel => exact ⟨a + 1, A4, c4, by omega, by go_num, rfl, H9.out, B9.out⟩
                                case measure => simp [intOf]; omega
                              · obtain rfl : a = mn0 := by omega
                                rw [List.take_of_length_le (by omega)] at hown
                                have hA7 := (Below.refl wr.heap.size wr).alloc (Nat.le_refl _) (.cells #[.slice LA a lc] 106)
                                have hb47 := hb4.trans (hA7.mono hb4.size)
                                have hk7 := hk3.trans (KW.of (gw := gw) (WA := none) hb47 (Nat.le_of_lt (lt_of_block hbx3))) (.inl rfl)
                                have hbx7 := kept_block (kept_block hbx3 hb4) hA7
                                have hkP7 := kept_block (kept_block hkP3 hb4) hA7
                                have hrow7 := (hrow3.below hb4).below hA7
                                have hlr7 := (hlr3.below hb4).below hA7
                                have hmr : RowS encRp 3 (wr.alloc (.cells #[.slice LA a lc] 106)) LA a (mvC ⟨pf, pi, px, py, xx, xy, yx, yy⟩ c') := (hown.row encRp_len).below hA7
                                have hmty : ∀ g, blockOf LA = some g → Typed (wr.alloc (.cells #[.slice LA a lc] 106)) g 56 := fun g hg => ((hown.typed g hg)).keep (hA7.block g (hown.typed g hg).lt)
                                obtain ⟨S, hSo, hSi⟩ := (hacc3.below hb4).below hA7
                                have HSo := Lib.hid hSo
                                have hrowN : RowS encSl 1 (wr.alloc (.cells #[.slice LA a lc] 106)) (some ⟨wr.heap.size, 0, none⟩) 1 [(LA, a, lc)] := rowS_vals encSl_len wr 106 [(LA, a, lc)] _ rfl 1 rfl
                                have hVw : V2.heap.size ≤ (wr.alloc (.cells #[.slice LA a lc] 106)).heap.size := by have := hb4.size; simp; omega
                                have hszA : wr.heap.size + 1 = (wr.alloc (.cells #[.slice LA a lc] 106)).heap.size := by simp
                                have HszA := Lib.hid hszA
                                have HVw := Lib.hid hVw
                                clear hk3 hbx3 hkP3 hrow3 hlr3 hacc3 hb4 hb47 hszA hVw HAp HC HCn
                                go_wp2_with (at_builtin; refine wpList_append_atS rfl (.tmp 157) (.tmp 159) _ rfl 106 encSl 1 encSl_len (by omega) encSl_one V2.heap.size i2 _ 24 Try.underlying30 hi2 hz02 hz12 rfl hz22 D2 (dn + j3) dc2 S rfl HSo.out (some ⟨wr.heap.size, 0, none⟩) 1 1 [(LA, a, lc)] rfl hrowN (by omega) (by omega) (by omega) HVw.out ?_)
                                intro D3 dc3 w8 hown8 hg8 hb8
                                have hfr : ∀ g, blockOf D2 = some g → V2.heap.size ≤ g := fun g e => (hSo.from_ g e).1
                                have hk8 := KW.appW hk7 hg8 hlt (fun g e => Nat.le_trans hsV (hfr g e))
                                have hbx8 := (hg8.block gw (lt_of_block hbx7) (fun e => by have := hfr gw e.symm; omega)).trans hbx7
                                have hacc8 := AccT.push (by decide) hSo hSi hown8 hg8 hmr hown.cap hmty
                                rw [List.append_assoc, ← hmt] at hacc8
                                have hrow8 := hrow7.keep hg8.size (fun g hg hgl => hg8.block g hgl (fun e => by have := hfr g e.symm; simp [blockOf] at hg; omega))
                                have hlr8 : LR w8 D3 (some ⟨g2, o2, none⟩) cn rcs := hlr7.push hSo hg8 (by rw [← HszA.out]; exact hb8)
                                have hkP8 := (hg8.block bp (lt_of_block hkP7) (fun e => (Typed.ne ⟨_, hkP7⟩ (hSo.typed bp e.symm) (by decide)) rfl)).trans hkP7
                                have hV8 := Nat.le_trans HVw.out hg8.size
                                have X1 := Lib.hid hk8
                                have X2 := Lib.hid hbx8
                                have X3 := Lib.hid hacc8
                                have X4 := Lib.hid hrow8
                                have X5 := Lib.hid hlr8
                                have X6 := Lib.hid hkP8
                                have X7 := Lib.hid hV8
                                clear hk8 hbx8 hacc8 hrow8 hlr8 hkP8 hV8 hfr hSo hSi HSo hrowN hmr hmty hown8 hg8 hb8 hk7 hbx7 hkP7 hrow7 hlr7 hA7 hown
                                go_wp2_with fail
                                go_roundw
                                case rel => exact ⟨j3 + 1, D3, dn + j3 + 1, dc3, by omega, by go_num, rfl, by omega, X1.out, X2.out, X3.out, X7.out, X4.out, X5.out, X6.out⟩
                                case measure => simp [intOf]; omega
                          · obtain rfl : j3 = cn := by omega
                            rw [List.take_of_length_le (by omega)] at hacc3
                            clear hkP3 hlr3 Hnear Hpo
                            go_wp2_with fail
                            go_roundw
                            case rel => exact ⟨jj + 1, D2, dn + j3, dc2, _, rm, rq, by omega, by go_num, rfl, hk3, hbx3, hacc3, hV3, hrow3, HPs2, by omega, hm3, hq3, by omega⟩
                            case measure => simp [intOf]; omega
                      · have hne2 : (re == 0) = false := by simpa using he
                        have HV5 : Hid (visitZ L (k + 1) way (i : Int) m q = (re, [], rm, rq)) := by
                          show _ = _
                          have h := HPs.out
                          simp only [if_neg he] at h
                          exact h
                        have HF := Lib.hid (HErr.out re he (by rw [HV5.out]) wc hkC)
                        clear HPs HErr HV5 hbxC hacC haccC hkPC hrowC
                        go_wp2_with fail
                        exact bodyPost_ret (v := .tuple #[.slice none 0 0, .int .i64 re]) (by simp [results, Try.results45, go_sem]) rfl HF.out
                  · obtain rfl : jj = qn := by omega
                    have HV5 : Hid (visitZ L (k + 1) way (i : Int) m q = (0, acc, mr, qr)) := by
                      show _ = _
                      have h := HPz.out
                      rw [List.drop_of_length_le (by have := hrowR.len; omega)] at h
                      exact h.symm
                    have HF : Hid (RetA (visitZ L (k + 1) way (i : Int) m q) gw (some ⟨gg, off, none⟩) gn gc ws (.returned (.tuple #[.slice DA dn dc, .int .i64 0])) wr) := by
                      rw [HV5.out]
                      exact ⟨DA, dn, dc, rfl, hkW, fun _ => hbxR, hacc.mono hsV⟩
                    clear HErr HV5 HPz hacc hrowR
                    go_wp2_with fail
                    exact bodyPost_ret (v := .tuple #[.slice DA dn dc, .int .i64 0]) (by simp [results, Try.results45, go_sem]) rfl HF.out

end Go.Proofs.Ytdaeffnaoeblpaa

/- flat: the document's Flat, and whether contours are alike, as contracts over this seat's translation. -/
namespace Go.Proofs.Ytdaeffnaoeblpaa
open Go.RowKit
set_option linter.unusedVariables false
set_option linter.unusedSimpArgs false

/-- What the document's Flat leaves. -/
def RetRFlat (w : World) (L : List (List Int)) (id : Int) (e : Ending) (w' : World) : Prop :=
  Below w.heap.size w w' ∧ ∃ CA n c, e = .returned (.tuple #[.slice CA n c, .int .i64 (flatZ L id).1]) ∧ AccT 56 106 w' w.heap.size CA n c (flatZ L id).2.1

set_option maxRecDepth 100000 in
theorem rflat_any (L : List (List Int)) (hL : ptsOk L) (w : World) (GA : Option Addr) (gn gc : Nat) (id : Int) (hG : GlsIn w GA gn L) (hgn : gn ≤ 1000000000000) (hid0 : -9223372036854775808 ≤ id) (hid1 : id ≤ 9223372036854775807) :
    Calls Try.prog 17 #[.slice GA gn gc, .int .i64 id] w (RetRFlat w L id) := by
  have hA := (Below.refl w.heap.size w).alloc (Nat.le_refl _) (.cells #[.slice GA gn gc, .int .i64 0, .int .i64 0] 104)
  have hk := heap_alloc_new w (.cells #[.slice GA gn gc, .int .i64 0, .int .i64 0] 104)
  have HV := Lib.hid (rat_any L hL w gc 18 GA gn [] id 0 0 (w.alloc (.cells #[.slice GA gn gc, .int .i64 0, .int .i64 0] 104)) none 0 0 hG hgn rfl (by decide) hk (Row.empty _ _) (fun g h => by simp [blockOf] at h) hA (by decide) (by decide) hid0 hid1)
  go_enter Try.func17, Try.ntmps17
  go_wp2_with fail
  with_reducible refine HV.out.mono ?_
  rintro e w1 ⟨CA, n, c, rfl, hkw, -, hacc⟩
  have hb := hA.trans hkw.bel
  have hacc2 := hacc.mono hA.size
  clear HV
  go_wp2_with fail
  exact bodyPost_ret (v := .tuple #[.slice CA n c, .int .i64 (flatZ L id).1]) (by simp [results, Try.results17, go_sem]; rfl) rfl ⟨hb, CA, n, c, rfl, hacc2⟩

set_option maxRecDepth 100000 in
set_option maxHeartbeats 4000000 in
/-- The program's contours and the document's, where both are the same lists. -/
theorem same14_any (A B : Option Addr) (n c d : Nat) (S T : List Sl) (cs : List (List Sp)) (w : World) (ha : RowS encSl 1 w A n S) (hi : InT 59 w S cs) (hb : RowS encSl 1 w B n T) (hj : InT 56 w T cs) (hl : n ≤ 1000000000) (hc : ∀ x ∈ cs, x.length ≤ 1000000) :
    Calls Try.prog 18 #[.slice A n c, .slice B n d] w fun e w' => e = .returned (.bool true) ∧ Below w.heap.size w w' := by
  have HI := Lib.hid hi
  have HJ := Lib.hid hj
  have HC := Lib.hid hc
  have Ha := Lib.hid ha
  have Hb := Lib.hid hb
  have Hl : Hid (cs.length = n) := by show _ = _; rw [← hi.1]; exact ha.len
  have hne : ((n : Int) != (n : Int)) = false := by simp
  clear hi hj hc ha hb
  go_enter Try.func18, Try.ntmps18
  go_wp2_with fail
  clear hne
  go_loopw [15] (fun i wr => ∃ k : Nat, k ≤ n ∧ i = .int .i64 k ∧ Below w.heap.size w wr) (fun i _ => n - (intOf i).toNat)
  case atStart => exact ⟨0, Nat.zero_le _, rfl, Below.refl _ _⟩
  case round =>
    obtain ⟨k, hk, rfl, hbel⟩ := hrel
    by_cases hlt : k < n
    · obtain ⟨s, hs⟩ : ∃ s, S[k]? = some s := ⟨_, List.getElem?_eq_getElem (by have := Ha.out.len; omega)⟩
      obtain ⟨t, ht⟩ : ∃ t, T[k]? = some t := ⟨_, List.getElem?_eq_getElem (by have := Hb.out.len; omega)⟩
      obtain ⟨x, hx⟩ : ∃ x, cs[k]? = some x := ⟨_, List.getElem?_eq_getElem (by have := Hl.out; omega)⟩
      obtain ⟨g, off, rfl, hg, hcell⟩ := atSl (Ha.out.below hbel) hs
      obtain ⟨g', off', rfl, hg', hcell'⟩ := atSl (Hb.out.below hbel) ht
      obtain ⟨r1, r2, _⟩ := HI.out.2 k s x hs hx
      obtain ⟨r3, r4, _⟩ := HJ.out.2 k t x ht hx
      have hxl := HC.out x (List.mem_of_getElem? hx)
      have hr1 := r1.below hbel
      have hr3 := r3.below hbel
      have hl1 := hr1.len
      have hl3 := hr3.len
      obtain ⟨sa, sn, sc⟩ := s
      obtain ⟨ta, tn, tc⟩ := t
      simp only at hcell hcell' hr1 hr3 hl1 hl3 r2 r4
      obtain rfl : sn = tn := by omega
      have hne2 : ((sn : Int) != (sn : Int)) = false := by simp
      have i0 : (0 : Int) ≤ (k : Int) := by omega
      have i1 : (k : Int) < (n : Int) := by omega
      have Hr1 := Lib.hid hr1
      have Hr3 := Lib.hid hr3
      clear hs ht hx r1 r3 hr1 hr3
      go_wp2_with fail
      go_quiet (fail)
      go_wp2_with fail
      clear hne2
      have hbe2 : Below w.heap.size w (wr.drewN nq) := below_drewN hbel nq
      have Hr1' : Hid (RowS encRp 3 (wr.drewN nq) sa sn x) := Lib.hid (Hr1.out.drewN nq)
      have Hr3' : Hid (RowS encRp 3 (wr.drewN nq) ta sn x) := Lib.hid (Hr3.out.drewN nq)
      have hcel2 : (wr.drewN nq).cell? ⟨g', off' + k, none⟩ = some (.slice ta sn tc) := hcell'
      have hg2 : g' < (wr.drewN nq).heap.size := hg'
      clear Hr1 Hr3 hcell hcell' hbel hg hg'
      generalize hwd : wr.drewN nq = wd at *
      clear hwd
      go_loopw [34] (fun i w2 => ∃ a : Nat, a ≤ sn ∧ i = .int .i64 a ∧ Below wd.heap.size wd w2) (fun i _ => sn - (intOf i).toNat)
      case atStart => exact ⟨0, Nat.zero_le _, rfl, Below.refl _ _⟩
      case round =>
        obtain ⟨a, haa, rfl, hb2⟩ := hrel
        by_cases hlt2 : a < sn
        · obtain ⟨p, hp⟩ : ∃ p, x[a]? = some p := ⟨_, List.getElem?_eq_getElem (by omega)⟩
          obtain ⟨g1, o1, rfl, hg1, p0, p1, p2⟩ := atRp (Hr1'.out.below hb2) hp
          have hA := (Below.refl wr.heap.size wr).alloc (Nat.le_refl _) (.cells #[.int .i64 p.1, .int .i64 p.2.1, .bool p.2.2] 59)
          have hkq := heap_alloc_new wr (.cells #[.int .i64 p.1, .int .i64 p.2.1, .bool p.2.2] 59)
          have hb3 := hb2.trans (hA.mono hb2.size)
          obtain ⟨g3, o3, rfl, hg3, q0, q1, q2⟩ := atRp (Hr3'.out.below hb3) hp
          have hc3 := (Below.cell hb3 (p := ⟨g', off' + k, none⟩) hg2).trans hcel2
          have j0 : (0 : Int) ≤ (a : Int) := by omega
          have j1 : (a : Int) < (sn : Int) := by omega
          obtain ⟨p1x, p2x, p3x⟩ := p
          simp only at p0 p1 p2 q0 q1 q2 hA hkq hb3 hc3
          clear hp
          go_upto_region 11 with fail
          generalize wr.alloc (.cells #[.int .i64 p1x, .int .i64 p2x, .bool p3x] 59) = V at *
          obtain ⟨k0, k1, k2⟩ := cells3W hkq
          clear p0 p1 p2
          go_wp2_with fail
          go_quiet (fail)
          go_wp2_with fail
          go_roundw
          case rel => exact ⟨a + 1, by omega, by go_num, below_drewN hb3 _⟩
          case measure => simp [intOf]; omega
        · obtain rfl : a = sn := by omega
          go_wp2_with fail
          go_roundw
          case rel => exact ⟨k + 1, by omega, by go_num, hbe2.trans (hb2.mono hbe2.size)⟩
          case measure => simp [intOf]; omega
    · obtain rfl : k = n := by omega
      go_wp2_with fail
      go_ret
      exact ⟨rfl, hbel⟩

end Go.Proofs.Ytdaeffnaoeblpaa

/- Slices of slices of bytes that come in. -/
namespace Go.Proofs.Ytdaeffnaoeblpaa
open Go.RowKit Go.ChangeShapes Go.WideShapes Go.ChangeAt
set_option linter.unusedVariables false

/-- Slices of bytes that came in: each reads as bytes. -/
def PartsOf (w : World) (a : Option Addr) (n : Nat) (ps : List BsV) : Prop := Row w a n (ps.map BsV.val) ∧ n ≤ 9223372036854775807 ∧ ∀ p ∈ ps, p.ok w ∧ Bytes p.ys ∧ p.n ≤ 9223372036854775807

theorem block_lt {w : World} {a : Addr} {v : Value} (h : w.cell? a = some v) : a.block < w.heap.size := by
  rcases Nat.lt_or_ge a.block w.heap.size with hlt | hge
  · exact hlt
  · simp [World.cell?, Array.getElem?_eq_none hge] at h

theorem spot_none {w : World} {x : Addr} {v : Value} (h : w.cell? (x.add 0) = some v) : ∃ b off, x = ⟨b, off, none⟩ := by
  obtain ⟨b, off, spot⟩ := x
  have hs : spot = none := by simpa [Addr.add] using World.cell?_spot h
  subst hs
  exact ⟨b, off, rfl⟩

/-- From what the reading of the argument gives. -/
theorem parts_of {w : World} {base : Nat} {x : Addr} {len cap : Nat} {A : Nat → Option Addr} {L C : Nat → Nat} {Z : Nat → List Int} (hl : len ≤ cap) (hm : cap ≤ maxLen)
    (h : ∀ r, r < cap → w.cell? (x.add r) = some (.slice (A r) (L r) (C r)) ∧ L r ≤ C r ∧ C r ≤ maxLen ∧ (Z r).length = C r ∧ (∀ n ∈ Z r, (Lit.int .u8 n).wf = true) ∧ (A r = none → C r = 0) ∧
      ∀ a', A r = some a' → base ≤ a'.block ∧ ∀ c, c < C r → w.cell? (a'.add c) = some (.int .u8 ((Z r).getD c 0))) :
    PartsOf w (some x) len ((List.range len).map fun r => ⟨A r, L r, C r, (Z r).take (L r)⟩) := by
  simp only [maxLen] at hm
  refine ⟨⟨by simp, fun hp => ?_⟩, by omega, ?_⟩
  · obtain ⟨b, off, rfl⟩ := spot_none (h 0 (by omega)).1
    refine ⟨b, off, rfl, block_lt (a := (⟨b, off, none⟩ : Addr).add 0) (h 0 (by omega)).1, fun j u hu => ?_⟩
    have hj : j < len := by have := (List.getElem?_eq_some_iff.1 hu).1; simpa using this
    have hc := (h j (by omega)).1
    rw [Addr.add_lit] at hc
    rw [hc]
    simp [hj, BsV.val] at hu
    rw [← hu]
  · intro p hp
    simp only [List.mem_map, List.mem_range] at hp
    obtain ⟨r, hr, rfl⟩ := hp
    obtain ⟨hc, h1, h2, h3, h4, h5, h6⟩ := h r (by omega)
    have hrow := row_of (k := .u8) (w := w) (a := A r) (len := L r) (cap := C r) (zs := Z r) (by
      cases hA : A r with
      | none =>
        have := h5 hA
        exact .inl ⟨rfl, by omega, this, List.eq_nil_of_length_eq_zero (by omega)⟩
      | some a' => exact .inr ⟨a', rfl, h1, h2, h3, fun i hi => (h6 a' hA).2 i (by omega), h4⟩)
    exact ⟨hrow.1, bytes_of hrow.2.2, hrow.2.1⟩

theorem parts_none (w : World) : PartsOf w none 0 [] := ⟨Row.empty _ _, by omega, fun p hp => by cases hp⟩

set_option maxRecDepth 100000 in
theorem open_bss {H : Type} {enc : TypeId × Value → H} {W : World} {base : Nat} {v : Value} {d : DataW H} {p : List MemPlace} (hv : Value.okWide Try.prog W .any base 22 v) (h : DataW.Trod enc Try.prog W 0 (fun _ => true) true 22 v d p) :
    ∃ A n c ps, v = .slice A n c ∧ PartsOf W A n ps := by
  obtain ⟨a, len, cap, rfl⟩ := okWide_slice Try.underlying22 hv
  obtain ⟨fuel, hf⟩ := h
  rcases Go.Deep.open_int_rows Try.underlying22 Try.underlying42 Try.underlying5 (by kernel_rfl) (by kernel_rfl) hf with ⟨hcs, _⟩ | ⟨x, l, c, A', L', C', Z', hcs, _, hl, hm, _, hrows⟩
  · simp [Value.cells] at hcs
    obtain ⟨rfl, rfl, rfl⟩ := hcs
    exact ⟨_, _, _, [], rfl, parts_none W⟩
  · simp [Value.cells] at hcs
    obtain ⟨rfl, rfl, rfl⟩ := hcs
    exact ⟨_, _, _, _, rfl, parts_of hl hm hrows⟩

end Go.Proofs.Ytdaeffnaoeblpaa

/- flat: the first glyphs, cut; whether it would take long: as contracts over this seat's translation. -/
namespace Go.Proofs.Ytdaeffnaoeblpaa
open Go.RowKit
set_option linter.unusedVariables false
set_option linter.unusedSimpArgs false

theorem Try.bsinfo14 : (Try.prog.info? 42).map (fun i => (i.zero, i.size, i.bytes)) = some (some (.slice none 0 0), 1, 24) := by kernel_rfl

/-- Glyphs that were cut. -/
def FW (w wr : World) (A : Option Addr) (m c : Nat) (L : List (List Int)) : Prop := ∃ S : List Sl, OwnS 42 encSl 1 wr w.heap.size A m c S ∧ S.length = L.length ∧ ∀ (i : Nat) (s : Sl) (z : List Int), S[i]? = some s → L[i]? = some z → Row wr s.1 s.2.1 (cellsOf .u8 z) ∧ Bytes z ∧ s.2.1 ≤ 160 ∧ s.2.1 ≤ s.2.2 ∧ ∀ g, blockOf s.1 = some g → Typed wr g 5
theorem FW.nil (w wr : World) : FW w wr none 0 0 [] := ⟨[], OwnS.nil _ _ _ _ _, rfl, fun i s z h => by simp at h⟩
theorem FW.keep {wr w' : World} {S : List Sl} {L : List (List Int)} (h : ∀ (i : Nat) (s : Sl) (z : List Int), S[i]? = some s → L[i]? = some z → Row wr s.1 s.2.1 (cellsOf .u8 z) ∧ Bytes z ∧ s.2.1 ≤ 160 ∧ s.2.1 ≤ s.2.2 ∧ ∀ g, blockOf s.1 = some g → Typed wr g 5) (hs : wr.heap.size ≤ w'.heap.size) (hk : ∀ g, Typed wr g 5 → w'.heap[g]? = wr.heap[g]?) :
    ∀ (i : Nat) (s : Sl) (z : List Int), S[i]? = some s → L[i]? = some z → Row w' s.1 s.2.1 (cellsOf .u8 z) ∧ Bytes z ∧ s.2.1 ≤ 160 ∧ s.2.1 ≤ s.2.2 ∧ ∀ g, blockOf s.1 = some g → Typed w' g 5 := fun i s z a b => by
  obtain ⟨h1, h2, h3, h4, h5⟩ := h i s z a b
  exact ⟨h1.keep hs fun g hg _ => hk g (h5 g hg), h2, h3, h4, fun g hg => (h5 g hg).keep (hk g (h5 g hg))⟩
theorem FW.below {w wr w' : World} {A : Option Addr} {m c : Nat} {L : List (List Int)} (h : FW w wr A m c L) (hb : Below wr.heap.size wr w') : FW w w' A m c L := by
  obtain ⟨S, h1, h2, h3⟩ := h
  exact ⟨S, h1.below hb, h2, FW.keep h3 hb.size fun g hg => hb.block g hg.lt⟩
theorem FW.push {w wr w' : World} {A A2 : Option Addr} {m c c2 : Nat} {L : List (List Int)} {S : List Sl} {M : Option Addr} {k k2 : Nat} {z : List Int} (hd : OwnS 42 encSl 1 wr w.heap.size A m c S) (hl : S.length = L.length) (hi : ∀ (i : Nat) (s : Sl) (z : List Int), S[i]? = some s → L[i]? = some z → Row wr s.1 s.2.1 (cellsOf .u8 z) ∧ Bytes z ∧ s.2.1 ≤ 160 ∧ s.2.1 ≤ s.2.2 ∧ ∀ g, blockOf s.1 = some g → Typed wr g 5)
    (ho : OwnS 42 encSl 1 w' w.heap.size A2 (m + 1) c2 (S ++ [(M, k, k2)])) (hg : wr.grownBy w' (blockOf A)) (hr : Row wr M k (cellsOf .u8 z)) (hB : Bytes z) (hk : k ≤ 160) (hk2 : k ≤ k2) (ht : ∀ g, blockOf M = some g → Typed wr g 5) : FW w w' A2 (m + 1) c2 (L ++ [z]) := by
  have hsame : ∀ g, Typed wr g 5 → w'.heap[g]? = wr.heap[g]? := fun g a => hg.block g a.lt fun e => (a.ne (hd.typed g e.symm) (by decide)) rfl
  refine ⟨_, ho, by simp [hl], FW.keep (wr := wr) (fun i s y a b => ?_) hg.size hsame⟩
  rcases Nat.lt_trichotomy i S.length with hlt | rfl | hgt
  · rw [List.getElem?_append_left hlt] at a
    rw [List.getElem?_append_left (by omega)] at b
    exact hi i s y a b
  · rw [List.getElem?_append_right (Nat.le_refl _), Nat.sub_self] at a
    rw [List.getElem?_append_right (by omega), show S.length - L.length = 0 by omega] at b
    simp at a b
    subst a b
    exact ⟨hr, hB, hk, hk2, ht⟩
  · rw [List.getElem?_eq_none (by simp; omega)] at a
    cases a

set_option maxRecDepth 100000 in
set_option maxHeartbeats 4000000 in
theorem few14_any (A : Option Addr) (n c : Nat) (gl : List BsV) (w : World) (hP : PartsOf w A n gl) :
    Calls Try.prog 14 #[.slice A n c] w fun e w' => ∃ A2 m c2 L, e = .returned (.slice A2 m c2) ∧ FW w w' A2 m c2 L ∧ m ≤ 24 ∧ Below w.heap.size w w' := by
  obtain ⟨i0, hi, hz0, hz1, hz2⟩ := info_parts Try.bsinfo14
  obtain ⟨hr, hn, hps⟩ := hP
  have Hn : Hid (gl.length = n) := by have := hr.1; rw [List.length_map] at this; exact this
  have HP := Lib.hid hps
  clear hps
  go_enter Try.func14, Try.ntmps14
  go_wp2_with fail
  go_loopw [3, 8] (fun out i' wr => ∃ (k : Nat) (A2 : Option Addr) (m c2 : Nat) (L : List (List Int)), k ≤ n ∧ i' = .int .i64 k ∧ out = .slice A2 m c2 ∧ FW w wr A2 m c2 L ∧ m ≤ 24 ∧ m ≤ k ∧ Below w.heap.size w wr) (fun _ i' _ => n - (intOf i').toNat)
  case atStart => exact ⟨0, none, 0, 0, [], Nat.zero_le _, rfl, rfl, FW.nil _ _, by omega, by omega, Below.refl _ _⟩
  case round =>
    obtain ⟨k, A2, m, c2, L, hk, rfl, rfl, hF, hm, hmk, hbel⟩ := hrel
    by_cases hlt : k < n
    · obtain ⟨p, hp⟩ : ∃ p, gl[k]? = some p := ⟨gl[k]'(by have := Hn.out; omega), List.getElem?_eq_getElem (by have := Hn.out; omega)⟩
      obtain ⟨g, off, rfl, hg, hc⟩ := (hr.below hbel).at (j := k) (u := p.val) (by simp [hp])
      obtain ⟨pok, pB, pN⟩ := HP.out p (List.mem_of_getElem? hp)
      have hpr : Row wr p.A p.n (cellsOf .u8 p.ys) := (show Row w p.A p.n _ from pok).below hbel
      have HB := Lib.hid pB
      clear hp pok pB
      obtain ⟨pA, pn, pc, pys⟩ := p
      simp only [BsV.val] at hc hpr pN HB
      by_cases hk24 : k < 24
      · have HCut := Lib.hid (cut_any pA pn pc pys 160 wr hpr pN (by omega))
        clear hpr
        go_wp2_with fail
        with_reducible refine HCut.out.mono ?_
        rintro e w1 ⟨A4, n4, c4, rfl, hown4, hb4⟩
        have hn4 : n4 ≤ 160 := by have h := hown4.len; rw [List.length_take] at h; simp at h; omega
        have hA := (Below.refl w1.heap.size w1).alloc (Nat.le_refl _) (.cells #[.slice A4 n4 c4] 42)
        have hb5 := (hbel.trans (hb4.mono hbel.size)).trans (hA.mono (hbel.trans (hb4.mono hbel.size)).size)
        obtain ⟨S, hSo, hSl, hSi⟩ := (hF.below hb4).below hA
        have HSo := Lib.hid hSo
        have hrowN : RowS encSl 1 (w1.alloc (.cells #[.slice A4 n4 c4] 42)) (some ⟨w1.heap.size, 0, none⟩) 1 [(A4, n4, c4)] := rowS_vals encSl_len w1 42 [(A4, n4, c4)] _ rfl 1 rfl
        have hrow4 := hown4.row.below hA
        have hty4 : ∀ g, blockOf A4 = some g → Typed (w1.alloc (.cells #[.slice A4 n4 c4] 42)) g 5 := fun g hg => (hown4.typed g hg).keep (hA.block g (hown4.typed g hg).lt)
        have Hsz := Lib.hid hb5.size
        clear HCut hbel hF
        go_wp2_with (at_builtin; refine wpList_append_rowS rfl (.tmp 15) (.tmp 18) _ rfl 42 encSl 1 encSl_len (by omega) encSl_one w.heap.size i0 _ 24 Try.underlying22 hi hz0 hz1 rfl hz2 A2 m c2 S rfl HSo.out (some ⟨w1.heap.size, 0, none⟩) 1 1 [(A4, n4, c4)] rfl hrowN (by omega) (by omega) Hsz.out ?_)
        intro A5 c5 w5 hown5 hg5
        have hF5 := FW.push hSo hSl hSi hown5 hg5 hrow4 (fun x hx => HB.out x (List.mem_of_mem_take hx)) hn4 hown4.cap hty4
        have hb6 := hb5.grown hg5 hb5.size (fun k e => (hSo.from_ k e).1)
        have F5 := Lib.hid hF5
        have B6 := Lib.hid hb6
        clear hF5 hb6 hown5 hg5 hrow4 hty4 hSo hSl hSi HSo hrowN hown4 hb4 hA hb5
        go_wp2_with fail
        go_roundw
        case rel => exact ⟨k + 1, A5, m + 1, c5, _, by omega, by go_num, rfl, F5.out, by omega, by omega, B6.out⟩
        case measure => simp [intOf]; omega
      · go_wp2_with fail
        go_roundw
        case rel => exact ⟨k + 1, A2, m, c2, L, by omega, by go_num, rfl, hF, by omega, by omega, hbel⟩
        case measure => simp [intOf]; omega
    · obtain rfl : k = n := by omega
      go_wp2_with fail
      go_ret
      exact ⟨A2, m, c2, L, rfl, hF, hm, hbel⟩

set_option maxRecDepth 100000 in
set_option maxHeartbeats 4000000 in
theorem heavy_any (A : Option Addr) (n c : Nat) (L : List (List Int)) (w : World) (hG : GlsIn w A n L) (hn : n ≤ 24) :
    Calls Try.prog 15 #[.slice A n c] w fun e w' => ∃ b, e = .returned (.bool b) ∧ Below w.heap.size w w' := by
  go_enter Try.func15, Try.ntmps15
  go_wp2_with fail
  go_loopw [3, 10] (fun v i' wr => ∃ (k : Nat) (x : Int), k ≤ n ∧ i' = .int .i64 k ∧ v = .int .i64 x ∧ Below w.heap.size w wr) (fun _ i' _ => n - (intOf i').toNat)
  case atStart => exact ⟨0, 1, Nat.zero_le _, rfl, rfl, Below.refl _ _⟩
  case round =>
    obtain ⟨k, x, hk, rfl, rfl, hbel⟩ := hrel
    by_cases hlt : k < n
    · obtain ⟨g, off, A1, n1, c1, rfl, hg, hcell, hrow, hB, hn1, hc1⟩ := (hG.below hbel).at hlt
      have HR := Lib.hid (rparts_any A1 n1 c1 (L.getD k []) wr hrow hB (by omega) hc1)
      clear hrow hB
      go_wp2_with fail
      with_reducible refine HR.out.mono ?_
      rintro e w1 ⟨hb1, PA, pn, pc, rfl, -⟩
      have hb2 := hbel.trans (hb1.mono hbel.size)
      clear HR hbel hb1
      by_cases h1 : 1 < pn
      · by_cases h3 : 3000 < wrap64 (x * (pn : Int))
        · go_wp2_with fail
          go_ret
          exact ⟨true, rfl, hb2⟩
        · go_wp2_with fail
          go_roundw
          case rel => exact ⟨k + 1, wrap64 (x * (pn : Int)), by omega, by go_num, rfl, hb2⟩
          case measure => simp [intOf]; omega
      · go_wp2_with fail
        go_roundw
        case rel => exact ⟨k + 1, x, by omega, by go_num, rfl, hb2⟩
        case measure => simp [intOf]; omega
    · obtain rfl : k = n := by omega
      go_wp2_with fail
      go_ret
      exact ⟨false, rfl, hbel⟩

end Go.Proofs.Ytdaeffnaoeblpaa
