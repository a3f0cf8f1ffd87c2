/- What the laws of this seat lean on: SegD SegY LSegA BsOpen. -/
import Derived.Deep.QuietTactic
import Derived.BigQuiet
import Derived.StillTailTactics
import Derived.ProofKit
import Derived.ChangeSame
import Derived.Test.YthkaeimpflggjaaBase1
import Derived.Test.YthkaeimpflggjaaBase2
import Derived.Test.YthkaeimpflggjaaBase3
import Derived.Test.YthkaeimpflggjaaBase5

/- The document's Build of segments, as a contract over this seat's translation. -/
namespace Go.Proofs.Ythkaeimpflggjaa
open Go.RowKit
set_option linter.unusedVariables false

theorem Try.ai3info : (Try.prog.info? 129).map (fun i => (i.zero, i.size, i.bytes)) = some (some (.agg #[.int .i64 0, .int .i64 0, .int .i64 0]), 3, 24) := by kernel_rfl

def encT (x : Rn) : List Value := [.int .i64 x.a, .int .i64 x.b, .int .i64 ((x.g - x.a) % 65536)]
theorem encT_len (x : Rn) : (encT x).length = 3 := rfl
theorem encT_one (x : Rn) : ∀ u ∈ encT x, u.oneCell' = true := by intro u hu; simp [encT] at hu; rcases hu with rfl | rfl | rfl <;> rfl
theorem flat_endT (s : List Rn) (x : Rn) (c : Int) : flat encT (s ++ [(⟨x.a, c, x.g⟩ : Rn)]) = (flat encT (s ++ [x])).set (s.length * 3 + 1) (.int .i64 c) := by
  rw [← flat_append, ← flat_append, List.set_append_right _ _ (by rw [flat_length encT_len]; omega), flat_length encT_len, Nat.add_sub_cancel_left]
  rfl
theorem atT {w : World} {A : Option Addr} {n : Nat} {l : List Rn} {j : Nat} {x : Rn} (h : RowS encT 3 w A n l) (hj : l[j]? = some x) :
    ∃ g off, A = some ⟨g, off, none⟩ ∧ g < w.heap.size ∧ w.cell? ⟨g, off + j * 3, none⟩ = some (.int .i64 x.a) ∧ w.cell? ⟨g, off + j * 3 + 1, none⟩ = some (.int .i64 x.b) ∧ w.cell? ⟨g, off + j * 3 + 2, none⟩ = some (.int .i64 ((x.g - x.a) % 65536)) := by
  obtain ⟨g, off, e, hg, hc⟩ := h.at encT_len (by omega) hj
  exact ⟨g, off, e, hg, hc 0 _ rfl, hc 1 _ rfl, hc 2 _ rfl⟩

/-- What is asked of pairs. -/
def OkQ5 (l : List Pr) : Prop := ∀ p ∈ l, 0 ≤ p.code ∧ p.code ≤ 65534 ∧ 0 ≤ p.glyph ∧ p.glyph ≤ 65535

/-- A column of runs. -/
def colR (val : Rn → Int) (l : List Rn) : List Int := l.flatMap fun x => b2 (val x)
theorem colR_len (val : Rn → Int) (l : List Rn) : (colR val l).length = 2 * l.length := by
  induction l with
  | nil => rfl
  | cons x r ih => unfold colR at ih ⊢; rw [List.flatMap_cons, List.length_append, ih]; simp [b2]; omega
theorem colR_snoc (val : Rn → Int) {l : List Rn} {k : Nat} {x : Rn} (h : l[k]? = some x) : colR val (l.take (k + 1)) = colR val (l.take k) ++ b2 (val x) := by
  unfold colR
  rw [List.take_add_one, h]
  simp
theorem colR_map (val : Sg → Int) (l : List Rn) : colR (fun x => val (sgR x)) l = colB val (l.map sgR) := by
  unfold colR colB
  rw [List.flatMap_map]
/-- The columns. -/
def parts4 (l : List Rn) : List (List Int) := [colR (fun x => x.b) l, b2 0, colR (fun x => x.a) l, colR (fun x => (x.g - x.a) % 65536) l]
def outK (hd : List Int) (l : List Rn) (k : Nat) : List Int := hd ++ ((parts4 l).take k).flatten
theorem outK_succ (hd : List Int) (l : List Rn) {k : Nat} {y : List Int} (h : (parts4 l)[k]? = some y) : outK hd l (k + 1) = outK hd l k ++ y := by
  unfold outK
  rw [List.take_add_one, h, List.append_assoc]
  simp
theorem zero_col (l : List Sg) : List.replicate (2 * l.length) (0 : Int) = colB (fun _ => 0) l := by
  induction l with
  | nil => rfl
  | cons x r ih =>
    unfold colB at ih ⊢
    rw [List.flatMap_cons, ← ih, List.length_cons, show 2 * (r.length + 1) = (2 * r.length) + 1 + 1 by omega, List.replicate_succ, List.replicate_succ]
    rfl
theorem outK_tab (l : List Rn) : outK (sPre l.length ++ srB l.length) l 4 ++ List.replicate (2 * l.length) 0 = sTab (l.map sgR) := by
  have hl : (l.map sgR).length = l.length := by simp
  have h0 := zero_col (l.map sgR)
  rw [hl] at h0
  rw [h0]
  unfold outK parts4 sTab
  rw [hl, ← colR_map Sg.b l, ← colR_map Sg.a l, ← colR_map Sg.d l]
  simp [sgR]

theorem runsS_ab {lo hi : Int} : ∀ (l : List Pr), (∀ p ∈ l, lo ≤ p.code ∧ p.code ≤ hi) → ∀ x ∈ runsF folS l, (lo ≤ x.a ∧ x.a ≤ hi) ∧ lo ≤ x.b ∧ x.b ≤ hi
  | [], _ => by simp [runsF]
  | [p], h => by
    intro x hx
    rw [runsF_one] at hx
    simp at hx
    subst hx
    exact ⟨h p (by simp), h p (by simp)⟩
  | p :: q :: r, h => by
    have ih := runsS_ab (q :: r) (fun x hx => h x (by simp at hx ⊢; right; exact hx))
    have hp := h p (by simp)
    obtain ⟨y, t, e, ha, hg⟩ := runsF_head folS q r
    intro x hx
    cases hf : folS p q with
    | false =>
      rw [runsF_no folS p q r hf] at hx
      rcases List.mem_cons.1 hx with rfl | hx
      · exact ⟨hp, hp⟩
      · exact ih x hx
    | true =>
      rw [runsF_yes folS p q r y t e hf] at hx
      rw [e] at ih
      rcases List.mem_cons.1 hx with rfl | hx
      · exact ⟨hp, (ih y (by simp)).2⟩
      · exact ih x (by simp [hx])
theorem sRuns_fit {l : List Pr} (hok : OkQ5 l) : ∀ x ∈ sRuns l, (0 ≤ x.a ∧ x.a < 65536) ∧ (0 ≤ x.b ∧ x.b < 65536) := by
  intro x hx
  unfold sRuns at hx
  rcases List.mem_append.1 hx with h | h
  · have := runsS_ab (lo := 0) (hi := 65534) l (fun p hp => by have := hok p hp; omega) x h
    omega
  · simp at h
    subst h
    simp [sgL]

/-- The columns that are written one by one. -/
theorem col_pick (k : Nat) (hk : k < 4) : k = 1 ∨ ∃ (j : Nat) (val : Rn → Int), j < 3 ∧ ([1, 3, 0, 2] : List Int)[k]? = some (j : Int) ∧ (∀ rs, (parts4 rs)[k]? = some (colR val rs)) ∧ (∀ x, (encT x)[j]? = some (.int .i64 (val x))) ∧ (∀ x : Rn, ((0 ≤ x.a ∧ x.a < 65536) ∧ (0 ≤ x.b ∧ x.b < 65536)) → 0 ≤ val x ∧ val x < 65536) := by
  rcases (show k = 0 ∨ k = 1 ∨ k = 2 ∨ k = 3 by omega) with rfl | rfl | rfl | rfl
  · exact .inr ⟨1, fun x => x.b, by omega, rfl, fun _ => rfl, fun _ => rfl, fun x h => h.2⟩
  · exact .inl rfl
  · exact .inr ⟨0, fun x => x.a, by omega, rfl, fun _ => rfl, fun _ => rfl, fun x h => h.1⟩
  · exact .inr ⟨2, fun x => (x.g - x.a) % 65536, by omega, rfl, fun _ => rfl, fun _ => rfl, fun x h => by show 0 ≤ (x.g - x.a) % 65536 ∧ (x.g - x.a) % 65536 < 65536; omega⟩
theorem outK_len (hd : List Int) (rs : List Rn) (k : Nat) : (outK hd rs k).length ≤ hd.length + 6 * rs.length + 2 := by
  unfold outK parts4
  rw [List.length_append]
  have a1 := colR_len (fun x => x.b) rs
  have a2 := colR_len (fun x => x.a) rs
  have a3 := colR_len (fun x => (x.g - x.a) % 65536) rs
  have a4 : (b2 0).length = 2 := rfl
  rcases k with _ | _ | _ | _ | k
  all_goals simp only [List.take_zero, List.take_succ_cons, List.take_nil, List.flatten_nil, List.flatten_cons, List.append_nil, List.length_nil, List.length_append]
  all_goals omega

/-- The runs in memory, the columns' numbers, and what is written. -/
structure CS (w wr : World) (A6 : Option Addr) (N c6 : Nat) (rs : List Rn) (bk : Nat) (Ao : Option Addr) (no co : Nat) (zs : List Int) : Prop where
  run : OwnS 129 encT 3 wr w.heap.size A6 N c6 rs
  num : Row wr (some ⟨bk, 0, none⟩) 4 (cellsOf .i64 [1, 3, 0, 2])
  out : OwnB wr w.heap.size Ao no co zs
  bel : Below w.heap.size w wr
theorem CS.below {w wr w' : World} {A6 : Option Addr} {N c6 : Nat} {rs : List Rn} {bk : Nat} {Ao : Option Addr} {no co : Nat} {zs : List Int} (h : CS w wr A6 N c6 rs bk Ao no co zs) (hb : Below wr.heap.size wr w') : CS w w' A6 N c6 rs bk Ao no co zs :=
  ⟨h.run.below hb, h.num.below hb, h.out.below hb, h.bel.trans (hb.mono h.bel.size)⟩
theorem CS.new {w wr w' : World} {A6 : Option Addr} {N c6 : Nat} {rs : List Rn} {bk : Nat} {Ao A2 : Option Addr} {no co n2 c2 : Nat} {zs ys : List Int} (h : CS w wr A6 N c6 rs bk Ao no co zs) (hb : Below wr.heap.size wr w') (ho : OwnB w' wr.heap.size A2 n2 c2 ys) : CS w w' A6 N c6 rs bk A2 n2 c2 ys :=
  ⟨h.run.below hb, h.num.below hb, ho.mono h.bel.size, h.bel.trans (hb.mono h.bel.size)⟩

/-- The runs, and the last segment, gathered. -/
def RunK (w : World) (l : List Pr) (n : Nat) (s i : Value) (wr : World) : Prop :=
  ∃ (k m : Nat) (Ar : Option Addr) (cr : Nat), k ≤ n ∧ i = .int .i64 k ∧ s = .slice Ar m cr ∧ OwnS 129 encT 3 wr w.heap.size Ar m cr (runsF folS (l.take k)) ∧ Below w.heap.size w wr

set_option maxRecDepth 100000 in
set_option maxHeartbeats 8000000 in
theorem rbuild9_any (A : Option Addr) (n c : Nat) (l : List Pr) (w : World) (hr : RowS encQ 2 w A n l) (hn : n ≤ 7000) (hok : OkQ5 l) :
    Calls Try.prog 27 #[.slice A n c] w (RetB w (sTab ((sRuns l).map sgR))) := by
  obtain ⟨i0, hi, hz0, hz1, hz2⟩ := info_parts Try.ai3info
  obtain ⟨i8, hi8, hz08, hz18, hz28⟩ := info_parts Try.u8info
  have Hn := Lib.hid hr.len
  have Hok := Lib.hid hok
  clear hok
  go_enter Try.func27, Try.ntmps27
  go_wp2
  go_loopw [3, 14] (fun s i wr => RunK w l n s i wr) (fun _ i _ => n - (intOf i).toNat)
  case atStart => exact ⟨0, 0, none, 0, Nat.zero_le _, rfl, rfl, OwnS.nil _ _ _ _ _, Below.refl _ _⟩
  case round =>
    obtain ⟨k, m, Ar, cr, hk, rfl, rfl, hown, hb⟩ := hrel
    have hm : m ≤ k := by have := hown.len; have h2 := runsF_len folS (l.take k); rw [List.length_take] at h2; omega
    by_cases hlt : k < n
    · obtain ⟨p, hp⟩ := getP (l := l) (j := k) (by have := Hn.out; omega)
      obtain ⟨g, off, rfl, hg, q0, q1⟩ := atQ (hr.below hb) hp
      have hpo := Hok.out p (List.mem_of_getElem? hp)
      have hA := (Below.refl wr.heap.size wr).alloc (Nat.le_refl _) (.cells #[.int .i64 p.code, .int .i64 p.glyph] 117)
      have hown1 := hown.below hA
      have hb1 := hb.trans (hA.mono hb.size)
      have x0 : (wr.alloc (.cells #[.int .i64 p.code, .int .i64 p.glyph] 117)).cell? ⟨wr.heap.size, 0, none⟩ = some (.int .i64 p.code) := cell_of_row _ _ 0 _ _ _ (heap_alloc_new wr _)
      have x1 : (wr.alloc (.cells #[.int .i64 p.code, .int .i64 p.glyph] 117)).cell? ⟨wr.heap.size, 1, none⟩ = some (.int .i64 p.glyph) := cell_of_row _ _ 1 _ _ _ (heap_alloc_new wr _)
      have hr1 := hr.below hb1
      by_cases h0 : 0 < k
      · obtain ⟨j, rfl⟩ : ∃ j, k = j + 1 := ⟨k - 1, by omega⟩
        obtain ⟨q, hq⟩ := getP (l := l) (j := j) (by have := Hn.out; omega)
        have hqo := Hok.out q (List.mem_of_getElem? hq)
        obtain ⟨g', off', e', _, r0, r1⟩ := atQ hr1 hq
        simp only [Option.some.injEq, Addr.mk.injEq, and_true] at e'
        obtain ⟨rfl, rfl⟩ := e'
        obtain ⟨st1, st2⟩ := runs_step folS hq hp
        have ST1 := Lib.hid st1
        have ST2 := Lib.hid st2
        have HFo : Hid (folS q p = decide (p.code = q.code + 1 ∧ p.glyph = (q.glyph + 1) % 65536)) := rfl
        clear st1 st2 hq hp hr1 hown hA
        obtain ⟨pc, pg⟩ := p
        obtain ⟨qc, qg⟩ := q
        simp only at *
        have F2 : (pg - pc + 65536) % 65536 = (pg - pc) % 65536 := by omega
        have ej : ((j : Int) + 1 - 1) = (j : Int) := by omega
        have ej2 : (((j + 1 : Nat) : Int) - 1) = (j : Int) := by omega
        have W2 : IntKind.i64.wrap (qc + 1) = qc + 1 := IntWalk.i64_in _ (by omega)
        have W3 : IntKind.i64.wrap (qg + 1) = qg + 1 := IntWalk.i64_in _ (by omega)
        have m3 : (qg + 1).tmod 65536 = (qg + 1) % 65536 := Int.tmod_eq_emod_of_nonneg (by omega)
        have d0 : decide ((0 : Int) < (j : Int) + 1) = true := decide_eq_true (by omega)
        go_wp2_with fail
        by_cases h1 : pc = qc + 1
        · have b1 : (pc == qc + 1) = true := by simp [h1]
          by_cases h2 : pg = (qg + 1) % 65536
          · have e2 : (pg == (qg + 1) % 65536) = true := by simp [h2]
            have HY := Lib.hid (ST2.out (by rw [HFo.out]; exact decide_eq_true ⟨h1, h2⟩))
            clear ST1 ST2 HFo h1 h2
            generalize wr.alloc (.cells #[.int .i64 pc, .int .i64 pg] 117) = V at *
            generalize wr.heap.size = bx at *
            go_quiet (fail)
            have hb2 := below_drewN hb1 nq
            have hown2 := hown1.drewN nq
            have b0 : (V.drewN nq).cell? ⟨bx, 0, none⟩ = some (.int .i64 pc) := x0
            have b1' : (V.drewN nq).cell? ⟨bx, 1, none⟩ = some (.int .i64 pg) := x1
            clear x0 x1 hown1 hb1 q0 q1 r0 r1
            generalize V.drewN nq = U at *
            have hsU := hb2.size
            obtain ⟨s, x, e4, e5⟩ := HY.out
            rw [e4] at hown2
            have hlm : s.length + 1 = m := by have := hown2.len; simpa using this
            subst hlm
            obtain ⟨gr, _, e6, _, c0, c1, c2⟩ := atT (hown2.row encT_len) (j := s.length) (x := x) (by simp)
            rcases hown2.shape with ⟨e7, _⟩ | ⟨g2, _, e7, hg2, _⟩
            · rw [e7] at e6; cases e6
            · rw [e7] at e6
              simp only [Option.some.injEq, Addr.mk.injEq, and_true] at e6
              obtain ⟨rfl, rfl⟩ := e6
              subst e7
              rw [Nat.zero_add] at c0 c1 c2
              have f0 : U.drew.frozen? ⟨g2, s.length * 3 + 1, none⟩ = false := hown2.drew.thaw _
              have c1' : U.drew.cell? ⟨g2, s.length * 3 + 1, none⟩ = some (.int .i64 x.b) := c1
              have b0' : U.drew.cell? ⟨bx, 0, none⟩ = some (.int .i64 pc) := b0
              have E5 := Lib.hid e5
              have O6 : Hid (OwnS 129 encT 3 (U.drew.setCell ⟨g2, s.length * 3 + 1, none⟩ (.int .i64 pc)) w.heap.size (some ⟨g2, 0, none⟩) (s.length + 1) cr (s ++ [(⟨x.a, pc, x.g⟩ : Rn)])) := ownS_setCell hown2.drew (by simp) (flat_endT s x pc)
              have B6 := Lib.hid (below_set hg2 (s.length * 3 + 1) (.int .i64 pc) hb2.drew)
              have es : (((s.length + 1 : Nat) : Int) - 1) = (s.length : Int) := by omega
              have es2 : ((s.length : Int) + 1 - 1) = (s.length : Int) := by omega
              have Wm : IntKind.i64.wrap (s.length : Int) = (s.length : Int) := IntWalk.i64_in _ (by omega)
              have Wm1 : IntKind.i64.wrap ((s.length : Int) + 1) = (s.length : Int) + 1 := IntWalk.i64_in _ (by omega)
              have z0 : (0 : Int) ≤ (s.length : Int) := by omega
              have z1 : (s.length : Int) < (s.length : Int) + 1 := by omega
              clear HY e4 e5 hown2 hb2
              generalize s.length = m at *
              go_wp2_with fail
              go_still_tail 8, (by kernel_rfl)
              go_wp2
              go_roundw
              case rel => exact ⟨j + 1 + 1, m + 1, some ⟨g2, 0, none⟩, cr, by omega, by go_num, rfl, by rw [E5.out]; exact O6.out, B6.out⟩
              case measure => simp [intOf]; omega
          · have e2 : (pg == (qg + 1) % 65536) = false := by simp [h2]
            have E3 := Lib.hid (ST1.out (by rw [HFo.out]; exact decide_eq_false (fun h => h2 h.2)))
            clear ST1 ST2 HFo h1 h2
            generalize wr.alloc (.cells #[.int .i64 pc, .int .i64 pg] 117) = V at *
            generalize wr.heap.size = bx at *
            go_quiet (fail)
            have hb2 := below_drewN hb1 nq
            have hown2 := hown1.drewN nq
            have b0 : (V.drewN nq).cell? ⟨bx, 0, none⟩ = some (.int .i64 pc) := x0
            have b1' : (V.drewN nq).cell? ⟨bx, 1, none⟩ = some (.int .i64 pg) := x1
            clear x0 x1 hown1 hb1 q0 q1 r0 r1
            generalize V.drewN nq = U at *
            have hsU := hb2.size
            go_wp2_with (at_builtin; refine wpList_append_rowS rfl (.tmp 54) (.tmp 67) _ rfl 129 encT 3 encT_len (by omega) encT_one w.heap.size i0 _ 24 Try.underlying128 hi hz0 hz1 rfl hz2 _ m cr _ rfl (hown2.alloc _) (some ⟨U.heap.size, 0, none⟩) 1 1 [⟨pc, pc, pg⟩] rfl (rowS_vals encT_len U 129 [⟨pc, pc, pg⟩] _ rfl 1 rfl) (by omega) (by omega) (by simp; omega) ?_; intro A6 c6 w6 ho6 hg6)
            go_roundw
            case rel => exact ⟨j + 1 + 1, m + 1, A6, c6, by omega, by go_num, rfl, by rw [E3.out]; exact ho6, (hb2.alloc hb2.size _).grown hg6 (hb2.alloc hb2.size _).size (fun q e => (hown2.from_ q e).1)⟩
            case measure => simp [intOf]; omega
        · have b1 : (pc == qc + 1) = false := by simp [h1]
          have E3 := Lib.hid (ST1.out (by rw [HFo.out]; exact decide_eq_false (fun h => h1 h.1)))
          clear ST1 ST2 HFo h1
          generalize wr.alloc (.cells #[.int .i64 pc, .int .i64 pg] 117) = V at *
          generalize wr.heap.size = bx at *
          go_quiet (fail)
          have hb2 := below_drewN hb1 nq
          have hown2 := hown1.drewN nq
          have b0 : (V.drewN nq).cell? ⟨bx, 0, none⟩ = some (.int .i64 pc) := x0
          have b1' : (V.drewN nq).cell? ⟨bx, 1, none⟩ = some (.int .i64 pg) := x1
          clear x0 x1 hown1 hb1 q0 q1 r0 r1
          generalize V.drewN nq = U at *
          have hsU := hb2.size
          go_wp2_with (at_builtin; refine wpList_append_rowS rfl (.tmp 54) (.tmp 67) _ rfl 129 encT 3 encT_len (by omega) encT_one w.heap.size i0 _ 24 Try.underlying128 hi hz0 hz1 rfl hz2 _ m cr _ rfl (hown2.alloc _) (some ⟨U.heap.size, 0, none⟩) 1 1 [⟨pc, pc, pg⟩] rfl (rowS_vals encT_len U 129 [⟨pc, pc, pg⟩] _ rfl 1 rfl) (by omega) (by omega) (by simp; omega) ?_; intro A6 c6 w6 ho6 hg6)
          go_roundw
          case rel => exact ⟨j + 1 + 1, m + 1, A6, c6, by omega, by go_num, rfl, by rw [E3.out]; exact ho6, (hb2.alloc hb2.size _).grown hg6 (hb2.alloc hb2.size _).size (fun q e => (hown2.from_ q e).1)⟩
          case measure => simp [intOf]; omega
      · obtain rfl : k = 0 := by omega
        have E3 := Lib.hid (runs_first folS hp)
        have hd0 : ¬ (0 : Int) < 0 := by omega
        have hdf : decide ((0 : Int) < 0) = false := by decide
        have er : runsF folS (l.take 0) = [] := by rw [List.take_zero]; rfl
        rw [er] at hown1
        clear hown hA hr1 hp er
        obtain ⟨pc, pg⟩ := p
        simp only at *
        have F2 : (pg - pc + 65536) % 65536 = (pg - pc) % 65536 := by omega
        rw [Nat.zero_mul, Nat.add_zero] at q0 q1
        go_wp2_with fail
        generalize wr.alloc (.cells #[.int .i64 pc, .int .i64 pg] 117) = V at *
        generalize wr.heap.size = bx at *
        go_quiet (fail)
        have hb2 := below_drewN hb1 nq
        have hown2 := hown1.drewN nq
        have b0 : (V.drewN nq).cell? ⟨bx, 0, none⟩ = some (.int .i64 pc) := x0
        have b1' : (V.drewN nq).cell? ⟨bx, 1, none⟩ = some (.int .i64 pg) := x1
        clear x0 x1 hown1 hb1 q0 q1 
        generalize V.drewN nq = U at *
        have hsU := hb2.size
        go_wp2_with (at_builtin; refine wpList_append_rowS rfl (.tmp 54) (.tmp 67) _ rfl 129 encT 3 encT_len (by omega) encT_one w.heap.size i0 _ 24 Try.underlying128 hi hz0 hz1 rfl hz2 _ m cr _ rfl (hown2.alloc _) (some ⟨U.heap.size, 0, none⟩) 1 1 [⟨pc, pc, pg⟩] rfl (rowS_vals encT_len U 129 [⟨pc, pc, pg⟩] _ rfl 1 rfl) (by omega) (by omega) (by simp; omega) ?_; intro A6 c6 w6 ho6 hg6)
        go_roundw
        case rel => exact ⟨0 + 1, m + 1, A6, c6, by omega, by go_num, rfl, by rw [E3.out]; exact ho6, (hb2.alloc hb2.size _).grown hg6 (hb2.alloc hb2.size _).size (fun q e => (hown2.from_ q e).1)⟩
        case measure => simp [intOf]; omega
    · obtain rfl : k = n := by omega
      have E3 : Hid (runsF folS (l.take k) = runsF folS l) := by show _ = _; rw [List.take_of_length_le (by have := Hn.out; omega)]
      rw [E3.out] at hown
      have hlR := runsF_len folS l
      have hmR := hown.len
      have hNl := Hn.out
      have HR : Hid (runsF folS l ++ [sgL] = sRuns l) := rfl
      have HFit := Lib.hid (sRuns_fit Hok.out)
      have HF2 : Hid ((sRuns l).length = m + 1) := by show _ = _; unfold sRuns; simp [hmR]
      clear hmR E3
      go_wp2_with (at_builtin; refine wpList_append_rowS rfl (.tmp 70) (.tmp 72) _ rfl 129 encT 3 encT_len (by omega) encT_one w.heap.size i0 _ 24 Try.underlying128 hi hz0 hz1 rfl hz2 _ m cr _ rfl (hown.alloc _) (some ⟨wr.heap.size, 0, none⟩) 1 1 [sgL] rfl (rowS_vals encT_len wr 129 [sgL] _ rfl 1 rfl) (by omega) (by omega) (by simp; have := hb.size; omega) ?_; intro A6 c6 w6 ho6 hg6)
      have hb6 := (hb.alloc hb.size _).grown hg6 (hb.alloc hb.size _).size (fun q e => (hown.from_ q e).1)
      rw [HR.out] at ho6
      clear hown hb hg6 HR
      generalize sRuns l = rs at *
      obtain ⟨N, hN⟩ : ∃ N, m + 1 = N := ⟨_, rfl⟩
      have hNi : (m : Int) + 1 = (N : Int) := by omega
      have hN0 : 1 ≤ N := by omega
      have hN1 : N ≤ 7001 := by omega
      rw [hN] at ho6 HF2
      have hgt := Got.nil w6
      have HSr := Lib.hid (fun W => rsearch9_any N W (by omega) (by omega))
      go_wp2_with (first
        | (go_at_call 54; refine (b2_any _ _ (by omega) (by omega)).mono ?_; rintro e wn ⟨A2, n2, c2, rfl, o, hbn⟩; replace hgt := hgt.add (c := c2) hbn o; replace hb6 := hb6.trans (hbn.mono hb6.size); replace ho6 := ho6.below hbn; clear o hbn)
        | (go_at_call 71; refine (HSr.out _).mono ?_; rintro e wn ⟨A2, n2, c2, rfl, o, hbn⟩; replace hgt := hgt.add (c := c2) hbn o; replace hb6 := hb6.trans (hbn.mono hb6.size); replace ho6 := ho6.below hbn; clear o hbn)
        | (go_at_call 20; refine (joinN_any _ _ _ 5 _ rfl rfl rfl hgt (by omega) (by simp [joined, b2, srB])).mono ?_; rintro e wn ⟨A2, n2, c2, rfl, o, hbn⟩; simp only [joined, List.nil_append, List.cons_append, List.flatMap_cons, List.flatMap_nil, List.append_nil] at o; clear hgt; replace ho6 := ho6.below hbn; replace o := o.mono hb6.size; replace hb6 := hb6.trans (hbn.mono hb6.size); clear hbn))
      have HTab : Hid (outK (sPre N ++ srB N) rs 4 ++ List.replicate (2 * N) 0 = sTab (rs.map sgR)) := by show _ = _; rw [← HF2.out]; exact outK_tab rs
      have HHd : Hid (b2 4 ++ (b2 (16 + 8 * (N : Int)) ++ (b2 0 ++ (b2 (2 * (N : Int)) ++ srB N))) = outK (sPre N ++ srB N) rs 0) := by
        show _ = _
        unfold outK sPre
        rw [show 2 * (8 + 4 * (N : Int)) = 16 + 8 * (N : Int) by omega]
        simp
      rw [HHd.out] at o
      have hs : CS w (wn.alloc (.cells #[.int .i64 1, .int .i64 3, .int .i64 0, .int .i64 2] 3)) A6 N c6 rs wn.heap.size A2 n2 c2 (outK (sPre N ++ srB N) rs 0) := by
        have hal : Below wn.heap.size wn (wn.alloc (.cells #[.int .i64 1, .int .i64 3, .int .i64 0, .int .i64 2] 3)) := (Below.refl _ _).alloc (Nat.le_refl _) _
        exact ⟨ho6.below hal, row_vals wn 3 (cellsOf .i64 [1, 3, 0, 2]) 4 rfl, o.below hal, hb6.trans (hal.mono hb6.size)⟩
      clear ho6 o hb6 HHd HSr hN hNi hi hz0 hz1 hz2
      generalize wn.alloc (.cells #[.int .i64 1, .int .i64 3, .int .i64 0, .int .i64 2] 3) = W0 at *
      generalize wn.heap.size = bk at *
      have hpl : (sPre N ++ srB N).length = 14 := rfl
      generalize sPre N ++ srB N = hd at *
      have HLn : Hid (∀ k, (outK hd rs k).length ≤ 16 + 6 * N) := fun k => by have := outK_len hd rs k; have h2 := HF2.out; omega
      clear hpl
      go_loopw [7, 91] (fun v i wr => ∃ (k : Nat) (Ao : Option Addr) (no co : Nat), k ≤ 4 ∧ i = .int .i64 k ∧ v = .slice Ao no co ∧ CS w wr A6 N c6 rs bk Ao no co (outK hd rs k)) (fun _ i _ => 4 - (intOf i).toNat)
      case atStart => exact ⟨0, A2, n2, c2, by omega, rfl, rfl, hs⟩
      case round =>
        clear hs
        obtain ⟨k4, Ao, no, co, hk4, rfl, rfl, hs⟩ := hrel
        have hol := HLn.out k4
        by_cases hlt4 : k4 < 4
        · rcases col_pick k4 hlt4 with rfl | ⟨j, val, hj, hkj, hpt, hen, hvb⟩
          · have hcx : wr.cell? ⟨bk, 1, none⟩ = some (.int .i64 3) := by
              obtain ⟨g', off', e', _, hc⟩ := hs.num.at (j := 1) (u := .int .i64 3) rfl
              simp only [Option.some.injEq, Addr.mk.injEq, and_true] at e'
              obtain ⟨rfl, rfl⟩ := e'
              simpa using hc
            go_wp2_with fail
            refine (b2_any 0 _ (by omega) (by omega)).mono ?_
            rintro e w8 ⟨A8, n8, c8, rfl, o8, hb8⟩
            have hgt := ((Got.nil w8).put (c := co) (hs.out.below hb8).row).put (c := c8) o8.row
            have hs8 := hs.below hb8
            have HJ := Lib.hid (joinN_any w8 _ _ 2 _ rfl rfl rfl hgt (by omega) (by have h22 : (b2 0).length = 2 := rfl; simp only [joined, List.nil_append, List.cons_append, List.flatMap_cons, List.flatMap_nil, List.append_nil, List.length_append]; omega))
            simp only [joined, List.nil_append, List.cons_append, List.flatMap_cons, List.flatMap_nil, List.append_nil, List.map_cons, List.map_nil, BsV.val] at HJ
            rw [← outK_succ hd rs (k := 1) rfl] at HJ
            clear hgt o8 hb8 hs hcx
            go_wp2_with fail
            refine HJ.out.mono ?_
            rintro e w9 ⟨A9, n9, c9, rfl, o9, hb9⟩
            have hs9 := hs8.new hb9 o9
            clear hs8 hb9 o9 HJ
            go_wp2
            go_roundw
            case rel => exact ⟨1 + 1, A9, n9, c9, by omega, by go_num, rfl, hs9⟩
            case measure => simp [intOf]
          · have hcx : wr.cell? ⟨bk, k4, none⟩ = some (.int .i64 (j : Int)) := by
              obtain ⟨g', off', e', _, hc⟩ := hs.num.at (j := k4) (u := .int .i64 (j : Int)) (cellsOf_get hkj)
              simp only [Option.some.injEq, Addr.mk.injEq, and_true] at e'
              obtain ⟨rfl, rfl⟩ := e'
              simpa using hc
            have HPt := Lib.hid (outK_succ hd rs (hpt rs))
            have HEn := Lib.hid hen
            have HVb := Lib.hid hvb
            have j3 : ((j : Int) == 3) = false := by simp; omega
            have d4 : decide ((k4 : Int) < 4) = true := decide_eq_true (by omega)
            have hs0 : CS w wr A6 N c6 rs bk Ao no co (outK hd rs k4 ++ colR val (rs.take 0)) := by rw [List.take_zero]; simpa [colR] using hs
            clear hkj hpt hen hvb hs
            go_wp2
            go_loopw [7, 103] (fun v i wr => ∃ (k : Nat) (Ao : Option Addr) (no co : Nat), k ≤ N ∧ i = .int .i64 k ∧ v = .slice Ao no co ∧ CS w wr A6 N c6 rs bk Ao no co (outK hd rs k4 ++ colR val (rs.take k))) (fun _ i _ => N - (intOf i).toNat)
            case atStart => exact ⟨0, Ao, no, co, by omega, rfl, rfl, hs0⟩
            case round =>
              clear hs0 hcx
              obtain ⟨k5, Ao, no, co, hk5, rfl, rfl, hs⟩ := hrel
              by_cases hlt5 : k5 < N
              · obtain ⟨x, hx⟩ := getP (l := rs) (j := k5) (by have := HF2.out; omega)
                obtain ⟨gx, ox, ex, hgx, q0, q1, q2⟩ := atT (hs.run.row encT_len) hx
                have hv := HVb.out x (HFit.out x (List.mem_of_getElem? hx))
                have hex := HEn.out x
                have HC := Lib.hid (colR_snoc val hx)
                have hcl := colR_len val (rs.take k5)
                rw [List.length_take] at hcl
                have hal : Below wr.heap.size wr (wr.alloc (.cells #[.int .i64 x.a, .int .i64 x.b, .int .i64 ((x.g - x.a) % 65536)] 129)) := (Below.refl _ _).alloc (Nat.le_refl _) _
                have kx : (wr.alloc (.cells #[.int .i64 x.a, .int .i64 x.b, .int .i64 ((x.g - x.a) % 65536)] 129)).cell? ⟨wr.heap.size, j, none⟩ = some (.int .i64 (val x)) := by
                  rw [cell_of_row _ _ j _ _ _ (heap_alloc_new wr _)]
                  simpa [encT] using hex
                have hs1 := hs.below hal
                have hj0 : (0 : Int) ≤ (j : Int) := by omega
                have hj3 : (j : Int) < 3 := by omega
                subst ex
                clear hx hex hs hal
                generalize val x = vx at *
                generalize (x.g - x.a) % 65536 = xd at *
                obtain ⟨xa, xb, xg⟩ := x
                simp only at *
                go_wp2_with fail
                refine (b2_any vx _ (by omega) (by omega)).mono ?_
                rintro e w8 ⟨A8, n8, c8, rfl, o8, hb8⟩
                have hgt := ((Got.nil w8).put (c := co) (hs1.out.below hb8).row).put (c := c8) o8.row
                have hs8 := hs1.below hb8
                have HJ := Lib.hid (joinN_any w8 _ _ 2 _ rfl rfl rfl hgt (by omega) (by have h22 : (b2 vx).length = 2 := rfl; simp only [joined, List.nil_append, List.cons_append, List.flatMap_cons, List.flatMap_nil, List.append_nil, List.length_append]; omega))
                simp only [joined, List.nil_append, List.cons_append, List.flatMap_cons, List.flatMap_nil, List.append_nil, List.map_cons, List.map_nil, BsV.val] at HJ
                rw [List.append_assoc, ← HC.out] at HJ
                clear hgt o8 hb8 hs1 kx q0 q1 q2
                go_wp2_with fail
                refine HJ.out.mono ?_
                rintro e w9 ⟨A9, n9, c9, rfl, o9, hb9⟩
                have hs9 := hs8.new hb9 o9
                clear hs8 hb9 o9 HJ
                go_wp2
                go_roundw
                case rel => first | exact ⟨k5 + 1, A9, n9, c9, by omega, by go_num, rfl, hs9⟩ | ((repeat apply Exists.intro); exact ⟨⟨k5 + 1, A9, n9, c9, by omega, by go_num, rfl, hs9⟩, rfl⟩)
                case measure => simp [intOf]; omega
              · have HE : Hid (outK hd rs k4 ++ colR val (rs.take k5) = outK hd rs (k4 + 1)) := by show _ = _; rw [List.take_of_length_le (by have := HF2.out; omega), HPt.out]
                rw [HE.out] at hs
                clear HE HPt HEn HVb
                go_wp2
                go_roundw
                case rel => exact ⟨k4 + 1, Ao, no, co, by omega, by go_num, rfl, hs⟩
                case measure => simp [intOf]; omega
        · obtain rfl : k4 = 4 := by omega
          go_wp2_with (at_make; refine wpList_make_ints rfl (.tmp 118) (.tmp 118) _ rfl 5 .u8 w.heap.size i8 1 Try.underlying27 hi8 hz08 hz18 hz28 _ _ (2 * N) (2 * N) rfl rfl (by omega) (by omega) (Nat.le_refl _) (by omega) (by omega) hs.bel.size ?_; intro w8 hown8 hg8)
          have hb8 : Below wr.heap.size wr w8 := (Below.refl _ _).grown hg8 (Nat.le_refl _) (fun q e => by cases e)
          have hgt := ((Got.nil w8).put (c := co) (hs.out.below hb8).row).put (c := 2 * N) hown8.row
          have hs8 := hs.below hb8
          have HJ := Lib.hid (joinN_any w8 _ _ 2 _ rfl rfl rfl hgt (by omega) (by simp only [joined, List.nil_append, List.cons_append, List.flatMap_cons, List.flatMap_nil, List.append_nil, List.length_append, List.length_replicate]; omega))
          simp only [joined, List.nil_append, List.cons_append, List.flatMap_cons, List.flatMap_nil, List.append_nil, List.map_cons, List.map_nil, BsV.val] at HJ
          rw [HTab.out] at HJ
          clear hgt hown8 hb8 hs
          go_wp2_with fail
          refine HJ.out.mono ?_
          rintro e w9 ⟨A9, n9, c9, rfl, o9, hb9⟩
          have hs9 := hs8.new hb9 o9
          go_wp2
          go_ret
          exact ⟨A9, n9, c9, rfl, hs9.out, hs9.bel⟩

end Go.Proofs.Ythkaeimpflggjaa

/- A table of segments that is built is read as it was: plain lists. -/
namespace Go.Proofs.Ythkaeimpflggjaa
set_option linter.unusedVariables false
set_option linter.unusedSectionVars false

theorem colB_drop (val : Sg → Int) : ∀ (l : List Sg) (i : Nat), (colB val l).drop (2 * i) = colB val (l.drop i)
  | [], i => by simp [colB]
  | x :: r, 0 => by simp
  | x :: r, i + 1 => by
    have h : colB val (x :: r) = b2 (val x) ++ colB val r := rfl
    rw [h, show 2 * (i + 1) = (b2 (val x)).length + 2 * i by simp [b2]; omega, List.drop_append, List.drop_of_length_le (by omega), Nat.add_sub_cancel_left, List.nil_append, colB_drop val r i]
    rfl
theorem n2at_col {val : Sg → Int} {zs pre post : List Int} {l : List Sg} {p i : Nat} {x : Sg} (hz : zs = pre ++ colB val l ++ post) (hp : pre.length = p) (h : l[i]? = some x) (h0 : 0 ≤ val x) (h1 : val x < 65536) : n2at zs (p + 2 * i) = val x := by
  have hl := (List.getElem?_eq_some_iff.1 h).1
  have e : zs.drop (p + 2 * i) = b2 (val x) ++ (colB val (l.drop (i + 1)) ++ post) := by
    rw [hz, List.append_assoc, ← hp, List.drop_append, List.drop_of_length_le (by omega), Nat.add_sub_cancel_left, List.nil_append, List.drop_append_of_le_length (by rw [colB_len]; omega), colB_drop, drop_consP h, ← List.append_assoc]
    rfl
  exact n2at_of (by rw [e]; rfl) h0 h1

theorem sPre_len (n : Nat) : (sPre n).length = 8 := rfl

/-- What is asked of runs. -/
structure RsOK (rs : List Rn) : Prop where
  n0 : 1 ≤ rs.length
  n1 : rs.length ≤ 8000
  ok : rnOK 65535 (-1) rs
  g : ∀ x ∈ rs, 0 ≤ x.g ∧ x.g ≤ 65535
  last : ∀ x, rs[rs.length - 1]? = some x → x.b = 65535

section
variable {rs : List Rn} (h : RsOK rs)
include h

theorem sg_at {i : Nat} {x : Rn} (hx : rs[i]? = some x) : (rs.map sgR)[i]? = some (sgR x) := by rw [List.getElem?_map, hx]; rfl

theorem RsOK.facts {i : Nat} {x : Rn} (hx : rs[i]? = some x) : sqAt (sTab (rs.map sgR)) rs.length i = ⟨x.a, x.b, (x.g - x.a) % 65536, 0⟩ := by
  have a1 := rnOK_at h.ok hx
  have a2 := h.g x (List.mem_of_getElem? hx)
  have hs := sg_at h hx
  have hl : (rs.map sgR).length = rs.length := by simp
  have f1 : n2at (sTab (rs.map sgR)) (14 + 2 * i) = x.b := n2at_col (val := Sg.b) (pre := sPre rs.length ++ srB rs.length) (post := b2 0 ++ colB Sg.a (rs.map sgR) ++ colB Sg.d (rs.map sgR) ++ colB (fun _ => 0) (rs.map sgR)) (by unfold sTab; rw [hl]; simp) rfl hs (by simp only [sgR]; omega) (by simp only [sgR]; omega)
  have f2 : n2at (sTab (rs.map sgR)) (16 + 2 * rs.length + 2 * i) = x.a := n2at_col (val := Sg.a) (pre := sPre rs.length ++ srB rs.length ++ colB Sg.b (rs.map sgR) ++ b2 0) (post := colB Sg.d (rs.map sgR) ++ colB (fun _ => 0) (rs.map sgR)) (by unfold sTab; rw [hl]; simp) (by simp [sPre_len, srB_len, colB_len, b2]; omega) hs (by simp only [sgR]; omega) (by simp only [sgR]; omega)
  have f3 : n2at (sTab (rs.map sgR)) (16 + 4 * rs.length + 2 * i) = (x.g - x.a) % 65536 := n2at_col (val := Sg.d) (pre := sPre rs.length ++ srB rs.length ++ colB Sg.b (rs.map sgR) ++ b2 0 ++ colB Sg.a (rs.map sgR)) (post := colB (fun _ => 0) (rs.map sgR)) (by unfold sTab; rw [hl]) (by simp [sPre_len, srB_len, colB_len, b2]; omega) hs (by simp only [sgR]; omega) (by simp only [sgR]; omega)
  have f4 : n2at (sTab (rs.map sgR)) (16 + 6 * rs.length + 2 * i) = 0 := n2at_col (val := fun _ => 0) (pre := sPre rs.length ++ srB rs.length ++ colB Sg.b (rs.map sgR) ++ b2 0 ++ colB Sg.a (rs.map sgR) ++ colB Sg.d (rs.map sgR)) (post := []) (by unfold sTab; rw [hl]; simp) (by simp [sPre_len, srB_len, colB_len, b2]; omega) hs (by omega) (by omega)
  unfold sqAt
  rw [f1, f2, f3, f4]

theorem RsOK.ends {i : Nat} {x : Rn} (hx : rs[i]? = some x) : n2at (sTab (rs.map sgR)) (14 + 2 * i) = x.b := congrArg Sq.b (h.facts hx)

theorem RsOK.len : (sTab (rs.map sgR)).length = 16 + 8 * rs.length := by
  unfold sTab
  simp [sPre_len, srB_len, colB_len, b2]
  omega

theorem RsOK.n : n2at (sTab (rs.map sgR)) 6 = 2 * (rs.length : Int) := by
  have := h.n1
  have hl : (rs.map sgR).length = rs.length := by simp
  exact n2at_of (by unfold sTab; rw [hl]; rfl) (by omega) (by omega)
theorem RsOK.sN : sN (sTab (rs.map sgR)) = rs.length := by unfold Go.Proofs.Ythkaeimpflggjaa.sN; rw [h.n]; omega

theorem RsOK.right : sRight (sTab (rs.map sgR)) = true := by
  have n0 := h.n0
  have n1 := h.n1
  have hl : (rs.map sgR).length = rs.length := by simp
  have f0 : n2at (sTab (rs.map sgR)) 0 = 4 := n2at_of (by rfl) (by omega) (by omega)
  have f2 : n2at (sTab (rs.map sgR)) 2 = 2 * (8 + 4 * (rs.length : Int)) := n2at_of (by unfold sTab; rw [hl]; rfl) (by omega) (by omega)
  have hb := srL_bound n0 (show rs.length < 32768 by omega)
  have f8 : n2at (sTab (rs.map sgR)) 8 = 2 * ((2 ^ expoS rs.length : Nat) : Int) := by have := hb _ (show _ ∈ srL rs.length from List.mem_cons_self); exact n2at_of (by unfold sTab; rw [hl]; rfl) this.1 this.2
  have f10 : n2at (sTab (rs.map sgR)) 10 = (expoS rs.length : Int) := by have := hb _ (show (expoS rs.length : Int) ∈ srL rs.length from by simp [srL]); exact n2at_of (by unfold sTab; rw [hl]; rfl) this.1 this.2
  have f12 : n2at (sTab (rs.map sgR)) 12 = 2 * (rs.length : Int) - 2 * ((2 ^ expoS rs.length : Nat) : Int) := by have := hb _ (show (2 * (rs.length : Int) - 2 * ((2 ^ expoS rs.length : Nat) : Int)) ∈ srL rs.length from by simp [srL]); exact n2at_of (by unfold sTab; rw [hl]; rfl) this.1 this.2
  unfold sRight sFront sCnt sCnt0 sTold
  rw [h.sN, f0, f2, f8, f10, f12, h.n, h.len]
  obtain ⟨y, hy⟩ := getP (l := rs) (j := rs.length - 1) (by omega)
  have hyb := h.last y hy
  have fe : n2at (sTab (rs.map sgR)) (12 + 2 * rs.length) = 65535 := by have := h.ends hy; rw [show 14 + 2 * (rs.length - 1) = 12 + 2 * rs.length by omega, hyb] at this; exact this
  have fz : n2at (sTab (rs.map sgR)) (14 + 2 * rs.length) = 0 := by
    have e : (sTab (rs.map sgR)).drop (14 + 2 * rs.length) = b2 0 ++ (colB Sg.a (rs.map sgR) ++ colB Sg.d (rs.map sgR) ++ colB (fun _ => 0) (rs.map sgR)) := by
      have hx : sTab (rs.map sgR) = (sPre rs.length ++ srB rs.length ++ colB Sg.b (rs.map sgR)) ++ (b2 0 ++ (colB Sg.a (rs.map sgR) ++ colB Sg.d (rs.map sgR) ++ colB (fun _ => 0) (rs.map sgR))) := by unfold sTab; rw [hl]; simp
      have hxl : (sPre rs.length ++ srB rs.length ++ colB Sg.b (rs.map sgR)).length = 14 + 2 * rs.length := by simp [sPre_len, srB_len, colB_len]; omega
      rw [hx, ← hxl, List.drop_left]
    exact n2at_of (by rw [e]; rfl) (by omega) (by omega)
  have hoks : sOkK (sTab (rs.map sgR)) rs.length rs.length = true := by
    unfold sOkK
    rw [List.all_eq_true]
    intro i hi
    have hi' := List.mem_range.1 hi
    obtain ⟨x, hx⟩ := getP (l := rs) (j := i) hi'
    have a1 := rnOK_at h.ok hx
    unfold sOkAt sOff
    rw [h.facts hx]
    have hle : sLeast (sTab (rs.map sgR)) i ≤ x.a := by
      unfold sLeast
      split
      · omega
      · obtain ⟨j, rfl⟩ : ∃ j, i = j + 1 := ⟨i - 1, by omega⟩
        obtain ⟨z, hz⟩ := getP (l := rs) (j := j) (by omega)
        have := rnOK_next h.ok hz hx
        rw [show 12 + 2 * (j + 1) = 14 + 2 * j by omega, h.ends hz]
        omega
    simp only [decide_eq_true hle, decide_eq_true a1.2.1]
    rfl
  have hend : sEnd (sTab (rs.map sgR)) rs.length = true := by unfold sEnd; rw [fe, fz]; rfl
  rw [hoks, hend]
  have q1 : decide (24 ≤ 2 * (8 + 4 * (rs.length : Int))) = true := decide_eq_true (by omega)
  have q2 : decide (2 * (8 + 4 * (rs.length : Int)) ≤ ((16 + 8 * rs.length : Nat) : Int)) = true := decide_eq_true (by omega)
  have q3 : decide (2 * (8 + 4 * (rs.length : Int)) % 2 = 0) = true := decide_eq_true (by omega)
  have q4 : decide (2 * (rs.length : Int) % 2 = 0) = true := decide_eq_true (by omega)
  have q5 : decide (2 * (rs.length : Int) / 2 ≠ 0) = true := decide_eq_true (by omega)
  have q6 : decide (16 + 8 * (2 * (rs.length : Int) / 2) ≤ 2 * (8 + 4 * (rs.length : Int))) = true := decide_eq_true (by omega)
  have q7 : decide ([2 * ((2 ^ expoS rs.length : Nat) : Int), (expoS rs.length : Int), 2 * (rs.length : Int) - 2 * ((2 ^ expoS rs.length : Nat) : Int)] = srL rs.length) = true := decide_eq_true rfl
  rw [q1, q2, q3, q4, q5, q6, q7]
  rfl

theorem RsOK.look (code : Int) : ∀ (f i : Nat), i + f = rs.length → lookS (sTab (rs.map sgR)) rs.length code i f = lookR (rs.drop i) code
  | 0, i, hi => by rw [List.drop_of_length_le (by omega)]; rfl
  | f + 1, i, hi => by
    obtain ⟨x, hx⟩ := getP (l := rs) (j := i) (by omega)
    have ih := RsOK.look code f (i + 1) (by omega)
    rw [lookS, h.ends hx, drop_consP hx]
    unfold lookR
    rw [findR]
    by_cases hc : code ≤ x.b
    · rw [if_pos hc, if_pos hc]
      unfold valS
      rw [h.facts hx]
      simp only
      by_cases ha : x.a ≤ code
      · rw [if_pos ha, if_pos ha, if_pos trivial]
        omega
      · rw [if_neg ha, if_neg ha]
    · rw [if_neg hc, if_neg hc, ih]
      rfl

end

theorem sTab_bytes (l : List Sg) : Bytes (sTab l) := by
  have hc : ∀ (val : Sg → Int) (l : List Sg), Bytes (colB val l) := by
    intro val l y hy
    unfold colB at hy
    obtain ⟨x, _, hx⟩ := List.mem_flatMap.1 hy
    exact b2_bytes _ y hx
  unfold sTab sPre srB
  refine bytes_append (bytes_append (bytes_append (bytes_append (bytes_append (bytes_append ?_ ?_) (hc _ _)) (b2_bytes _)) (hc _ _)) (hc _ _)) (hc _ _)
  · exact bytes_append (b2_bytes _) (bytes_append (b2_bytes _) (bytes_append (b2_bytes _) (b2_bytes _)))
  · exact bytes_append (b2_bytes _) (bytes_append (b2_bytes _) (b2_bytes _))

theorem lookR_last (code : Int) : ∀ (rs : List Rn) (ah : Int), rnOK 65534 ah rs → lookR (rs ++ [sgL]) code = lookR rs code
  | [], _, _ => by
    show lookR [sgL] code = lookR [] code
    unfold lookR
    rw [findR, findR]
    by_cases h : code ≤ sgL.b
    · rw [if_pos h]
      simp only
      split
      · simp [sgL] at *; omega
      · rfl
    · rw [if_neg h]
      rfl
  | x :: r, ah, h => by
    obtain ⟨h1, h2, h3, h4⟩ := h
    have ih := lookR_last code r x.b h4
    unfold lookR at ih ⊢
    rw [List.cons_append, findR, findR]
    by_cases hc : code ≤ x.b
    · rw [if_pos hc, if_pos hc]
    · rw [if_neg hc, if_neg hc]
      exact ih

theorem rnOK_last : ∀ (rs : List Rn) (ah : Int), ah ≤ 65534 → rnOK 65534 ah rs → rnOK 65535 ah (rs ++ [sgL])
  | [], ah, ha, _ => ⟨by simp [sgL]; omega, by simp [sgL], by simp [sgL], trivial⟩
  | x :: r, ah, ha, h => by
    obtain ⟨h1, h2, h3, h4⟩ := h
    exact ⟨h1, h2, by omega, rnOK_last r x.b h3 h4⟩

/-- Of pairs that rise below ffff. -/
theorem sOut_right {l : List Pr} (hg : PrG l) (h : risesF 65534 (-1) l = true) (hl : l.length ≤ 7999) :
    sOut l = sTab ((sRuns l).map sgR) ∧ sRight (sOut l) = true ∧ sN (sOut l) = (runsF folS l).length + 1 ∧ (∀ code, lookS (sOut l) ((runsF folS l).length + 1) code 0 ((runsF folS l).length + 1) = glyphOf code l) ∧ Bytes (sOut l) ∧ (sOut l).length = 16 + 8 * ((runsF folS l).length + 1) := by
  have hlen := runsF_len folS l
  have hrl : (sRuns l).length = (runsF folS l).length + 1 := by unfold sRuns; simp
  have hok := runs_ok folS_code 65534 l (-1) h
  have hr : RsOK (sRuns l) := ⟨by omega, by omega, rnOK_last _ _ (by omega) hok, fun x hx => by
    unfold sRuns at hx
    rcases List.mem_append.1 hx with hx | hx
    · exact runsS_g l hg x hx
    · simp at hx; subst hx; simp [sgL], fun x hx => by
    unfold sRuns at hx
    simp at hx
    subst hx
    rfl⟩
  have e : sOut l = sTab ((sRuns l).map sgR) := by
    unfold sOut sGood
    rw [h, decide_eq_true (by omega)]
    rfl
  rw [e, ← hrl]
  refine ⟨rfl, hr.right, hr.sN, fun code => ?_, sTab_bytes _, hr.len⟩
  rw [hr.look code _ 0 (by omega), List.drop_zero]
  unfold sRuns
  rw [lookR_last code _ (-1) hok, lookS_runs 65534 code l (-1) hg h]

theorem sOut_nil {l : List Pr} (h : risesF 65534 (-1) l = false) : sOut l = [] := by unfold sOut sGood; rw [h]; rfl

end Go.Proofs.Ythkaeimpflggjaa

/- The document's example of segments; a map in a box. -/
namespace Go.Proofs.Ythkaeimpflggjaa
open Go.RowKit
set_option linter.unusedVariables false

/-- A map in a box. -/
structure BoxS (w wr : World) (bx : Nat) (A2 : Option Addr) (N c2 : Nat) (zs : List Int) (g : Nat) : Prop where
  box : wr.heap[bx]? = some (.cells #[.slice A2 N c2] 59 (0, 0))
  map : SMap wr A2 N zs g
  bel : Below w.heap.size w wr
theorem BoxS.below {w wr w' : World} {bx : Nat} {A2 : Option Addr} {N c2 : Nat} {zs : List Int} {g : Nat} (h : BoxS w wr bx A2 N c2 zs g) (hb : Below wr.heap.size wr w') : BoxS w w' bx A2 N c2 zs g :=
  ⟨kept_block h.box hb, h.map.below hb, h.bel.trans (hb.mono h.bel.size)⟩
theorem BoxS.cell {w wr : World} {bx : Nat} {A2 : Option Addr} {N c2 : Nat} {zs : List Int} {g : Nat} (h : BoxS w wr bx A2 N c2 zs g) : wr.cell? ⟨bx, 0, none⟩ = some (.slice A2 N c2) := cell_of_row _ _ 0 _ _ _ h.box
theorem BoxS.look {w wr : World} {bx : Nat} {A2 : Option Addr} {N c2 : Nat} {zs : List Int} {g : Nat} (h : BoxS w wr bx A2 N c2 zs g) (hN : N ≤ 100000) (code v : Int) (hv : lookS zs N code 0 N = v) (c0 : -2147483648 ≤ code) (c1 : code ≤ 2147483647) :
    Calls Try.prog 30 #[.agg #[.slice A2 N c2], .int .i32 code] wr (Ret wr (.int .u16 v)) := hv ▸ slook_any A2 N c2 zs g code wr h.map (by omega) c0 c1

def ex09 : List Pr := [⟨65, 3⟩, ⟨66, 4⟩]
theorem ex09_g : PrG ex09 := by intro p hp; simp [ex09] at hp; rcases hp with rfl | rfl <;> simp

set_option maxRecDepth 100000 in
set_option maxHeartbeats 2000000 in
theorem awake09_any (w : World) : Calls Try.prog 23 #[] w (True_ w) := by
  have hA : Below w.heap.size w (w.alloc (.cells #[.int .i32 65, .int .u16 3, .int .i32 66, .int .u16 4] 67)) := (Below.refl _ _).alloc (Nat.le_refl _) _
  have hrow : RowS encP 2 (w.alloc (.cells #[.int .i32 65, .int .u16 3, .int .i32 66, .int .u16 4] 67)) (some ⟨w.heap.size, 0, none⟩) 2 ex09 := rowS_vals encP_len w 67 ex09 _ rfl 2 rfl
  have hris : risesF 65534 (-1) ex09 = true := by decide
  obtain ⟨e0, e1, e2, e3, e4, e5⟩ := sOut_right ex09_g hris (by decide)
  have en : (runsF folS ex09).length + 1 = 2 := by decide
  have el := e3 66
  rw [show glyphOf 66 ex09 = 4 by decide] at el
  rw [en] at e2 e5 el
  have HG := Lib.hid (sbuild_any (some ⟨w.heap.size, 0, none⟩) 2 2 ex09 _ hrow (by omega) ex09_g)
  clear hrow hris e0 e3
  generalize sOut ex09 = zs at *
  go_enter Try.func23, Try.ntmps23
  go_wp2_with fail
  with_reducible refine HG.out.mono ?_
  rintro e w1 ⟨A1, n1, c1, rfl, hown1, hb1⟩
  have hl1 := hown1.len
  have hbw := hA.trans (hb1.mono hA.size)
  have HP := Lib.hid (sparse_any A1 n1 c1 zs w1 hown1.row e4 (by omega) hown1.cap)
  clear HG hA hb1 hown1
  go_wp2_with fail
  with_reducible refine HP.out.mono ?_
  rintro e w2 ⟨hb2, ⟨hf, _⟩ | ⟨_, A2, c2, g2, rfl, hown2, hnum2⟩⟩
  · rw [e1] at hf; cases hf
  have hm := SMap.of e4 e1 hown2 hnum2
  rw [e2] at hm ⊢
  have hbw2 := hbw.trans (hb2.mono hbw.size)
  clear HP hown2 hnum2 hb2 hbw e1 e4
  unfold smV
  have hA2 : Below w2.heap.size w2 (w2.alloc (.cells #[.slice A2 2 c2] 59)) := (Below.refl _ _).alloc (Nat.le_refl _) _
  have hs : BoxS w (w2.alloc (.cells #[.slice A2 2 c2] 59)) w2.heap.size A2 2 c2 zs g2 := ⟨heap_alloc_new w2 _, hm.below hA2, hbw2.trans (hA2.mono hbw2.size)⟩
  have kb := hs.cell
  have HGr := Lib.hid (fun W => ssegments_any A2 2 c2 W)
  unfold smV at HGr
  have HL : Hid (∀ W, BoxS w W w2.heap.size A2 2 c2 zs g2 → Calls Try.prog 30 #[.agg #[.slice A2 2 c2], .int .i32 66] W (Ret W (.int .u16 4))) := fun W h => h.look (by omega) 66 4 el (by omega) (by omega)
  clear hm hA2 hbw2 el
  go_wp2_with (first
    | (go_at_call 28; (with_reducible refine (HGr.out _).mono ?_); rintro e wn ⟨rfl, hbn⟩; replace hs := hs.below hbn; replace kb := hs.cell; clear hbn)
    | (go_at_call 30; (with_reducible refine (HL.out _ hs).mono ?_); rintro e wn ⟨rfl, hbn⟩; replace hs := hs.below hbn; replace kb := hs.cell; clear hbn))
  go_ret
  exact ⟨rfl, hs.bel⟩

theorem glyphOf_absent {c : Int} : ∀ {l : List Pr}, (∀ p ∈ l, p.code ≠ c) → glyphOf c l = 0
  | [], _ => rfl
  | p :: r, h => by
    rw [glyphOf, if_neg (h p (by simp))]
    exact glyphOf_absent (fun q hq => h q (by simp [hq]))

end Go.Proofs.Ythkaeimpflggjaa

/- Bytes that come in as a slice. -/
namespace Go.Proofs.Ythkaeimpflggjaa
open Go.RowKit Go.ChangeShapes Go.WideShapes Go.ChangeAt
set_option linter.unusedVariables false

set_option maxRecDepth 100000 in
theorem open_bs {H : Type} {enc : TypeId × Value → H} {W : World} {base : Nat} {v : Value} {d : DataW H} {p : List MemPlace} (hv : Value.okWide Try.prog W .any base 27 v) (h : DataW.Trod enc Try.prog W 0 (fun _ => true) true 27 v d p) :
    ∃ A n c zs, v = .slice A n c ∧ Row W A n (cellsOf .u8 zs) ∧ Bytes zs ∧ n ≤ 9223372036854775807 := by
  obtain ⟨a, len, cap, rfl⟩ := okWide_slice Try.underlying27 hv
  obtain ⟨fuel, hf⟩ := h
  have key : ∃ zs, (a = none ∧ len = 0 ∧ cap = 0 ∧ zs = []) ∨ ∃ x, a = some x ∧ len ≤ cap ∧ cap ≤ maxLen ∧ zs.length = cap ∧ (∀ i, i < zs.length → W.cell? (x.add i) = some (.int .u8 (zs.getD i 0))) ∧ ∀ n ∈ zs, (Lit.int .u8 n).wf = true := by
    rcases open_ints Try.underlying27 Try.underlying5 (by kernel_rfl) hf with ⟨hcs, _⟩ | ⟨x, l, c, zs, hcs, _, hl, hm, hz, _, hcell, hwz⟩
    · simp [Value.cells] at hcs
      obtain ⟨rfl, rfl, rfl⟩ := hcs
      exact ⟨[], .inl ⟨rfl, rfl, rfl, rfl⟩⟩
    · simp [Value.cells] at hcs
      obtain ⟨rfl, rfl, rfl⟩ := hcs
      exact ⟨zs, .inr ⟨_, rfl, hl, hm, by simpa using hz, hcell, hwz⟩⟩
  obtain ⟨zs, w0⟩ := key
  exact ⟨a, len, cap, zs.take len, rfl, (row_of w0).1, bytes_of (row_of w0).2.2, (row_of w0).2.1⟩

end Go.Proofs.Ythkaeimpflggjaa
