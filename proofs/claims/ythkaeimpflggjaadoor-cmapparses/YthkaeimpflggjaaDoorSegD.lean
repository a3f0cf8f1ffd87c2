/- The document's Build of segments, as a contract over this seat's translation. -/
import Derived.Test.YthkaeimpflggjaaDoorSegX
import Derived.Test.YthkaeimpflggjaaDoorGrpD
import Derived.Test.YthkaeimpflggjaaDoorInts
import Derived.Deep.QuietTactic
import Derived.BigQuiet
import Derived.StillTailTactics
namespace Go.Proofs.YthkaeimpflggjaaDoor
open Go.RowKit
set_option linter.unusedVariables false

theorem Tryd.ai3info : (Tryd.prog.info? 109).map (fun i => (i.zero, i.size, i.bytes)) = some (some (.agg #[.int .i64 0, .int .i64 0, .int .i64 0]), 3, 24) := by kernel_rfl

def encT (x : Rn) : List Value := [.int .i64 x.a, .int .i64 x.b, .int .i64 ((x.g - x.a) % 65536)]
theorem encT_len (x : Rn) : (encT x).length = 3 := rfl
theorem encT_one (x : Rn) : ∀ u ∈ encT x, u.oneCell' = true := by intro u hu; simp [encT] at hu; rcases hu with rfl | rfl | rfl <;> rfl
theorem flat_endT (s : List Rn) (x : Rn) (c : Int) : flat encT (s ++ [(⟨x.a, c, x.g⟩ : Rn)]) = (flat encT (s ++ [x])).set (s.length * 3 + 1) (.int .i64 c) := by
  rw [← flat_append, ← flat_append, List.set_append_right _ _ (by rw [flat_length encT_len]; omega), flat_length encT_len, Nat.add_sub_cancel_left]
  rfl
theorem atT {w : World} {A : Option Addr} {n : Nat} {l : List Rn} {j : Nat} {x : Rn} (h : RowS encT 3 w A n l) (hj : l[j]? = some x) :
    ∃ g off, A = some ⟨g, off, none⟩ ∧ g < w.heap.size ∧ w.cell? ⟨g, off + j * 3, none⟩ = some (.int .i64 x.a) ∧ w.cell? ⟨g, off + j * 3 + 1, none⟩ = some (.int .i64 x.b) ∧ w.cell? ⟨g, off + j * 3 + 2, none⟩ = some (.int .i64 ((x.g - x.a) % 65536)) := by
  obtain ⟨g, off, e, hg, hc⟩ := h.at encT_len (by omega) hj
  exact ⟨g, off, e, hg, hc 0 _ rfl, hc 1 _ rfl, hc 2 _ rfl⟩

/-- What is asked of pairs. -/
def OkQ5 (l : List Pr) : Prop := ∀ p ∈ l, 0 ≤ p.code ∧ p.code ≤ 65534 ∧ 0 ≤ p.glyph ∧ p.glyph ≤ 65535

/-- A column of runs. -/
def colR (val : Rn → Int) (l : List Rn) : List Int := l.flatMap fun x => b2 (val x)
theorem colR_len (val : Rn → Int) (l : List Rn) : (colR val l).length = 2 * l.length := by
  induction l with
  | nil => rfl
  | cons x r ih => unfold colR at ih ⊢; rw [List.flatMap_cons, List.length_append, ih]; simp [b2]; omega
theorem colR_snoc (val : Rn → Int) {l : List Rn} {k : Nat} {x : Rn} (h : l[k]? = some x) : colR val (l.take (k + 1)) = colR val (l.take k) ++ b2 (val x) := by
  unfold colR
  rw [List.take_add_one, h]
  simp
theorem colR_map (val : Sg → Int) (l : List Rn) : colR (fun x => val (sgR x)) l = colB val (l.map sgR) := by
  unfold colR colB
  rw [List.flatMap_map]
/-- The columns. -/
def parts4 (l : List Rn) : List (List Int) := [colR (fun x => x.b) l, b2 0, colR (fun x => x.a) l, colR (fun x => (x.g - x.a) % 65536) l]
def outK (hd : List Int) (l : List Rn) (k : Nat) : List Int := hd ++ ((parts4 l).take k).flatten
theorem outK_succ (hd : List Int) (l : List Rn) {k : Nat} {y : List Int} (h : (parts4 l)[k]? = some y) : outK hd l (k + 1) = outK hd l k ++ y := by
  unfold outK
  rw [List.take_add_one, h, List.append_assoc]
  simp
theorem zero_col (l : List Sg) : List.replicate (2 * l.length) (0 : Int) = colB (fun _ => 0) l := by
  induction l with
  | nil => rfl
  | cons x r ih =>
    unfold colB at ih ⊢
    rw [List.flatMap_cons, ← ih, List.length_cons, show 2 * (r.length + 1) = (2 * r.length) + 1 + 1 by omega, List.replicate_succ, List.replicate_succ]
    rfl
theorem outK_tab (l : List Rn) : outK (sPre l.length ++ srB l.length) l 4 ++ List.replicate (2 * l.length) 0 = sTab (l.map sgR) := by
  have hl : (l.map sgR).length = l.length := by simp
  have h0 := zero_col (l.map sgR)
  rw [hl] at h0
  rw [h0]
  unfold outK parts4 sTab
  rw [hl, ← colR_map Sg.b l, ← colR_map Sg.a l, ← colR_map Sg.d l]
  simp [sgR]

theorem runsS_ab {lo hi : Int} : ∀ (l : List Pr), (∀ p ∈ l, lo ≤ p.code ∧ p.code ≤ hi) → ∀ x ∈ runsF folS l, (lo ≤ x.a ∧ x.a ≤ hi) ∧ lo ≤ x.b ∧ x.b ≤ hi
  | [], _ => by simp [runsF]
  | [p], h => by
    intro x hx
    rw [runsF_one] at hx
    simp at hx
    subst hx
    exact ⟨h p (by simp), h p (by simp)⟩
  | p :: q :: r, h => by
    have ih := runsS_ab (q :: r) (fun x hx => h x (by simp at hx ⊢; right; exact hx))
    have hp := h p (by simp)
    obtain ⟨y, t, e, ha, hg⟩ := runsF_head folS q r
    intro x hx
    cases hf : folS p q with
    | false =>
      rw [runsF_no folS p q r hf] at hx
      rcases List.mem_cons.1 hx with rfl | hx
      · exact ⟨hp, hp⟩
      · exact ih x hx
    | true =>
      rw [runsF_yes folS p q r y t e hf] at hx
      rw [e] at ih
      rcases List.mem_cons.1 hx with rfl | hx
      · exact ⟨hp, (ih y (by simp)).2⟩
      · exact ih x (by simp [hx])
theorem sRuns_fit {l : List Pr} (hok : OkQ5 l) : ∀ x ∈ sRuns l, (0 ≤ x.a ∧ x.a < 65536) ∧ (0 ≤ x.b ∧ x.b < 65536) := by
  intro x hx
  unfold sRuns at hx
  rcases List.mem_append.1 hx with h | h
  · have := runsS_ab (lo := 0) (hi := 65534) l (fun p hp => by have := hok p hp; omega) x h
    omega
  · simp at h
    subst h
    simp [sgL]

/-- The columns that are written one by one. -/
theorem col_pick (k : Nat) (hk : k < 4) : k = 1 ∨ ∃ (j : Nat) (val : Rn → Int), j < 3 ∧ ([1, 3, 0, 2] : List Int)[k]? = some (j : Int) ∧ (∀ rs, (parts4 rs)[k]? = some (colR val rs)) ∧ (∀ x, (encT x)[j]? = some (.int .i64 (val x))) ∧ (∀ x : Rn, ((0 ≤ x.a ∧ x.a < 65536) ∧ (0 ≤ x.b ∧ x.b < 65536)) → 0 ≤ val x ∧ val x < 65536) := by
  rcases (show k = 0 ∨ k = 1 ∨ k = 2 ∨ k = 3 by omega) with rfl | rfl | rfl | rfl
  · exact .inr ⟨1, fun x => x.b, by omega, rfl, fun _ => rfl, fun _ => rfl, fun x h => h.2⟩
  · exact .inl rfl
  · exact .inr ⟨0, fun x => x.a, by omega, rfl, fun _ => rfl, fun _ => rfl, fun x h => h.1⟩
  · exact .inr ⟨2, fun x => (x.g - x.a) % 65536, by omega, rfl, fun _ => rfl, fun _ => rfl, fun x h => by show 0 ≤ (x.g - x.a) % 65536 ∧ (x.g - x.a) % 65536 < 65536; omega⟩
theorem outK_len (hd : List Int) (rs : List Rn) (k : Nat) : (outK hd rs k).length ≤ hd.length + 6 * rs.length + 2 := by
  unfold outK parts4
  rw [List.length_append]
  have a1 := colR_len (fun x => x.b) rs
  have a2 := colR_len (fun x => x.a) rs
  have a3 := colR_len (fun x => (x.g - x.a) % 65536) rs
  have a4 : (b2 0).length = 2 := rfl
  rcases k with _ | _ | _ | _ | k
  all_goals simp only [List.take_zero, List.take_succ_cons, List.take_nil, List.flatten_nil, List.flatten_cons, List.append_nil, List.length_nil, List.length_append]
  all_goals omega

/-- The runs in memory, the columns' numbers, and what is written. -/
structure CS (w wr : World) (A6 : Option Addr) (N c6 : Nat) (rs : List Rn) (bk : Nat) (Ao : Option Addr) (no co : Nat) (zs : List Int) : Prop where
  run : OwnS 109 encT 3 wr w.heap.size A6 N c6 rs
  num : Row wr (some ⟨bk, 0, none⟩) 4 (cellsOf .i64 [1, 3, 0, 2])
  out : OwnB wr w.heap.size Ao no co zs
  bel : Below w.heap.size w wr
theorem CS.below {w wr w' : World} {A6 : Option Addr} {N c6 : Nat} {rs : List Rn} {bk : Nat} {Ao : Option Addr} {no co : Nat} {zs : List Int} (h : CS w wr A6 N c6 rs bk Ao no co zs) (hb : Below wr.heap.size wr w') : CS w w' A6 N c6 rs bk Ao no co zs :=
  ⟨h.run.below hb, h.num.below hb, h.out.below hb, h.bel.trans (hb.mono h.bel.size)⟩
theorem CS.new {w wr w' : World} {A6 : Option Addr} {N c6 : Nat} {rs : List Rn} {bk : Nat} {Ao A2 : Option Addr} {no co n2 c2 : Nat} {zs ys : List Int} (h : CS w wr A6 N c6 rs bk Ao no co zs) (hb : Below wr.heap.size wr w') (ho : OwnB w' wr.heap.size A2 n2 c2 ys) : CS w w' A6 N c6 rs bk A2 n2 c2 ys :=
  ⟨h.run.below hb, h.num.below hb, ho.mono h.bel.size, h.bel.trans (hb.mono h.bel.size)⟩

/-- The runs, and the last segment, gathered. -/
def RunK (w : World) (l : List Pr) (n : Nat) (s i : Value) (wr : World) : Prop :=
  ∃ (k m : Nat) (Ar : Option Addr) (cr : Nat), k ≤ n ∧ i = .int .i64 k ∧ s = .slice Ar m cr ∧ OwnS 109 encT 3 wr w.heap.size Ar m cr (runsF folS (l.take k)) ∧ Below w.heap.size w wr

set_option maxRecDepth 100000 in
set_option maxHeartbeats 8000000 in
theorem rbuild9_any (A : Option Addr) (n c : Nat) (l : List Pr) (w : World) (hr : RowS encQ 2 w A n l) (hn : n ≤ 7000) (hok : OkQ5 l) :
    Calls Tryd.prog 32 #[.slice A n c] w (RetB w (sTab ((sRuns l).map sgR))) := by
  obtain ⟨i0, hi, hz0, hz1, hz2⟩ := info_parts Tryd.ai3info
  obtain ⟨i8, hi8, hz08, hz18, hz28⟩ := info_parts Tryd.u8info
  have Hn := Lib.hid hr.len
  have Hok := Lib.hid hok
  clear hok
  go_enter Tryd.func32, Tryd.ntmps32
  go_wp2
  go_loopw [3, 14] (fun s i wr => RunK w l n s i wr) (fun _ i _ => n - (intOf i).toNat)
  case atStart => exact ⟨0, 0, none, 0, Nat.zero_le _, rfl, rfl, OwnS.nil _ _ _ _ _, Below.refl _ _⟩
  case round =>
    obtain ⟨k, m, Ar, cr, hk, rfl, rfl, hown, hb⟩ := hrel
    have hm : m ≤ k := by have := hown.len; have h2 := runsF_len folS (l.take k); rw [List.length_take] at h2; omega
    by_cases hlt : k < n
    · obtain ⟨p, hp⟩ := getP (l := l) (j := k) (by have := Hn.out; omega)
      obtain ⟨g, off, rfl, hg, q0, q1⟩ := atQ (hr.below hb) hp
      have hpo := Hok.out p (List.mem_of_getElem? hp)
      have hA := (Below.refl wr.heap.size wr).alloc (Nat.le_refl _) (.cells #[.int .i64 p.code, .int .i64 p.glyph] 60)
      have hown1 := hown.below hA
      have hb1 := hb.trans (hA.mono hb.size)
      have x0 : (wr.alloc (.cells #[.int .i64 p.code, .int .i64 p.glyph] 60)).cell? ⟨wr.heap.size, 0, none⟩ = some (.int .i64 p.code) := cell_of_row _ _ 0 _ _ _ (heap_alloc_new wr _)
      have x1 : (wr.alloc (.cells #[.int .i64 p.code, .int .i64 p.glyph] 60)).cell? ⟨wr.heap.size, 1, none⟩ = some (.int .i64 p.glyph) := cell_of_row _ _ 1 _ _ _ (heap_alloc_new wr _)
      have hr1 := hr.below hb1
      by_cases h0 : 0 < k
      · obtain ⟨j, rfl⟩ : ∃ j, k = j + 1 := ⟨k - 1, by omega⟩
        obtain ⟨q, hq⟩ := getP (l := l) (j := j) (by have := Hn.out; omega)
        have hqo := Hok.out q (List.mem_of_getElem? hq)
        obtain ⟨g', off', e', _, r0, r1⟩ := atQ hr1 hq
        simp only [Option.some.injEq, Addr.mk.injEq, and_true] at e'
        obtain ⟨rfl, rfl⟩ := e'
        obtain ⟨st1, st2⟩ := runs_step folS hq hp
        have ST1 := Lib.hid st1
        have ST2 := Lib.hid st2
        have HFo : Hid (folS q p = decide (p.code = q.code + 1 ∧ p.glyph = (q.glyph + 1) % 65536)) := rfl
        clear st1 st2 hq hp hr1 hown hA
        obtain ⟨pc, pg⟩ := p
        obtain ⟨qc, qg⟩ := q
        simp only at *
        have F2 : (pg - pc + 65536) % 65536 = (pg - pc) % 65536 := by omega
        have ej : ((j : Int) + 1 - 1) = (j : Int) := by omega
        have ej2 : (((j + 1 : Nat) : Int) - 1) = (j : Int) := by omega
        have W2 : IntKind.i64.wrap (qc + 1) = qc + 1 := IntWalk.i64_in _ (by omega)
        have W3 : IntKind.i64.wrap (qg + 1) = qg + 1 := IntWalk.i64_in _ (by omega)
        have m3 : (qg + 1).tmod 65536 = (qg + 1) % 65536 := Int.tmod_eq_emod_of_nonneg (by omega)
        have d0 : decide ((0 : Int) < (j : Int) + 1) = true := decide_eq_true (by omega)
        go_wp2_with fail
        by_cases h1 : pc = qc + 1
        · have b1 : (pc == qc + 1) = true := by simp [h1]
          by_cases h2 : pg = (qg + 1) % 65536
          · have e2 : (pg == (qg + 1) % 65536) = true := by simp [h2]
            have HY := Lib.hid (ST2.out (by rw [HFo.out]; exact decide_eq_true ⟨h1, h2⟩))
            clear ST1 ST2 HFo h1 h2
            generalize wr.alloc (.cells #[.int .i64 pc, .int .i64 pg] 60) = V at *
            generalize wr.heap.size = bx at *
            go_quiet (fail)
            have hb2 := below_drewN hb1 nq
            have hown2 := hown1.drewN nq
            have b0 : (V.drewN nq).cell? ⟨bx, 0, none⟩ = some (.int .i64 pc) := x0
            have b1' : (V.drewN nq).cell? ⟨bx, 1, none⟩ = some (.int .i64 pg) := x1
            clear x0 x1 hown1 hb1 q0 q1 r0 r1
            generalize V.drewN nq = U at *
            have hsU := hb2.size
            obtain ⟨s, x, e4, e5⟩ := HY.out
            rw [e4] at hown2
            have hlm : s.length + 1 = m := by have := hown2.len; simpa using this
            subst hlm
            obtain ⟨gr, _, e6, _, c0, c1, c2⟩ := atT (hown2.row encT_len) (j := s.length) (x := x) (by simp)
            rcases hown2.shape with ⟨e7, _⟩ | ⟨g2, _, e7, hg2, _⟩
            · rw [e7] at e6; cases e6
            · rw [e7] at e6
              simp only [Option.some.injEq, Addr.mk.injEq, and_true] at e6
              obtain ⟨rfl, rfl⟩ := e6
              subst e7
              rw [Nat.zero_add] at c0 c1 c2
              have f0 : U.drew.frozen? ⟨g2, s.length * 3 + 1, none⟩ = false := hown2.drew.thaw _
              have c1' : U.drew.cell? ⟨g2, s.length * 3 + 1, none⟩ = some (.int .i64 x.b) := c1
              have b0' : U.drew.cell? ⟨bx, 0, none⟩ = some (.int .i64 pc) := b0
              have E5 := Lib.hid e5
              have O6 : Hid (OwnS 109 encT 3 (U.drew.setCell ⟨g2, s.length * 3 + 1, none⟩ (.int .i64 pc)) w.heap.size (some ⟨g2, 0, none⟩) (s.length + 1) cr (s ++ [(⟨x.a, pc, x.g⟩ : Rn)])) := ownS_setCell hown2.drew (by simp) (flat_endT s x pc)
              have B6 := Lib.hid (below_set hg2 (s.length * 3 + 1) (.int .i64 pc) hb2.drew)
              have es : (((s.length + 1 : Nat) : Int) - 1) = (s.length : Int) := by omega
              have es2 : ((s.length : Int) + 1 - 1) = (s.length : Int) := by omega
              have Wm : IntKind.i64.wrap (s.length : Int) = (s.length : Int) := IntWalk.i64_in _ (by omega)
              have Wm1 : IntKind.i64.wrap ((s.length : Int) + 1) = (s.length : Int) + 1 := IntWalk.i64_in _ (by omega)
              have z0 : (0 : Int) ≤ (s.length : Int) := by omega
              have z1 : (s.length : Int) < (s.length : Int) + 1 := by omega
              clear HY e4 e5 hown2 hb2
              generalize s.length = m at *
              go_wp2_with fail
              go_still_tail 8, (by kernel_rfl)
              go_wp2
              go_roundw
              case rel => exact ⟨j + 1 + 1, m + 1, some ⟨g2, 0, none⟩, cr, by omega, by go_num, rfl, by rw [E5.out]; exact O6.out, B6.out⟩
              case measure => simp [intOf]; omega
          · have e2 : (pg == (qg + 1) % 65536) = false := by simp [h2]
            have E3 := Lib.hid (ST1.out (by rw [HFo.out]; exact decide_eq_false (fun h => h2 h.2)))
            clear ST1 ST2 HFo h1 h2
            generalize wr.alloc (.cells #[.int .i64 pc, .int .i64 pg] 60) = V at *
            generalize wr.heap.size = bx at *
            go_quiet (fail)
            have hb2 := below_drewN hb1 nq
            have hown2 := hown1.drewN nq
            have b0 : (V.drewN nq).cell? ⟨bx, 0, none⟩ = some (.int .i64 pc) := x0
            have b1' : (V.drewN nq).cell? ⟨bx, 1, none⟩ = some (.int .i64 pg) := x1
            clear x0 x1 hown1 hb1 q0 q1 r0 r1
            generalize V.drewN nq = U at *
            have hsU := hb2.size
            go_wp2_with (at_builtin; refine wpList_append_rowS rfl (.tmp 54) (.tmp 67) _ rfl 109 encT 3 encT_len (by omega) encT_one w.heap.size i0 _ 24 Tryd.underlying108 hi hz0 hz1 rfl hz2 _ m cr _ rfl (hown2.alloc _) (some ⟨U.heap.size, 0, none⟩) 1 1 [⟨pc, pc, pg⟩] rfl (rowS_vals encT_len U 109 [⟨pc, pc, pg⟩] _ rfl 1 rfl) (by omega) (by omega) (by simp; omega) ?_; intro A6 c6 w6 ho6 hg6)
            go_roundw
            case rel => exact ⟨j + 1 + 1, m + 1, A6, c6, by omega, by go_num, rfl, by rw [E3.out]; exact ho6, (hb2.alloc hb2.size _).grown hg6 (hb2.alloc hb2.size _).size (fun q e => (hown2.from_ q e).1)⟩
            case measure => simp [intOf]; omega
        · have b1 : (pc == qc + 1) = false := by simp [h1]
          have E3 := Lib.hid (ST1.out (by rw [HFo.out]; exact decide_eq_false (fun h => h1 h.1)))
          clear ST1 ST2 HFo h1
          generalize wr.alloc (.cells #[.int .i64 pc, .int .i64 pg] 60) = V at *
          generalize wr.heap.size = bx at *
          go_quiet (fail)
          have hb2 := below_drewN hb1 nq
          have hown2 := hown1.drewN nq
          have b0 : (V.drewN nq).cell? ⟨bx, 0, none⟩ = some (.int .i64 pc) := x0
          have b1' : (V.drewN nq).cell? ⟨bx, 1, none⟩ = some (.int .i64 pg) := x1
          clear x0 x1 hown1 hb1 q0 q1 r0 r1
          generalize V.drewN nq = U at *
          have hsU := hb2.size
          go_wp2_with (at_builtin; refine wpList_append_rowS rfl (.tmp 54) (.tmp 67) _ rfl 109 encT 3 encT_len (by omega) encT_one w.heap.size i0 _ 24 Tryd.underlying108 hi hz0 hz1 rfl hz2 _ m cr _ rfl (hown2.alloc _) (some ⟨U.heap.size, 0, none⟩) 1 1 [⟨pc, pc, pg⟩] rfl (rowS_vals encT_len U 109 [⟨pc, pc, pg⟩] _ rfl 1 rfl) (by omega) (by omega) (by simp; omega) ?_; intro A6 c6 w6 ho6 hg6)
          go_roundw
          case rel => exact ⟨j + 1 + 1, m + 1, A6, c6, by omega, by go_num, rfl, by rw [E3.out]; exact ho6, (hb2.alloc hb2.size _).grown hg6 (hb2.alloc hb2.size _).size (fun q e => (hown2.from_ q e).1)⟩
          case measure => simp [intOf]; omega
      · obtain rfl : k = 0 := by omega
        have E3 := Lib.hid (runs_first folS hp)
        have hd0 : ¬ (0 : Int) < 0 := by omega
        have hdf : decide ((0 : Int) < 0) = false := by decide
        have er : runsF folS (l.take 0) = [] := by rw [List.take_zero]; rfl
        rw [er] at hown1
        clear hown hA hr1 hp er
        obtain ⟨pc, pg⟩ := p
        simp only at *
        have F2 : (pg - pc + 65536) % 65536 = (pg - pc) % 65536 := by omega
        rw [Nat.zero_mul, Nat.add_zero] at q0 q1
        go_wp2_with fail
        generalize wr.alloc (.cells #[.int .i64 pc, .int .i64 pg] 60) = V at *
        generalize wr.heap.size = bx at *
        go_quiet (fail)
        have hb2 := below_drewN hb1 nq
        have hown2 := hown1.drewN nq
        have b0 : (V.drewN nq).cell? ⟨bx, 0, none⟩ = some (.int .i64 pc) := x0
        have b1' : (V.drewN nq).cell? ⟨bx, 1, none⟩ = some (.int .i64 pg) := x1
        clear x0 x1 hown1 hb1 q0 q1 
        generalize V.drewN nq = U at *
        have hsU := hb2.size
        go_wp2_with (at_builtin; refine wpList_append_rowS rfl (.tmp 54) (.tmp 67) _ rfl 109 encT 3 encT_len (by omega) encT_one w.heap.size i0 _ 24 Tryd.underlying108 hi hz0 hz1 rfl hz2 _ m cr _ rfl (hown2.alloc _) (some ⟨U.heap.size, 0, none⟩) 1 1 [⟨pc, pc, pg⟩] rfl (rowS_vals encT_len U 109 [⟨pc, pc, pg⟩] _ rfl 1 rfl) (by omega) (by omega) (by simp; omega) ?_; intro A6 c6 w6 ho6 hg6)
        go_roundw
        case rel => exact ⟨0 + 1, m + 1, A6, c6, by omega, by go_num, rfl, by rw [E3.out]; exact ho6, (hb2.alloc hb2.size _).grown hg6 (hb2.alloc hb2.size _).size (fun q e => (hown2.from_ q e).1)⟩
        case measure => simp [intOf]; omega
    · obtain rfl : k = n := by omega
      have E3 : Hid (runsF folS (l.take k) = runsF folS l) := by show _ = _; rw [List.take_of_length_le (by have := Hn.out; omega)]
      rw [E3.out] at hown
      have hlR := runsF_len folS l
      have hmR := hown.len
      have hNl := Hn.out
      have HR : Hid (runsF folS l ++ [sgL] = sRuns l) := rfl
      have HFit := Lib.hid (sRuns_fit Hok.out)
      have HF2 : Hid ((sRuns l).length = m + 1) := by show _ = _; unfold sRuns; simp [hmR]
      clear hmR E3
      go_wp2_with (at_builtin; refine wpList_append_rowS rfl (.tmp 70) (.tmp 72) _ rfl 109 encT 3 encT_len (by omega) encT_one w.heap.size i0 _ 24 Tryd.underlying108 hi hz0 hz1 rfl hz2 _ m cr _ rfl (hown.alloc _) (some ⟨wr.heap.size, 0, none⟩) 1 1 [sgL] rfl (rowS_vals encT_len wr 109 [sgL] _ rfl 1 rfl) (by omega) (by omega) (by simp; have := hb.size; omega) ?_; intro A6 c6 w6 ho6 hg6)
      have hb6 := (hb.alloc hb.size _).grown hg6 (hb.alloc hb.size _).size (fun q e => (hown.from_ q e).1)
      rw [HR.out] at ho6
      clear hown hb hg6 HR
      generalize sRuns l = rs at *
      obtain ⟨N, hN⟩ : ∃ N, m + 1 = N := ⟨_, rfl⟩
      have hNi : (m : Int) + 1 = (N : Int) := by omega
      have hN0 : 1 ≤ N := by omega
      have hN1 : N ≤ 7001 := by omega
      rw [hN] at ho6 HF2
      have hgt := Got.nil w6
      have HSr := Lib.hid (fun W => rsearch9_any N W (by omega) (by omega))
      go_wp2_with (first
        | (go_at_call 20; refine (b2_any _ _ (by omega) (by omega)).mono ?_; rintro e wn ⟨A2, n2, c2, rfl, o, hbn⟩; replace hgt := hgt.add (c := c2) hbn o; replace hb6 := hb6.trans (hbn.mono hb6.size); replace ho6 := ho6.below hbn; clear o hbn)
        | (go_at_call 53; refine (HSr.out _).mono ?_; rintro e wn ⟨A2, n2, c2, rfl, o, hbn⟩; replace hgt := hgt.add (c := c2) hbn o; replace hb6 := hb6.trans (hbn.mono hb6.size); replace ho6 := ho6.below hbn; clear o hbn)
        | (go_at_call 19; refine (joinN_any _ _ _ 5 _ rfl rfl rfl hgt (by omega) (by simp [joined, b2, srB])).mono ?_; rintro e wn ⟨A2, n2, c2, rfl, o, hbn⟩; simp only [joined, List.nil_append, List.cons_append, List.flatMap_cons, List.flatMap_nil, List.append_nil] at o; clear hgt; replace ho6 := ho6.below hbn; replace o := o.mono hb6.size; replace hb6 := hb6.trans (hbn.mono hb6.size); clear hbn))
      have HTab : Hid (outK (sPre N ++ srB N) rs 4 ++ List.replicate (2 * N) 0 = sTab (rs.map sgR)) := by show _ = _; rw [← HF2.out]; exact outK_tab rs
      have HHd : Hid (b2 4 ++ (b2 (16 + 8 * (N : Int)) ++ (b2 0 ++ (b2 (2 * (N : Int)) ++ srB N))) = outK (sPre N ++ srB N) rs 0) := by
        show _ = _
        unfold outK sPre
        rw [show 2 * (8 + 4 * (N : Int)) = 16 + 8 * (N : Int) by omega]
        simp
      rw [HHd.out] at o
      have hs : CS w (wn.alloc (.cells #[.int .i64 1, .int .i64 3, .int .i64 0, .int .i64 2] 3)) A6 N c6 rs wn.heap.size A2 n2 c2 (outK (sPre N ++ srB N) rs 0) := by
        have hal : Below wn.heap.size wn (wn.alloc (.cells #[.int .i64 1, .int .i64 3, .int .i64 0, .int .i64 2] 3)) := (Below.refl _ _).alloc (Nat.le_refl _) _
        exact ⟨ho6.below hal, row_vals wn 3 (cellsOf .i64 [1, 3, 0, 2]) 4 rfl, o.below hal, hb6.trans (hal.mono hb6.size)⟩
      clear ho6 o hb6 HHd HSr hN hNi hi hz0 hz1 hz2
      generalize wn.alloc (.cells #[.int .i64 1, .int .i64 3, .int .i64 0, .int .i64 2] 3) = W0 at *
      generalize wn.heap.size = bk at *
      have hpl : (sPre N ++ srB N).length = 14 := rfl
      generalize sPre N ++ srB N = hd at *
      have HLn : Hid (∀ k, (outK hd rs k).length ≤ 16 + 6 * N) := fun k => by have := outK_len hd rs k; have h2 := HF2.out; omega
      clear hpl
      go_loopw [7, 91] (fun v i wr => ∃ (k : Nat) (Ao : Option Addr) (no co : Nat), k ≤ 4 ∧ i = .int .i64 k ∧ v = .slice Ao no co ∧ CS w wr A6 N c6 rs bk Ao no co (outK hd rs k)) (fun _ i _ => 4 - (intOf i).toNat)
      case atStart => exact ⟨0, A2, n2, c2, by omega, rfl, rfl, hs⟩
      case round =>
        clear hs
        obtain ⟨k4, Ao, no, co, hk4, rfl, rfl, hs⟩ := hrel
        have hol := HLn.out k4
        by_cases hlt4 : k4 < 4
        · rcases col_pick k4 hlt4 with rfl | ⟨j, val, hj, hkj, hpt, hen, hvb⟩
          · have hcx : wr.cell? ⟨bk, 1, none⟩ = some (.int .i64 3) := by
              obtain ⟨g', off', e', _, hc⟩ := hs.num.at (j := 1) (u := .int .i64 3) rfl
              simp only [Option.some.injEq, Addr.mk.injEq, and_true] at e'
              obtain ⟨rfl, rfl⟩ := e'
              simpa using hc
            go_wp2_with fail
            refine (b2_any 0 _ (by omega) (by omega)).mono ?_
            rintro e w8 ⟨A8, n8, c8, rfl, o8, hb8⟩
            have hgt := ((Got.nil w8).put (c := co) (hs.out.below hb8).row).put (c := c8) o8.row
            have hs8 := hs.below hb8
            have HJ := Lib.hid (joinN_any w8 _ _ 2 _ rfl rfl rfl hgt (by omega) (by have h22 : (b2 0).length = 2 := rfl; simp only [joined, List.nil_append, List.cons_append, List.flatMap_cons, List.flatMap_nil, List.append_nil, List.length_append]; omega))
            simp only [joined, List.nil_append, List.cons_append, List.flatMap_cons, List.flatMap_nil, List.append_nil, List.map_cons, List.map_nil, BsV.val] at HJ
            rw [← outK_succ hd rs (k := 1) rfl] at HJ
            clear hgt o8 hb8 hs hcx
            go_wp2_with fail
            refine HJ.out.mono ?_
            rintro e w9 ⟨A9, n9, c9, rfl, o9, hb9⟩
            have hs9 := hs8.new hb9 o9
            clear hs8 hb9 o9 HJ
            go_wp2
            go_roundw
            case rel => exact ⟨1 + 1, A9, n9, c9, by omega, by go_num, rfl, hs9⟩
            case measure => simp [intOf]
          · have hcx : wr.cell? ⟨bk, k4, none⟩ = some (.int .i64 (j : Int)) := by
              obtain ⟨g', off', e', _, hc⟩ := hs.num.at (j := k4) (u := .int .i64 (j : Int)) (cellsOf_get hkj)
              simp only [Option.some.injEq, Addr.mk.injEq, and_true] at e'
              obtain ⟨rfl, rfl⟩ := e'
              simpa using hc
            have HPt := Lib.hid (outK_succ hd rs (hpt rs))
            have HEn := Lib.hid hen
            have HVb := Lib.hid hvb
            have j3 : ((j : Int) == 3) = false := by simp; omega
            have d4 : decide ((k4 : Int) < 4) = true := decide_eq_true (by omega)
            have hs0 : CS w wr A6 N c6 rs bk Ao no co (outK hd rs k4 ++ colR val (rs.take 0)) := by rw [List.take_zero]; simpa [colR] using hs
            clear hkj hpt hen hvb hs
            go_wp2
            go_loopw [7, 103] (fun v i wr => ∃ (k : Nat) (Ao : Option Addr) (no co : Nat), k ≤ N ∧ i = .int .i64 k ∧ v = .slice Ao no co ∧ CS w wr A6 N c6 rs bk Ao no co (outK hd rs k4 ++ colR val (rs.take k))) (fun _ i _ => N - (intOf i).toNat)
            case atStart => exact ⟨0, Ao, no, co, by omega, rfl, rfl, hs0⟩
            case round =>
              clear hs0 hcx
              obtain ⟨k5, Ao, no, co, hk5, rfl, rfl, hs⟩ := hrel
              by_cases hlt5 : k5 < N
              · obtain ⟨x, hx⟩ := getP (l := rs) (j := k5) (by have := HF2.out; omega)
                obtain ⟨gx, ox, ex, hgx, q0, q1, q2⟩ := atT (hs.run.row encT_len) hx
                have hv := HVb.out x (HFit.out x (List.mem_of_getElem? hx))
                have hex := HEn.out x
                have HC := Lib.hid (colR_snoc val hx)
                have hcl := colR_len val (rs.take k5)
                rw [List.length_take] at hcl
                have hal : Below wr.heap.size wr (wr.alloc (.cells #[.int .i64 x.a, .int .i64 x.b, .int .i64 ((x.g - x.a) % 65536)] 109)) := (Below.refl _ _).alloc (Nat.le_refl _) _
                have kx : (wr.alloc (.cells #[.int .i64 x.a, .int .i64 x.b, .int .i64 ((x.g - x.a) % 65536)] 109)).cell? ⟨wr.heap.size, j, none⟩ = some (.int .i64 (val x)) := by
                  rw [cell_of_row _ _ j _ _ _ (heap_alloc_new wr _)]
                  simpa [encT] using hex
                have hs1 := hs.below hal
                have hj0 : (0 : Int) ≤ (j : Int) := by omega
                have hj3 : (j : Int) < 3 := by omega
                subst ex
                clear hx hex hs hal
                generalize val x = vx at *
                generalize (x.g - x.a) % 65536 = xd at *
                obtain ⟨xa, xb, xg⟩ := x
                simp only at *
                go_wp2_with fail
                refine (b2_any vx _ (by omega) (by omega)).mono ?_
                rintro e w8 ⟨A8, n8, c8, rfl, o8, hb8⟩
                have hgt := ((Got.nil w8).put (c := co) (hs1.out.below hb8).row).put (c := c8) o8.row
                have hs8 := hs1.below hb8
                have HJ := Lib.hid (joinN_any w8 _ _ 2 _ rfl rfl rfl hgt (by omega) (by have h22 : (b2 vx).length = 2 := rfl; simp only [joined, List.nil_append, List.cons_append, List.flatMap_cons, List.flatMap_nil, List.append_nil, List.length_append]; omega))
                simp only [joined, List.nil_append, List.cons_append, List.flatMap_cons, List.flatMap_nil, List.append_nil, List.map_cons, List.map_nil, BsV.val] at HJ
                rw [List.append_assoc, ← HC.out] at HJ
                clear hgt o8 hb8 hs1 kx q0 q1 q2
                go_wp2_with fail
                refine HJ.out.mono ?_
                rintro e w9 ⟨A9, n9, c9, rfl, o9, hb9⟩
                have hs9 := hs8.new hb9 o9
                clear hs8 hb9 o9 HJ
                go_wp2
                go_roundw
                case rel => first | exact ⟨k5 + 1, A9, n9, c9, by omega, by go_num, rfl, hs9⟩ | ((repeat apply Exists.intro); exact ⟨⟨k5 + 1, A9, n9, c9, by omega, by go_num, rfl, hs9⟩, rfl⟩)
                case measure => simp [intOf]; omega
              · have HE : Hid (outK hd rs k4 ++ colR val (rs.take k5) = outK hd rs (k4 + 1)) := by show _ = _; rw [List.take_of_length_le (by have := HF2.out; omega), HPt.out]
                rw [HE.out] at hs
                clear HE HPt HEn HVb
                go_wp2
                go_roundw
                case rel => exact ⟨k4 + 1, Ao, no, co, by omega, by go_num, rfl, hs⟩
                case measure => simp [intOf]; omega
        · obtain rfl : k4 = 4 := by omega
          go_wp2_with (at_make; refine wpList_make_ints rfl (.tmp 118) (.tmp 118) _ rfl 5 .u8 w.heap.size i8 1 Tryd.underlying28 hi8 hz08 hz18 hz28 _ _ (2 * N) (2 * N) rfl rfl (by omega) (by omega) (Nat.le_refl _) (by omega) (by omega) hs.bel.size ?_; intro w8 hown8 hg8)
          have hb8 : Below wr.heap.size wr w8 := (Below.refl _ _).grown hg8 (Nat.le_refl _) (fun q e => by cases e)
          have hgt := ((Got.nil w8).put (c := co) (hs.out.below hb8).row).put (c := 2 * N) hown8.row
          have hs8 := hs.below hb8
          have HJ := Lib.hid (joinN_any w8 _ _ 2 _ rfl rfl rfl hgt (by omega) (by simp only [joined, List.nil_append, List.cons_append, List.flatMap_cons, List.flatMap_nil, List.append_nil, List.length_append, List.length_replicate]; omega))
          simp only [joined, List.nil_append, List.cons_append, List.flatMap_cons, List.flatMap_nil, List.append_nil, List.map_cons, List.map_nil, BsV.val] at HJ
          rw [HTab.out] at HJ
          clear hgt hown8 hb8 hs
          go_wp2_with fail
          refine HJ.out.mono ?_
          rintro e w9 ⟨A9, n9, c9, rfl, o9, hb9⟩
          have hs9 := hs8.new hb9 o9
          go_wp2
          go_ret
          exact ⟨A9, n9, c9, rfl, hs9.out, hs9.bel⟩

end Go.Proofs.YthkaeimpflggjaaDoor
