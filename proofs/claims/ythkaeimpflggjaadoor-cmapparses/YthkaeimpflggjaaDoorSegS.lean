/- seg: the segments of a table: segmentsOf and Parse. -/
import Derived.Test.YthkaeimpflggjaaDoorSegQ
namespace Go.Proofs.YthkaeimpflggjaaDoor
open Go.RowKit
set_option linter.unusedVariables false

def segs (zs : List Int) (n g k : Nat) : List Sg := (List.range k).map (sgAt zs n g)
def sg0 : Sg := ⟨0, 0, 0, none, 0⟩
theorem segs_len (zs : List Int) (n g k : Nat) : (segs zs n g k).length = k := by simp [segs]
theorem segs_succ (zs : List Int) (n g k : Nat) : segs zs n g (k + 1) = segs zs n g k ++ [sgAt zs n g k] := by simp [segs, List.range_succ]
theorem segs_get (zs : List Int) (n g : Nat) {k i : Nat} (h : i < k) : (segs zs n g k)[i]? = some (sgAt zs n g i) := by simp [segs, h]
theorem segs_set (zs : List Int) (n g k : Nat) (h : k < n) : (segs zs n g k ++ List.replicate (n - k) sg0).set k (sgAt zs n g k) = segs zs n g (k + 1) ++ List.replicate (n - (k + 1)) sg0 := by
  rw [List.set_append_right _ _ (by rw [segs_len]; exact Nat.le_refl _), segs_len, Nat.sub_self, segs_succ, List.append_assoc, show n - k = (n - (k + 1)) + 1 by omega, List.replicate_succ]
  rfl

theorem atS {w : World} {A : Option Addr} {n : Nat} {l : List Sg} {j : Nat} {x : Sg} (h : RowS encS 4 w A n l) (hj : l[j]? = some x) :
    ∃ g off, A = some ⟨g, off, none⟩ ∧ g < w.heap.size ∧ w.cell? ⟨g, off + j * 4, none⟩ = some (.int .u16 x.a) ∧ w.cell? ⟨g, off + j * 4 + 1, none⟩ = some (.int .u16 x.b) ∧ w.cell? ⟨g, off + j * 4 + 2, none⟩ = some (.int .u16 x.d) ∧ w.cell? ⟨g, off + j * 4 + 3, none⟩ = some (.slice x.A x.n x.n) := by
  obtain ⟨g, off, e, hg, hc⟩ := h.at encS_len (by omega) hj
  exact ⟨g, off, e, hg, hc 0 _ rfl, hc 1 _ rfl, hc 2 _ rfl, hc 3 _ rfl⟩

/-- What telling segments leaves. -/
def RetSs (w : World) (zs : List Int) (n g : Nat) (e : Ending) (w' : World) : Prop :=
  ∃ A m c, e = .returned (.tuple #[.slice A m c, .bool (sOkK zs n n && sEnd zs n)]) ∧ ((sOkK zs n n && sEnd zs n) = true → m = n ∧ OwnS 90 encS 4 w' w.heap.size A n c (segs zs n g n)) ∧ Below w.heap.size w w'

/-- A fresh row of segments. -/
structure SP (w wr : World) (gp n : Nat) (l : List Sg) : Prop where
  own : OwnS 90 encS 4 wr w.heap.size (some ⟨gp, 0, none⟩) n n l
  bel : Below w.heap.size w wr
theorem SP.below {w wr w' : World} {gp n : Nat} {l : List Sg} (h : SP w wr gp n l) (hb : Below wr.heap.size wr w') : SP w w' gp n l := ⟨h.own.below hb, h.bel.trans (hb.mono h.bel.size)⟩
theorem SP.drew {w wr : World} {gp n : Nat} {l : List Sg} (h : SP w wr gp n l) : SP w wr.drew gp n l := ⟨h.own.drew, h.bel.drew⟩
theorem SP.other {w wr : World} {gp n : Nat} {l : List Sg} (h : SP w wr gp n l) {k : Nat} (hk : k ≠ gp) (hw : w.heap.size ≤ k) (j : Nat) (v : Value) : SP w (wr.setCell ⟨k, j, none⟩ v) gp n l :=
  ⟨h.own.keep (fun q e => by simp [blockOf] at e; subst e; exact Below.heap_setCell wr _ v gp (fun e => hk e.symm)), below_set hw j v h.bel⟩
theorem SP.set {w wr : World} {gp n : Nat} {l : List Sg} (h : SP w wr gp n l) (k : Nat) (hk : k < n) (x : Sg) : SP w (setCells wr gp (k * 4) (encS x)) gp n (l.set k x) :=
  ⟨ownS_store encS_len h.own hk x, setCells_below (h.own.from_ gp rfl).1 _ _ _ h.bel⟩

set_option maxRecDepth 100000 in
set_option maxHeartbeats 8000000 in
theorem ssegs_any (g M : Nat) (zs : List Int) (n : Nat) (w : World) (hr : Row w (some ⟨g, 0, none⟩) M (cellsOf .u16 (nums zs M))) (hB : Bytes zs) (hM2 : n2at zs 2 = 2 * (M : Int)) (hM3 : M ≤ 32767) (hn : 8 + 4 * n ≤ M) (hn0 : 1 ≤ n) :
    Calls Tryd.prog 73 #[.slice (some ⟨g, 0, none⟩) M M, .int .i64 n] w (RetSs w zs n g) := by
  obtain ⟨i0, hi, hz0, hz1, hz2⟩ := info_parts Tryd.sginfo
  obtain ⟨pb, hpb⟩ : ∃ p : Nat, 7 + (n : Int) = (p : Int) := ⟨7 + n, by omega⟩
  obtain ⟨p1, hp1⟩ : ∃ p : Nat, (pb : Int) + 1 = (p : Int) := ⟨pb + 1, by omega⟩
  obtain ⟨p2, hp2⟩ : ∃ p : Nat, (p1 : Int) + (n : Int) = (p : Int) := ⟨p1 + n, by omega⟩
  obtain ⟨p3, hp3⟩ : ∃ p : Nat, (p2 : Int) + (n : Int) = (p : Int) := ⟨p2 + n, by omega⟩
  have HNo : Hid (∀ w', (sOkK zs n n && sEnd zs n) = false → Below w.heap.size w w' → RetSs w zs n g (.returned (.tuple #[.slice none 0 0, .bool false])) w') := fun w' h1 h2 => ⟨none, 0, 0, (by rw [h1]), (fun h => by rw [h1] at h; cases h), h2⟩
  have Hr := Lib.hid hr
  have HB := Lib.hid hB
  have hgl : g < w.heap.size := World.block_lt_of_cell? _ _ (num_cell hr (i := 0) (by omega))
  clear hr hB
  go_enter Tryd.func73, Tryd.ntmps73
  go_wp2_with (at_make; refine wpList_make_S rfl (.tmp 25) (.tmp 25) _ rfl 90 encS 4 encS_len (by omega) w.heap.size i0 _ sg0 32 Tryd.underlying33 hi hz0 hz1 rfl hz2 _ _ n rfl rfl rfl rfl (by omega) (by omega) (Nat.le_refl _) ?_; intro w1 hown1 hg1)
  have hs : SP w w1 w.heap.size n (segs zs n g 0 ++ List.replicate (n - 0) sg0) := ⟨hown1, (Below.refl _ _).grown hg1 (Nat.le_refl _) (fun k e => by cases e)⟩
  clear hown1 hg1 hi hz0 hz1 hz2
  have Hpb := Lib.hid hpb
  have Hp1 := Lib.hid hp1
  have Hp2 := Lib.hid hp2
  have Hp3 := Lib.hid hp3
  clear hpb hp1 hp2 hp3
  have hgw : g ≠ w.heap.size := by omega
  generalize hgp : w.heap.size = gp at hs hgl hgw ⊢
  go_loopw [11, 29] (fun a i wr => ∃ k : Nat, k ≤ n ∧ i = .int .i64 k ∧ a = .int .i64 (sLeast zs k) ∧ Hid (sOkK zs n k = true) ∧ SP w wr gp n (segs zs n g k ++ List.replicate (n - k) sg0)) (fun _ i _ => n - (intOf i).toNat)
  case atStart => exact ⟨0, Nat.zero_le _, rfl, rfl, Lib.hid rfl, hs⟩
  case round =>
    clear hs
    obtain ⟨k, hk, rfl, rfl, hok, hs⟩ := hrel
    have hrw := Hr.out.below hs.bel
    have hgs : gp ≤ wr.heap.size := by have := hs.bel.size; omega
    by_cases hlt : k < n
    · obtain ⟨q0, hq0⟩ : ∃ p : Nat, 7 + (k : Int) = (p : Int) := ⟨7 + k, by omega⟩
      obtain ⟨q1, hq1⟩ : ∃ p : Nat, (p1 : Int) + (k : Int) = (p : Int) := ⟨p1 + k, by omega⟩
      obtain ⟨q2, hq2⟩ : ∃ p : Nat, (p2 : Int) + (k : Int) = (p : Int) := ⟨p2 + k, by omega⟩
      obtain ⟨q3, hq3⟩ : ∃ p : Nat, (p3 : Int) + (k : Int) = (p : Int) := ⟨p3 + k, by omega⟩
      have a1 := Hpb.out
      have a2 := Hp1.out
      have a3 := Hp2.out
      have a4 := Hp3.out
      have c0 : wr.cell? ⟨g, q0, none⟩ = some (.int .u16 (sqAt zs n k).b) := by have := num_cell hrw (i := q0) (by omega); rw [show 2 * q0 = 14 + 2 * k by omega] at this; exact this
      have c1 : wr.cell? ⟨g, q1, none⟩ = some (.int .u16 (sqAt zs n k).a) := by have := num_cell hrw (i := q1) (by omega); rw [show 2 * q1 = 16 + 2 * n + 2 * k by omega] at this; exact this
      have c2 : wr.cell? ⟨g, q2, none⟩ = some (.int .u16 (sqAt zs n k).d) := by have := num_cell hrw (i := q2) (by omega); rw [show 2 * q2 = 16 + 4 * n + 2 * k by omega] at this; exact this
      have ka : 0 ≤ (sqAt zs n k).a ∧ (sqAt zs n k).a < 65536 := n2at_lt HB.out _
      have kb : 0 ≤ (sqAt zs n k).b ∧ (sqAt zs n k).b < 65536 := n2at_lt HB.out _
      have HG : Hid (∀ W, Below w.heap.size w W → (sqAt zs n k).a ≤ (sqAt zs n k).b → Calls Tryd.prog 76 #[.agg #[.int .u16 (sqAt zs n k).a, .int .u16 (sqAt zs n k).b, .int .u16 (sqAt zs n k).d, .slice none 0 0], .slice (some ⟨g, 0, none⟩) M M, .int .i64 (q3 : Int)] W (RetGl W zs n g k)) := fun W hW hab => by
        have := sglyphs_any g M zs n k W (Hr.out.below hW) HB.out hM2 hM3 hn hlt hab
        rwa [show 8 + 3 * (n : Int) + (k : Int) = (q3 : Int) by omega] at this
      have HOk : Hid (sOkAt zs n k = (decide (sLeast zs k ≤ (sqAt zs n k).a) && decide ((sqAt zs n k).a ≤ (sqAt zs n k).b) && sOff zs n k (sqAt zs n k))) := rfl
      have HBad : Hid (sOkAt zs n k = false → (sOkK zs n n && sEnd zs n) = false) := fun h => by rw [sOkK_not hlt h]; rfl
      have HLs : Hid (sLeast zs (k + 1) = (sqAt zs n k).b + 1) := by show _ = _; unfold sLeast sqAt; rw [if_neg (by omega), show 12 + 2 * (k + 1) = 14 + 2 * k by omega]
      have HSet := Lib.hid (segs_set zs n g k hlt)
      have HSg : Hid (sgAt zs n g k = ⟨(sqAt zs n k).a, (sqAt zs n k).b, (sqAt zs n k).d, sgA zs n g k, sgn_ zs n k⟩) := rfl
      have d0 : q0 < M := by omega
      have d1 : q1 < M := by omega
      have d2 : q2 < M := by omega
      have d3 : q3 < M := by omega
      have hgl2 : g < wr.heap.size := by omega
      have hgn : g ≠ wr.heap.size := by omega
      have hgn' : wr.heap.size ≠ g := by omega
      clear a1 a2 a3 a4 hrw
      generalize hx : sqAt zs n k = x at *
      obtain ⟨xa, xb, xd, xo⟩ := x
      have HX := Lib.hid hx
      clear hx
      simp only at *
      have hA := (Below.refl wr.heap.size wr).alloc (Nat.le_refl _) (.cells #[.int .u16 xa, .int .u16 xb, .int .u16 xd, .slice none 0 0] 90)
      have hs1 := (hs.below hA).drew
      have hkb := heap_alloc_new wr (.cells #[.int .u16 xa, .int .u16 xb, .int .u16 xd, .slice none 0 0] 90)
      go_wp2_with fail
      go_region
      all_goals
        have hkb' : (wr.alloc (.cells #[.int .u16 xa, .int .u16 xb, .int .u16 xd, .slice none 0 0] 90)).drew.heap[wr.heap.size]? = some (.cells #[.int .u16 xa, .int .u16 xb, .int .u16 xd, .slice none 0 0] 90 (0, 0)) := hkb
        clear hkb c0 c1 c2 hA d0 d1 d2 hgn hgn' hgl2
        have hgpb : wr.heap.size ≠ gp := by have := (hs.own.from_ gp rfl).2; omega
        clear hs
        generalize (wr.alloc (.cells #[.int .u16 xa, .int .u16 xb, .int .u16 xd, .slice none 0 0] 90)).drew = V at *
        generalize wr.heap.size = bx at *
        have x0 : V.cell? ⟨bx, 0, none⟩ = some (.int .u16 xa) := cell_of_row V _ 0 _ _ _ hkb'
        have x1 : V.cell? ⟨bx, 1, none⟩ = some (.int .u16 xb) := cell_of_row V _ 1 _ _ _ hkb'
        have x2 : V.cell? ⟨bx, 2, none⟩ = some (.int .u16 xd) := cell_of_row V _ 2 _ _ _ hkb'
        have x3 : V.cell? ⟨bx, 3, none⟩ = some (.slice none 0 0) := cell_of_row V _ 3 _ _ _ hkb'
        by_cases h1 : sLeast zs k ≤ xa
        · by_cases h2 : xa ≤ xb
          · have HC := Lib.hid (HG.out V hs1.bel h2)
            clear HG
            go_wp2_with fail
            with_reducible refine HC.out.mono ?_
            rintro e w5 ⟨hb5, ⟨hf, rfl⟩ | ⟨hf, rfl⟩⟩
            · rw [HX.out] at hf
              have HT := Lib.hid (HBad.out (by rw [HOk.out, hf]; simp))
              have hs5 := hs1.below hb5
              have hk5 := kept_block hkb' hb5
              have y3 : w5.cell? ⟨bx, 3, none⟩ = some (.slice none 0 0) := cell_of_row w5 _ 3 _ _ _ hk5
              have f3 := thawed hk5
              have hs6 := Lib.hid (hs5.other hgpb (by omega) 3 (.slice none 0 0))
              clear HOk HBad HC hf hs1 hs5 hk5 hb5 x0 x1 x2 x3 hkb'
              go_wp2
              go_ret2
              exact HNo.out _ HT.out hs6.out.bel
            · rw [HX.out] at hf
              have HT : Hid (sOkK zs n (k + 1) = true) := by show _ = _; rw [sOkK_succ, hok.out, HOk.out, hf, decide_eq_true h1, decide_eq_true h2]; rfl
              have hs5 := hs1.below hb5
              have hk5 := kept_block hkb' hb5
              have y3 : w5.cell? ⟨bx, 3, none⟩ = some (.slice none 0 0) := cell_of_row w5 _ 3 _ _ _ hk5
              have f3 := thawed hk5
              have hs6 := hs5.other hgpb (by omega) 3 (.slice (sgA zs n g k) (sgn_ zs n k) (sgn_ zs n k))
              have hk6 := set_block hk5 3 (.slice (sgA zs n g k) (sgn_ zs n k) (sgn_ zs n k))
              have hs7 := hs6.set k hlt (sgAt zs n g k)
              rw [HSet.out, HSg.out] at hs7
              clear HOk HBad HC hf hs1 hs5 hk5 hb5 x0 x1 x2 x3 hkb' HSet HSg
              generalize sgA zs n g k = SA at *
              generalize sgn_ zs n k = SN at *
              go_wp2_with fail
              clear y3 f3
              generalize w5.setCell ⟨bx, 3, none⟩ (.slice SA SN SN) = U at *
              have y0 : U.cell? ⟨bx, 0, none⟩ = some (.int .u16 xa) := cell_of_row U _ 0 _ _ _ hk6
              have y1 : U.cell? ⟨bx, 1, none⟩ = some (.int .u16 xb) := cell_of_row U _ 1 _ _ _ hk6
              have y2 : U.cell? ⟨bx, 2, none⟩ = some (.int .u16 xd) := cell_of_row U _ 2 _ _ _ hk6
              have y3 : U.cell? ⟨bx, 3, none⟩ = some (.slice SA SN SN) := cell_of_row U _ 3 _ _ _ hk6
              obtain ⟨z, hz⟩ : ∃ z, (segs zs n g k ++ List.replicate (n - k) sg0)[k]? = some z := ⟨_, List.getElem?_eq_getElem (by simp [segs_len]; omega)⟩
              obtain ⟨gg, off', e', _, t0, t1, t2, t3⟩ := atS (hs6.own.row encS_len) hz
              simp only [Option.some.injEq, Addr.mk.injEq, and_true] at e'
              obtain ⟨rfl, rfl⟩ := e'
              rw [Nat.zero_add] at t0 t1 t2 t3
              have f0 := hs6.own.thaw
              have H7 := Lib.hid hs7.drew
              unfold encS setCells setCells setCells setCells setCells at H7
              have hgpb' : gp ≠ bx := fun e => hgpb e.symm
              clear hs7 hs6 hz hk6
              go_region
              all_goals
                go_wp2
                go_roundw
                case rel => exact ⟨k + 1, by omega, by go_num, by rw [HLs.out], HT, H7.out⟩
                case measure => simp [intOf]; omega
          · have HT := Lib.hid (HBad.out (by rw [HOk.out, decide_eq_false h2]; simp))
            clear HG HOk HBad hok HSet HSg HLs
            go_wp2
            go_ret2
            exact HNo.out _ HT.out hs1.bel
        · have HT := Lib.hid (HBad.out (by rw [HOk.out, decide_eq_false h1]; simp))
          clear HG HOk HBad hok HSet HSg HLs
          go_wp2
          go_ret2
          exact HNo.out _ HT.out hs1.bel
    · obtain rfl : k = n := by omega
      obtain ⟨m, rfl⟩ : ∃ m, k = m + 1 := ⟨k - 1, by omega⟩
      have ho := hs.own
      rw [Nat.sub_self, List.replicate_zero, List.append_nil] at ho
      obtain ⟨gg, off', e', _, t0, t1, t2, t3⟩ := atS (ho.row encS_len) (segs_get zs (m + 1) g (i := m) (by omega))
      simp only [Option.some.injEq, Addr.mk.injEq, and_true] at e'
      obtain ⟨rfl, rfl⟩ := e'
      rw [Nat.zero_add] at t0 t1 t2 t3
      have a1 := Hpb.out
      have cb : wr.cell? ⟨g, pb, none⟩ = some (.int .u16 (n2at zs (14 + 2 * (m + 1)))) := by have := num_cell hrw (i := pb) (by omega); rw [show 2 * pb = 14 + 2 * (m + 1) by omega] at this; exact this
      have hen : (sgAt zs (m + 1) g m).b = n2at zs (12 + 2 * (m + 1)) := by show n2at zs (14 + 2 * m) = _; rw [show 14 + 2 * m = 12 + 2 * (m + 1) by omega]
      rw [hen] at t1
      have HE : Hid ((sOkK zs (m + 1) (m + 1) && sEnd zs (m + 1)) = (decide (n2at zs (12 + 2 * (m + 1)) = 65535) && decide (n2at zs (14 + 2 * (m + 1)) = 0))) := by show _ = _; rw [hok.out]; rfl
      have ho2 := Lib.hid ho
      have hbw := Lib.hid hs.bel
      have e1 : (((m + 1 : Nat) : Int) - 1) = (m : Int) := by omega
      have e2 : ((m : Int) + 1 - 1) = (m : Int) := by omega
      have dpb : pb < M := by omega
      have HR : Hid (∀ (b : Bool) q, (sOkK zs (m + 1) (m + 1) && sEnd zs (m + 1)) = b → RetSs w zs (m + 1) g (.returned (.tuple #[.slice (some ⟨gp, 0, none⟩) (m + 1) (m + 1), .bool b])) (wr.drewN q)) := by
        show ∀ _ _, _
        intro b q hb
        exact ⟨_, _, _, (by rw [hb]), (fun _ => ⟨rfl, ho2.out.drewN q⟩), below_drewN hbw.out q⟩
      clear t0 t2 t3 hen ho hs hrw hok HNo ho2 hbw a1
      generalize n2at zs (12 + 2 * (m + 1)) = v1 at *
      generalize n2at zs (14 + 2 * (m + 1)) = v2 at *
      by_cases h1 : v1 = 65535
      · have b1 : (v1 == 65535) = true := by simp [h1]
        by_cases h2 : v2 = 0
        · have b2 : (v2 == 0) = true := by simp [h2]
          have HT : Hid ((sOkK zs (m + 1) (m + 1) && sEnd zs (m + 1)) = true) := by show _ = _; rw [HE.out, decide_eq_true h1, decide_eq_true h2]; rfl
          clear HE h1 h2
          go_wp2_with fail
          go_quiet (fail)
          go_wp2
          go_ret2
          exact HR.out _ _ HT.out
        · have b2 : (v2 == 0) = false := by simp [h2]
          have HT : Hid ((sOkK zs (m + 1) (m + 1) && sEnd zs (m + 1)) = false) := by show _ = _; rw [HE.out, decide_eq_false h2]; simp
          clear HE h1 h2
          go_wp2_with fail
          go_quiet (fail)
          go_wp2
          go_ret2
          exact HR.out _ _ HT.out
      · have b1 : (v1 == 65535) = false := by simp [h1]
        have HT : Hid ((sOkK zs (m + 1) (m + 1) && sEnd zs (m + 1)) = false) := by show _ = _; rw [HE.out, decide_eq_false h1]; rfl
        clear HE h1
        go_wp2_with fail
        go_quiet (fail)
        go_wp2
        go_ret2
        exact HR.out _ _ HT.out

end Go.Proofs.YthkaeimpflggjaaDoor
