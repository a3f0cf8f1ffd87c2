/- The law HeadApart. -/
import Derived.Test.YtmpicokeenodbaaLHeadF
import Derived.Test.YtmpicokeenodbaaGot
import Derived.Deep.DeepCutAuto
import Derived.Deep.RegionHeld3
import Derived.RegionTactic
namespace Go.Proofs.Ytmpicokeenodbaa
open Go.RowKit
set_option linter.unusedVariables false

theorem two14 {w : World} {b c t : Nat} {v0 v1 v2 v3 v4 v5 v6 v7 v8 v9 v10 v11 v12 v13 u0 u1 u2 u3 u4 u5 u6 u7 u8 u9 u10 u11 u12 u13 : Value} (h : w.heap[b]? = some (.cells #[v0, v1, v2, v3, v4, v5, v6, v7, v8, v9, v10, v11, v12, v13] t (0, 0))) (k : w.heap[c]? = some (.cells #[u0, u1, u2, u3, u4, u5, u6, u7, u8, u9, u10, u11, u12, u13] t (0, 0))) :
    w.cell? ⟨b, 0, none⟩ = some v0 ∧ w.cell? ⟨b, 1, none⟩ = some v1 ∧ w.cell? ⟨b, 2, none⟩ = some v2 ∧ w.cell? ⟨b, 3, none⟩ = some v3 ∧ w.cell? ⟨b, 4, none⟩ = some v4 ∧ w.cell? ⟨b, 5, none⟩ = some v5 ∧ w.cell? ⟨b, 6, none⟩ = some v6 ∧ w.cell? ⟨b, 7, none⟩ = some v7 ∧ w.cell? ⟨b, 8, none⟩ = some v8 ∧ w.cell? ⟨b, 9, none⟩ = some v9 ∧ w.cell? ⟨b, 10, none⟩ = some v10 ∧ w.cell? ⟨b, 11, none⟩ = some v11 ∧ w.cell? ⟨b, 12, none⟩ = some v12 ∧ w.cell? ⟨b, 13, none⟩ = some v13 ∧ w.cell? ⟨c, 0, none⟩ = some u0 ∧ w.cell? ⟨c, 1, none⟩ = some u1 ∧ w.cell? ⟨c, 2, none⟩ = some u2 ∧ w.cell? ⟨c, 3, none⟩ = some u3 ∧ w.cell? ⟨c, 4, none⟩ = some u4 ∧ w.cell? ⟨c, 5, none⟩ = some u5 ∧ w.cell? ⟨c, 6, none⟩ = some u6 ∧ w.cell? ⟨c, 7, none⟩ = some u7 ∧ w.cell? ⟨c, 8, none⟩ = some u8 ∧ w.cell? ⟨c, 9, none⟩ = some u9 ∧ w.cell? ⟨c, 10, none⟩ = some u10 ∧ w.cell? ⟨c, 11, none⟩ = some u11 ∧ w.cell? ⟨c, 12, none⟩ = some u12 ∧ w.cell? ⟨c, 13, none⟩ = some u13 := ⟨cell_of_row w b 0 _ t (0, 0) h, cell_of_row w b 1 _ t (0, 0) h, cell_of_row w b 2 _ t (0, 0) h, cell_of_row w b 3 _ t (0, 0) h, cell_of_row w b 4 _ t (0, 0) h, cell_of_row w b 5 _ t (0, 0) h, cell_of_row w b 6 _ t (0, 0) h, cell_of_row w b 7 _ t (0, 0) h, cell_of_row w b 8 _ t (0, 0) h, cell_of_row w b 9 _ t (0, 0) h, cell_of_row w b 10 _ t (0, 0) h, cell_of_row w b 11 _ t (0, 0) h, cell_of_row w b 12 _ t (0, 0) h, cell_of_row w b 13 _ t (0, 0) h, cell_of_row w c 0 _ t (0, 0) k, cell_of_row w c 1 _ t (0, 0) k, cell_of_row w c 2 _ t (0, 0) k, cell_of_row w c 3 _ t (0, 0) k, cell_of_row w c 4 _ t (0, 0) k, cell_of_row w c 5 _ t (0, 0) k, cell_of_row w c 6 _ t (0, 0) k, cell_of_row w c 7 _ t (0, 0) k, cell_of_row w c 8 _ t (0, 0) k, cell_of_row w c 9 _ t (0, 0) k, cell_of_row w c 10 _ t (0, 0) k, cell_of_row w c 11 _ t (0, 0) k, cell_of_row w c 12 _ t (0, 0) k, cell_of_row w c 13 _ t (0, 0) k⟩

/-- Heads are the same just if all their numbers are. -/
theorem eq_hd (a b : Hd) (w : World) : (Op.equalIn 10000 28 (.agg (hdC a)) (.agg (hdC b))).run Try.prog w = .ok (decide (a = b)) w := by
  obtain ⟨arv, aad, afl, aun, acr, amo, ax0, ax1, ax2, ax3, ast, alo, ahi, alg⟩ := a
  obtain ⟨brv, bad, bfl, bun, bcr, bmo, bx0, bx1, bx2, bx3, bst, blo, bhi, blg⟩ := b
  have h : (Op.equalIn 9999 26 (.agg #[.int .i16 ax0, .int .i16 ax1, .int .i16 ax2, .int .i16 ax3]) (.agg #[.int .i16 bx0, .int .i16 bx1, .int .i16 bx2, .int .i16 bx3])).run Try.prog w = .ok (decide ([ax0, ax1, ax2, ax3] = [bx0, bx1, bx2, bx3])) w := eq_box w 9997 ax0 ax1 ax2 ax3 bx0 bx1 bx2 bx3
  simp [go_sem, h, hdC]
  clear h
  by_cases e0 : arv = brv
  case neg => simp [e0]
  subst e0
  by_cases e1 : aad = bad
  case neg => simp [e1]
  subst e1
  by_cases e2 : afl = bfl
  case neg => simp [e2]
  subst e2
  by_cases e3 : aun = bun
  case neg => simp [e3]
  subst e3
  by_cases e4 : acr = bcr
  case neg => simp [e4]
  subst e4
  by_cases e5 : amo = bmo
  case neg => simp [e5]
  subst e5
  by_cases e6 : ax0 = bx0
  case neg => simp [e6]
  subst e6
  by_cases e7 : ax1 = bx1
  case neg => simp [e7]
  subst e7
  by_cases e8 : ax2 = bx2
  case neg => simp [e8]
  subst e8
  by_cases e9 : ax3 = bx3
  case neg => simp [e9]
  subst e9
  by_cases e10 : ast = bst
  case neg => simp [e10]
  subst e10
  by_cases e11 : alo = blo
  case neg => simp [e11]
  subst e11
  by_cases e12 : ahi = bhi
  case neg => simp [e12]
  subst e12
  by_cases e13 : alg = blg
  case neg => simp [e13]
  subst e13
  simp

theorem hdL_same (a b : Hd) (ha : a.ok) (hb : b.ok) : sameB (hdL a) (hdL b) = decide (a = b) := by
  unfold sameB
  rw [Bool.eq_iff_iff, decide_eq_true_iff, decide_eq_true_iff]
  constructor
  · intro h
    rw [← hdOf_hdL a ha, h, hdOf_hdL b hb]
  · rintro rfl
    rfl

theorem b4_len' (n : Int) : (b4 n).length = 4 := rfl
theorem three_ok {w : World} {g c c' nb kb : Nat} {Ab : Option Addr} {L : List Int} {n : Int} (h : Row w (some ⟨g, 0, none⟩) 54 (cellsOf .u8 L)) (hb : Row w Ab nb (cellsOf .u8 (b4 n))) :
    ∀ p ∈ [(⟨some ⟨g, 0, none⟩, 8, c, L.take 8⟩ : BsV), ⟨Ab, nb, kb, b4 n⟩, ⟨some ⟨g, 12, none⟩, 42, c', L.drop 12⟩], p.ok w := by
  intro p hp
  simp only [List.mem_cons, List.not_mem_nil, or_false] at hp
  rcases hp with rfl | rfl | rfl
  · have := h.take (k := 8) (by omega)
    rw [cellsOf_take] at this
    exact this
  · exact hb
  · have := h.drop 12
    rw [cellsOf_drop] at this
    simp only [Option.map_some, Addr.add_lit, Nat.zero_add] at this
    exact this

theorem join_three {A B C : Option Addr} {n1 n2 n3 c1 c2 c3 : Nat} {x y z : List Int} : joined [⟨A, n1, c1, x⟩, ⟨B, n2, c2, y⟩, ⟨C, n3, c3, z⟩] = x ++ (y ++ z) := by simp [joined]

/-- Two structs, one behind the other, over an older world. -/
structure TwoB (w wr : World) (c1 c2 : Array Value) (t : TypeId) : Prop where
  k1 : wr.heap[w.heap.size]? = some (.cells c1 t (0, 0))
  k2 : wr.heap[w.heap.size + 1]? = some (.cells c2 t (0, 0))
  bel : Below w.heap.size w wr
theorem TwoB.below {w wr w' : World} {c1 c2 : Array Value} {t : TypeId} (h : TwoB w wr c1 c2 t) (hb : Below wr.heap.size wr w') : TwoB w w' c1 c2 t := ⟨kept_block h.k1 hb, kept_block h.k2 hb, h.bel.trans (hb.mono h.bel.size)⟩
theorem TwoB.drew {w wr : World} {c1 c2 : Array Value} {t : TypeId} (h : TwoB w wr c1 c2 t) : TwoB w wr.drew c1 c2 t := ⟨h.k1, h.k2, h.bel.drew⟩
theorem TwoB.drewN {w wr : World} {c1 c2 : Array Value} {t : TypeId} (h : TwoB w wr c1 c2 t) (q : Nat) : TwoB w (wr.drewN q) c1 c2 t := ⟨h.k1, h.k2, below_drewN h.bel q⟩
theorem TwoB.set1 {w wr : World} {c1 c2 : Array Value} {t : TypeId} (h : TwoB w wr c1 c2 t) (j : Nat) (v : Value) : TwoB w (wr.setCell ⟨w.heap.size, j, none⟩ v) (c1.setIfInBounds j v) c2 t :=
  ⟨set_block h.k1 j v, (Below.heap_setCell wr _ v _ (show w.heap.size + 1 ≠ w.heap.size by omega)).trans h.k2, below_set (Nat.le_refl _) j v h.bel⟩
theorem TwoB.set2 {w wr : World} {c1 c2 : Array Value} {t : TypeId} (h : TwoB w wr c1 c2 t) (j : Nat) (v : Value) : TwoB w (wr.setCell ⟨w.heap.size + 1, j, none⟩ v) c1 (c2.setIfInBounds j v) t :=
  ⟨(Below.heap_setCell wr _ v _ (show w.heap.size ≠ w.heap.size + 1 by omega)).trans h.k1, set_block h.k2 j v, below_set (by omega) j v h.bel⟩
theorem twoB_new (w : World) (c1 c2 : Array Value) (t : TypeId) : TwoB w ((w.alloc (.cells c1 t)).alloc (.cells c2 t)) c1 c2 t := by
  have h2 := heap_alloc_new (w.alloc (.cells c1 t)) (.cells c2 t)
  rw [show (w.alloc (.cells c1 t)).heap.size = w.heap.size + 1 by simp] at h2
  exact ⟨kept_alloc (heap_alloc_new w _) _, h2, ((Below.refl _ _).alloc (Nat.le_refl _) _).alloc (by simp) _⟩

theorem adjust_at (h : Hd) (n : Int) : hdL { h with ad := n } = (hdL h).take 8 ++ (b4 n ++ (hdL h).drop 12) := by
  have e : ∀ m, ∃ R, R = b4 1594834165 ++ (b2 h.fl ++ (b2 h.un ++ (b8 h.cr ++ (b8 h.mo ++ (h.box.flatMap s2 ++ (b2 h.st ++ (b2 h.lo ++ (b2 (h.hi % 65536) ++ (b2 (hdLong h.lg) ++ b2 0))))))))) ∧ hdL { h with ad := m } = (b4 65536 ++ b4 h.rv) ++ (b4 m ++ R) := fun m => ⟨_, rfl, by simp only [hdL, hdPre, Hd.box, List.append_assoc]⟩
  obtain ⟨R, hR, e1⟩ := e n
  obtain ⟨R', hR', e2⟩ := e h.ad
  rw [← hR] at hR'
  rw [hR'] at e2
  have e3 : hdL h = (b4 65536 ++ b4 h.rv) ++ (b4 h.ad ++ R) := e2
  have t : List.take 8 ((b4 65536 ++ b4 h.rv) ++ (b4 h.ad ++ R)) = b4 65536 ++ b4 h.rv := List.take_left' rfl
  have d : List.drop 12 ((b4 65536 ++ b4 h.rv) ++ (b4 h.ad ++ R)) = R := by
    rw [← List.append_assoc]
    exact List.drop_left' rfl
  rw [e1, e3, t, d]

set_option maxRecDepth 100000 in
set_option maxHeartbeats 4000000 in
theorem law_HeadApart (a b : Hd) (n : Int) (w : World) (ha : a.ok) (hb : b.ok) (n0 : 0 ≤ n) (n1 : n < 4294967296) :
    Calls Try.prog 7 #[hdV a, hdV b, .int .u32 n] w (True_ w) := by
  have h0 := twoB_new w (hdC a) (hdC b) 28
  obtain ⟨U, hU, U0, U1⟩ : ∃ U, 16 + a.un % 16369 = U ∧ 16 ≤ U ∧ U ≤ 16384 := ⟨16 + a.un % 16369, rfl, by omega, by omega⟩
  obtain ⟨T, hT, T0, T1⟩ : ∃ U, 16 + b.un % 16369 = U ∧ 16 ≤ U ∧ U ≤ 16384 := ⟨16 + b.un % 16369, rfl, by omega, by omega⟩
  have hoa : Hd.ok { a with un := U } := ⟨ha.rv, ha.ad, ha.fl, ⟨by simp only; omega, by simp only; omega⟩, ha.cr, ha.mo, ha.box, ha.st, ha.lo, ha.hi⟩
  have hob : Hd.ok { b with un := T } := ⟨hb.rv, hb.ad, hb.fl, ⟨by simp only; omega, by simp only; omega⟩, hb.cr, hb.mo, hb.box, hb.st, hb.lo, hb.hi⟩
  have hoc : Hd.ok { a with un := U, ad := n } := ⟨ha.rv, ⟨n0, n1⟩, ha.fl, ⟨by simp only; omega, by simp only; omega⟩, ha.cr, ha.mo, ha.box, ha.st, ha.lo, ha.hi⟩
  have hra : hdRight { a with un := U } = true := by unfold hdRight; simp [U0, U1]
  have hrb : hdRight { b with un := T } = true := by unfold hdRight; simp [T0, T1]
  have hrc : hdRight { a with un := U, ad := n } = true := by unfold hdRight; simp [U0, U1]
  have HbyA := Lib.hid (fun W => hbytes_any { a with un := U } W hoa hra)
  have HbyB := Lib.hid (fun W => hbytes_any { b with un := T } W hob hrb)
  have HbyC := Lib.hid (fun W => hbytes_any { a with un := U, ad := n } W hoc hrc)
  have HLC := Lib.hid (adjust_at { a with un := U } n)
  have HE := Lib.hid (hdL_same { a with un := U } { b with un := T } hoa hob)
  have Heq := Lib.hid (fun W => eq_hd { a with un := U } { b with un := T } W)
  have HLa := Lib.hid (hdL_len { a with un := U })
  have HLb := Lib.hid (hdL_len { b with un := T })
  have hua := ha.un
  have hub := hb.un
  clear hoa hob hoc hra hrb hrc ha hb
  simp only at HLC
  rw [HLC.out] at HbyC
  generalize hdL { a with un := U } = La at *
  generalize hdL { b with un := T } = Lb at *
  generalize decide (({ a with un := U } : Hd) = { b with un := T }) = E at *
  obtain ⟨arv, aad, afl, aun, acr, amo, ax0, ax1, ax2, ax3, ast, alo, ahi, alg⟩ := a
  obtain ⟨brv, bad, bfl, bun, bcr, bmo, bx0, bx1, bx2, bx3, bst, blo, bhi, blg⟩ := b
  simp only [hdC] at h0 hU hT HbyA HbyB HbyC Heq hua hub
  obtain ⟨ua0, ua1⟩ := hua
  obtain ⟨ub0, ub1⟩ := hub
  have HU := Lib.hid hU
  have HT := Lib.hid hT
  clear hU hT HLC
  go_enter Try.func7, Try.ntmps7
  go_wp2_with fail
  generalize (w.alloc _).alloc _ = V at *
  refine (awake5_any V).mono ?_
  rintro e w1 ⟨rfl, hb1⟩
  have h1 := h0.below hb1
  clear h0 hb1
  go_upto_region 3 with fail
  go_cut [] (fun wx => TwoB w wx #[.int .u32 arv, .int .u32 aad, .int .u16 afl, .int .u16 U, .int .u64 acr, .int .u64 amo, .int .i16 ax0, .int .i16 ax1, .int .i16 ax2, .int .i16 ax3, .int .u16 ast, .int .u16 alo, .int .i16 ahi, .bool alg] #[.int .u32 brv, .int .u32 bad, .int .u16 bfl, .int .u16 T, .int .u64 bcr, .int .u64 bmo, .int .i16 bx0, .int .i16 bx1, .int .i16 bx2, .int .i16 bx3, .int .u16 bst, .int .u16 blo, .int .i16 bhi, .bool blg] 28)
  case first =>
    have c3 : w1.cell? ⟨w.heap.size, 3, none⟩ = some (.int .u16 aun) := (cells14 h1.k1).2.2.2.1
    have d3 : w1.cell? ⟨w.heap.size + 1, 3, none⟩ = some (.int .u16 bun) := (cells14 h1.k2).2.2.2.1
    have f0 := thawed h1.k1
    have f1 := thawed h1.k2
    have hU := HU.out
    have hT := HT.out
    have K1 := Lib.hid ((h1.drew.set1 3 (.int .u16 U)).set2 3 (.int .u16 T))
    have K2 := Lib.hid ((h1.drew.set2 3 (.int .u16 T)).set1 3 (.int .u16 U))
    clear h1
    go_region
    all_goals go_wp2_with fail
    all_goals go_meet
    all_goals (first | exact K1.out | exact K2.out)
  case rest =>
    clear h1 HU HT
    replace hcut := hcut.drew
    go_wp2_with fail
    go_region_held3 (fun w' => w'.cell? ⟨w.heap.size, 0, none⟩ = some (.int .u32 arv) ∧ w'.cell? ⟨w.heap.size, 1, none⟩ = some (.int .u32 aad) ∧ w'.cell? ⟨w.heap.size, 2, none⟩ = some (.int .u16 afl) ∧ w'.cell? ⟨w.heap.size, 3, none⟩ = some (.int .u16 U) ∧ w'.cell? ⟨w.heap.size, 4, none⟩ = some (.int .u64 acr) ∧ w'.cell? ⟨w.heap.size, 5, none⟩ = some (.int .u64 amo) ∧ w'.cell? ⟨w.heap.size, 6, none⟩ = some (.int .i16 ax0) ∧ w'.cell? ⟨w.heap.size, 7, none⟩ = some (.int .i16 ax1) ∧ w'.cell? ⟨w.heap.size, 8, none⟩ = some (.int .i16 ax2) ∧ w'.cell? ⟨w.heap.size, 9, none⟩ = some (.int .i16 ax3) ∧ w'.cell? ⟨w.heap.size, 10, none⟩ = some (.int .u16 ast) ∧ w'.cell? ⟨w.heap.size, 11, none⟩ = some (.int .u16 alo) ∧ w'.cell? ⟨w.heap.size, 12, none⟩ = some (.int .i16 ahi) ∧ w'.cell? ⟨w.heap.size, 13, none⟩ = some (.bool alg) ∧ w'.cell? ⟨w.heap.size + 1, 0, none⟩ = some (.int .u32 brv) ∧ w'.cell? ⟨w.heap.size + 1, 1, none⟩ = some (.int .u32 bad) ∧ w'.cell? ⟨w.heap.size + 1, 2, none⟩ = some (.int .u16 bfl) ∧ w'.cell? ⟨w.heap.size + 1, 3, none⟩ = some (.int .u16 T) ∧ w'.cell? ⟨w.heap.size + 1, 4, none⟩ = some (.int .u64 bcr) ∧ w'.cell? ⟨w.heap.size + 1, 5, none⟩ = some (.int .u64 bmo) ∧ w'.cell? ⟨w.heap.size + 1, 6, none⟩ = some (.int .i16 bx0) ∧ w'.cell? ⟨w.heap.size + 1, 7, none⟩ = some (.int .i16 bx1) ∧ w'.cell? ⟨w.heap.size + 1, 8, none⟩ = some (.int .i16 bx2) ∧ w'.cell? ⟨w.heap.size + 1, 9, none⟩ = some (.int .i16 bx3) ∧ w'.cell? ⟨w.heap.size + 1, 10, none⟩ = some (.int .u16 bst) ∧ w'.cell? ⟨w.heap.size + 1, 11, none⟩ = some (.int .u16 blo) ∧ w'.cell? ⟨w.heap.size + 1, 12, none⟩ = some (.int .i16 bhi) ∧ w'.cell? ⟨w.heap.size + 1, 13, none⟩ = some (.bool blg))
      (first | exact two14 hcut.k1 hcut.k2)
      (first
        | (go_at_call 13; (with_reducible refine (HbyA.out _).mono ?_); rintro e w2 ⟨Ap, np, cp, rfl, hop, hbp⟩; replace hcut := hcut.below hbp)
        | (go_at_call 13; (with_reducible refine (HbyB.out _).mono ?_); rintro e w2 ⟨Aq, nq, cq, rfl, hoq, hbq⟩; replace hcut := hcut.below hbq))
    have hlp := hop.len
    have hlq := hoq.len
    rw [HLa.out] at hlp
    rw [HLb.out] at hlq
    subst hlp hlq
    have hcap := hop.cap
    obtain ⟨g, rfl⟩ : ∃ g, Ap = some ⟨g, 0, none⟩ := by
      rcases hop.shape with ⟨_, _, h, _⟩ | ⟨g, cur, rfl, _⟩
      · omega
      · exact ⟨g, rfl⟩
    have hrp := hop.row.below hbq
    have hrq := hoq.row
    clear hop hoq hbp hbq
    obtain ⟨c0, c1, c2, c3, c4, c5, c6, c7, c8, c9, c10, c11, c12, c13⟩ := cells14 hcut.k1
    have hA3 : Below w2.heap.size w2 (w2.alloc (.cells #[.int .u32 arv, .int .u32 aad, .int .u16 afl, .int .u16 U, .int .u64 acr, .int .u64 amo, .int .i16 ax0, .int .i16 ax1, .int .i16 ax2, .int .i16 ax3, .int .u16 ast, .int .u16 alo, .int .i16 ahi, .bool alg] 28)) := (Below.refl _ _).alloc (Nat.le_refl _) _
    have kc := heap_alloc_new w2 (.cells #[.int .u32 arv, .int .u32 aad, .int .u16 afl, .int .u16 U, .int .u64 acr, .int .u64 amo, .int .i16 ax0, .int .i16 ax1, .int .i16 ax2, .int .i16 ax3, .int .u16 ast, .int .u16 alo, .int .i16 ahi, .bool alg] 28)
    go_upto_region 6 with fail
    clear c0 c1 c2 c3 c4 c5 c6 c7 c8 c9 c10 c11 c12 c13
    generalize w2.alloc _ = w3 at *
    have c1 := (cells14 kc).2.1
    have f0 := thawed kc
    have hB4 := below_set (Nat.le_refl _) 1 (.int .u32 n) hA3
    have kc4 := set_block kc 1 (.int .u32 n)
    simp only [List.setIfInBounds_toArray, List.set_cons_zero, List.set_cons_succ] at kc4
    go_upto_region 7 with fail
    clear c1 f0 hA3 kc
    generalize w3.setCell _ _ = w4 at *
    have hc4 := hcut.below hB4
    have hp4 := hrp.below hB4
    have hq4 := hrq.below hB4
    clear hcut hrp hrq hB4
    obtain ⟨c0, c1, c2, c3, c4, c5, c6, c7, c8, c9, c10, c11, c12, c13⟩ := cells14 kc4
    go_wp2_with fail
    refine (HbyC.out w4).mono ?_
    rintro e w5 ⟨Ar, nr, kr, rfl, hor, hb5⟩
    clear c0 c1 c2 c3 c4 c5 c6 c7 c8 c9 c10 c11 c12 c13
    have hlr : nr = 54 := by
      have h1 := hor.len
      have h2 := HLa.out
      rw [List.length_append, List.length_append, List.length_take, List.length_drop, h2, b4_len'] at h1
      omega
    subst hlr
    have hc5 := (hc4.below hb5).drew
    have hp5 := (hp4.below hb5).drew
    have hq5 := (hq4.below hb5).drew
    have hr5 := hor.row.drew
    clear hc4 hp4 hq4 hb5 hor kc4
    have hcp1 : (54 : Int) ≤ (cp : Int) := by omega
    have hcp2 : (8 : Int) ≤ (cp : Int) := by omega
    have hcp3 : (12 : Int) < (cp : Int) := by omega
    have heq := Heq.out
    have hEE : (E == E) = true := by simp
    clear Heq
    go_wp2_with fail
    go_region_held3 (fun w' => w'.cell? ⟨w.heap.size, 0, none⟩ = some (.int .u32 arv) ∧ w'.cell? ⟨w.heap.size, 1, none⟩ = some (.int .u32 aad) ∧ w'.cell? ⟨w.heap.size, 2, none⟩ = some (.int .u16 afl) ∧ w'.cell? ⟨w.heap.size, 3, none⟩ = some (.int .u16 U) ∧ w'.cell? ⟨w.heap.size, 4, none⟩ = some (.int .u64 acr) ∧ w'.cell? ⟨w.heap.size, 5, none⟩ = some (.int .u64 amo) ∧ w'.cell? ⟨w.heap.size, 6, none⟩ = some (.int .i16 ax0) ∧ w'.cell? ⟨w.heap.size, 7, none⟩ = some (.int .i16 ax1) ∧ w'.cell? ⟨w.heap.size, 8, none⟩ = some (.int .i16 ax2) ∧ w'.cell? ⟨w.heap.size, 9, none⟩ = some (.int .i16 ax3) ∧ w'.cell? ⟨w.heap.size, 10, none⟩ = some (.int .u16 ast) ∧ w'.cell? ⟨w.heap.size, 11, none⟩ = some (.int .u16 alo) ∧ w'.cell? ⟨w.heap.size, 12, none⟩ = some (.int .i16 ahi) ∧ w'.cell? ⟨w.heap.size, 13, none⟩ = some (.bool alg) ∧ w'.cell? ⟨w.heap.size + 1, 0, none⟩ = some (.int .u32 brv) ∧ w'.cell? ⟨w.heap.size + 1, 1, none⟩ = some (.int .u32 bad) ∧ w'.cell? ⟨w.heap.size + 1, 2, none⟩ = some (.int .u16 bfl) ∧ w'.cell? ⟨w.heap.size + 1, 3, none⟩ = some (.int .u16 T) ∧ w'.cell? ⟨w.heap.size + 1, 4, none⟩ = some (.int .u64 bcr) ∧ w'.cell? ⟨w.heap.size + 1, 5, none⟩ = some (.int .u64 bmo) ∧ w'.cell? ⟨w.heap.size + 1, 6, none⟩ = some (.int .i16 bx0) ∧ w'.cell? ⟨w.heap.size + 1, 7, none⟩ = some (.int .i16 bx1) ∧ w'.cell? ⟨w.heap.size + 1, 8, none⟩ = some (.int .i16 bx2) ∧ w'.cell? ⟨w.heap.size + 1, 9, none⟩ = some (.int .i16 bx3) ∧ w'.cell? ⟨w.heap.size + 1, 10, none⟩ = some (.int .u16 bst) ∧ w'.cell? ⟨w.heap.size + 1, 11, none⟩ = some (.int .u16 blo) ∧ w'.cell? ⟨w.heap.size + 1, 12, none⟩ = some (.int .i16 bhi) ∧ w'.cell? ⟨w.heap.size + 1, 13, none⟩ = some (.bool blg))
      (first | exact two14 hc5.k1 hc5.k2 | exact two14 (kept_alloc hc5.k1 _) (kept_alloc hc5.k2 _))
      (first
        | (go_at_call 16; (with_reducible refine (same_any _ _ _ _ _ _ La Lb _ hp5 hq5 (by omega) (by omega)).mono ?_); rintro e w6 ⟨rfl, q, hw⟩; rw [HE.out]; replace hc5 : TwoB w w6 _ _ _ := (by rw [hw]; exact hc5.drewN q); replace hp5 : Row w6 _ _ _ := (by rw [hw]; exact hp5.drewN q); replace hr5 : Row w6 _ _ _ := (by rw [hw]; exact hr5.drewN q); clear hw hq5)
        | (go_at_call 24; refine (b4_any n _ n0 n1).mono ?_; rintro e w6 ⟨Ab, nb, kb, rfl, hob, hb⟩; replace hc5 := hc5.below hb; replace hp5 := hp5.below hb; replace hr5 := hr5.below hb; have hbr := hob.row; clear hob hb)
        | (go_at_call 21; refine (joinN_any _ _ [⟨some ⟨g, 0, none⟩, 8, _, La.take 8⟩, ⟨Ab, nb, kb, b4 n⟩, ⟨some ⟨g, 12, none⟩, 42, _, La.drop 12⟩] 3 _ rfl rfl rfl (three_ok hp5 hbr) (by omega) (by have := HLa.out; simp [joined, b4, b2]; omega)).mono ?_; rintro e w6 ⟨Aj, nj, kj, rfl, hoj, hb⟩; replace hc5 := hc5.below hb; replace hr5 := hr5.below hb; have hjr := hoj.row; clear hoj hb)
        | (go_at_call 16; refine (same_any _ _ _ _ _ _ _ _ _ hr5 hjr (by omega) (by have h1 := hjr.len; have h2 := HLa.out; rw [join_three, List.length_append, List.length_append, List.length_take, List.length_drop, b4_len'] at h1; omega)).mono ?_; rintro e w6 ⟨rfl, q, hw⟩; rw [join_three, sameB_refl]; replace hc5 : TwoB w w6 _ _ _ := (by rw [hw]; exact hc5.drewN q); clear hw))
    have hB := hc5.bel
    clear hc5
    go_wp2
    go_ret
    exact ⟨rfl, hB⟩

end Go.Proofs.Ytmpicokeenodbaa
