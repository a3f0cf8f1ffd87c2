/- simple: pointsOf and Contours, as contracts over this seat's translation. -/
import Derived.Test.YtlcnonhebppeiaaSimO
import Derived.Test.YtlcnonhebppeiaaSimX
namespace Go.Proofs.Ytlcnonhebppeiaa
open Go.RowKit
set_option linter.unusedVariables false

theorem Try.ptinfo : (Try.prog.info? 58).map (fun i => (i.zero, i.size, i.bytes)) = some (some (.agg #[.int .i64 0, .int .i64 0, .bool false]), 3, 24) := by kernel_rfl

theorem RowS.dropC {α : Type} {enc : α → List Value} {k : Nat} (hk : ∀ x, (enc x).length = k) {w : World} {A : Option Addr} {n : Nat} {l : List α} (h : RowS enc k w A n l) (m : Nat) : RowS enc k w (A.map (·.add (m * k))) (n - m) (l.drop m) :=
  ⟨by rw [List.length_drop, h.1], by rw [← flat_drop hk, Nat.sub_mul]; exact h.2.drop (m * k)⟩

/-- Points under way in a block of their own. -/
structure PO (w wr : World) (gp n : Nat) (l : List Sp) : Prop where
  ps : OwnS 58 encRp 3 wr w.heap.size (some ⟨gp, 0, none⟩) n n l
  bel : Below w.heap.size w wr
theorem PO.below {w wr w' : World} {gp n : Nat} {l : List Sp} (h : PO w wr gp n l) (hb : Below wr.heap.size wr w') : PO w w' gp n l := ⟨h.ps.below hb, h.bel.trans (hb.mono h.bel.size)⟩
theorem PO.set {w wr : World} {gp n : Nat} {l : List Sp} (h : PO w wr gp n l) {k : Nat} (hk : k < n) (x : Sp) : PO w (setCells wr gp (k * 3) (encRp x)) gp n (l.set k x) := by
  have hg := (h.ps.from_ gp rfl).1
  refine ⟨ownS_store encRp_len h.ps hk x, ?_⟩
  unfold encRp setCells setCells setCells setCells
  exact ((h.bel.setCell (p := ⟨gp, _, none⟩) hg _).setCell (p := ⟨gp, _, none⟩) hg _).setCell (p := ⟨gp, _, none⟩) hg _

set_option maxRecDepth 100000 in
set_option maxHeartbeats 4000000 in
theorem optsOf_any (A : Option Addr) (n c : Nat) (ps : List Sp) (w : World) (hr : RowS encSp 3 w A n ps) (hps : ∀ p ∈ ps, (-32768 ≤ p.1 ∧ p.1 ≤ 32767) ∧ (-32768 ≤ p.2.1 ∧ p.2.1 ≤ 32767)) (hn : n ≤ 1000000) :
    Calls Try.prog 60 #[.slice A n c] w fun e w' => e = .returned (.slice (some ⟨w.heap.size, 0, none⟩) n n) ∧ PO w w' w.heap.size n ps := by
  obtain ⟨i0, hi, hz0, hz1, hz2⟩ := info_parts Try.ptinfo
  have HR := Lib.hid hr
  have hl := hr.len
  have Hl := Lib.hid hl
  have HPs := Lib.hid hps
  clear hr hps hl
  go_enter Try.func60, Try.ntmps60
  go_wp2_with (at_make; refine wpList_make_S rfl (.tmp 7) (.tmp 7) _ rfl 58 encRp 3 encRp_len (by omega) w.heap.size i0 _ (0, 0, false) 24 Try.underlying56 hi hz0 hz1 rfl hz2 _ _ n rfl rfl rfl rfl (by omega) (by omega) (by omega) ?_; intro w4 hown4 hg4)
  have hb4 := below_of_grown hg4 (Nat.le_refl _) (fun k e => by cases e)
  have hs : PO w w4 w.heap.size n (ps.take 0 ++ List.replicate (n - 0) (0, 0, false)) := ⟨hown4, hb4⟩
  clear hown4 hg4 hb4 hi hz0 hz1 hz2
  have Hg0 : Hid (w.heap.size < w4.heap.size) := (hs.ps.from_ _ rfl).2
  generalize hgp : w.heap.size = gp at hs Hg0 ⊢
  have Hgp := Lib.hid hgp
  clear hgp
  go_loopw [11] (fun i' wr => ∃ k : Nat, k ≤ n ∧ i' = .int .i64 k ∧ PO w wr gp n (ps.take k ++ List.replicate (n - k) (0, 0, false))) (fun i' _ => n - (intOf i').toNat)
  case atStart => exact ⟨0, Nat.zero_le _, rfl, hs⟩
  case round =>
    clear hs Hg0
    obtain ⟨k, hk, rfl, hs⟩ := hrel
    by_cases hlt : k < n
    · obtain ⟨p, hp⟩ : ∃ p, ps[k]? = some p := ⟨ps[k]'(by have := Hl.out; omega), List.getElem?_eq_getElem (by have := Hl.out; omega)⟩
      obtain ⟨⟨u0, u1⟩, ⟨u2, u3⟩⟩ := HPs.out p (List.mem_of_getElem? hp)
      obtain ⟨g, off, rfl, hg, q0, q1, q2⟩ := atSp (HR.out.below hs.bel) hp
      have hst : (ps.take k ++ List.replicate (n - k) ((0, 0, false) : Sp)).set k p = ps.take (k + 1) ++ List.replicate (n - (k + 1)) (0, 0, false) := by
        have hkl : (ps.take k).length = k := by rw [List.length_take]; have := Hl.out; omega
        rw [List.set_append_right _ _ (by omega), hkl, Nat.sub_self, List.take_add_one, hp, show n - k = (n - (k + 1)) + 1 by omega, List.replicate_succ]
        simp
      obtain ⟨z, hz⟩ : ∃ z, (ps.take k ++ List.replicate (n - k) ((0, 0, false) : Sp))[k]? = some z := by
        refine ⟨_, List.getElem?_eq_getElem ?_⟩
        rw [List.length_append, List.length_take, List.length_replicate]
        have := Hl.out
        omega
      obtain ⟨px, py, po⟩ := p
      simp only at q0 q1 q2 u0 u1 u2 u3
      have hA := (Below.refl wr.heap.size wr).alloc (Nat.le_refl _) (.cells #[.int .i16 px, .int .i16 py, .bool po] 60)
      have hs2 := hs.below hA
      have hgw := (hs.ps.from_ gp rfl).2
      have hne1 : gp ≠ wr.heap.size := by omega
      have hne2 : wr.heap.size ≠ gp := by omega
      obtain ⟨gg, off', e', _, r0, r1, r2⟩ := atRp (hs2.ps.row encRp_len) hz
      simp only [Option.some.injEq, Addr.mk.injEq, and_true] at e'
      obtain ⟨rfl, rfl⟩ := e'
      rw [Nat.zero_add] at r0 r1 r2
      have fz := hs2.ps.thaw
      have hs4 := hs2.set hlt (px, py, po)
      rw [hst] at hs4
      have H4 := Lib.hid hs4
      unfold encRp setCells setCells setCells setCells at H4
      clear hs4 hs hs2 hp hz hst hA hgw
      go_wp2
      go_roundw
      case rel => exact ⟨k + 1, by omega, by go_num, H4.out⟩
      case measure => simp [intOf]; omega
    · obtain rfl : k = n := by omega
      rw [List.take_of_length_le (by have := Hl.out; omega), Nat.sub_self, List.replicate_zero, List.append_nil] at hs
      obtain rfl := Hgp.out
      go_wp2
      go_ret
      exact ⟨rfl, hs⟩

/-- A row of rows of points. -/
abbrev Sl := Option Addr × Nat × Nat
def encSl (t : Sl) : List Value := [.slice t.1 t.2.1 t.2.2]
theorem encSl_len (t : Sl) : (encSl t).length = 1 := rfl
theorem encSl_one (t : Sl) : ∀ u ∈ encSl t, u.oneCell' = true := by intro u hu; simp [encSl] at hu; subst hu; rfl
theorem Try.ptsinfo : (Try.prog.info? 56).map (fun i => (i.zero, i.size, i.bytes)) = some (some (.slice none 0 0), 1, 24) := by kernel_rfl
theorem atSl {w : World} {A : Option Addr} {n : Nat} {l : List Sl} {j : Nat} {x : Sl} (h : RowS encSl 1 w A n l) (hj : l[j]? = some x) :
    ∃ g off, A = some ⟨g, off, none⟩ ∧ g < w.heap.size ∧ w.cell? ⟨g, off + j, none⟩ = some (.slice x.1 x.2.1 x.2.2) := by
  obtain ⟨g, off, e, hg, hc⟩ := h.at encSl_len (by omega) hj
  refine ⟨g, off, e, hg, ?_⟩
  have := hc 0 _ rfl
  rwa [Nat.mul_one] at this

/-- The ends of a contour. -/
def segF (es : List Int) (i : Nat) : Nat := if i = 0 then 0 else (es.getD (i - 1) 0).toNat + 1
def segT (es : List Int) (i : Nat) : Nat := (es.getD i 0).toNat + 1
def seg (ps : List Sp) (es : List Int) (i : Nat) : List Sp := (ps.take (segT es i)).drop (segF es i)
theorem segF_succ (es : List Int) (i : Nat) : segF es (i + 1) = segT es i := by unfold segF segT; rw [if_neg (by omega), Nat.add_sub_cancel]
theorem rise_step {l : List Int} {n : Nat} (h : riseN l n = true) : ∀ (d i : Nat), i + d < n → l.getD i 0 ≤ l.getD (i + d) 0
  | 0, _, _ => Int.le_refl _
  | d + 1, i, hd => by
    have h1 := rise_step h d i (by omega)
    have h2 := riseN_at h (show i + (d + 1) < n by omega)
    unfold riseA at h2
    rw [show i + (d + 1) - 1 = i + d by omega] at h2
    simp only [Bool.or_eq_true, decide_eq_true_eq] at h2
    omega
theorem seg_bounds {ps : List Sp} {es : List Int} (h0 : ∀ x ∈ es, 0 ≤ x ∧ x < 65536) (hr : riseN es es.length = true) (hc : ps.length = cntE es) {i : Nat} (hi : i < es.length) : segF es i < segT es i ∧ segT es i ≤ ps.length := by
  constructor
  · unfold segF segT
    split
    · omega
    · have h2 := riseN_at hr hi
      unfold riseA at h2
      simp only [Bool.or_eq_true, decide_eq_true_eq] at h2
      have h3 : (es.getD (i - 1) 0) < es.getD i 0 := h2.resolve_left (by omega)
      have h4 := (h0 (es[i]) (List.getElem_mem hi)).1
      have h5 : es.getD i 0 = es[i] := by simp [hi]
      have hi' : i - 1 < es.length := by omega
      have h6 := (h0 (es[i - 1]) (List.getElem_mem hi')).1
      have h7 : es.getD (i - 1) 0 = es[i - 1] := by simp [hi']
      omega
  · have h1 := rise_step hr (es.length - 1 - i) i (by omega)
    rw [show i + (es.length - 1 - i) = es.length - 1 by omega] at h1
    rw [hc]
    unfold segT cntE
    rw [if_neg (by omega)]
    omega

/-- Contours under way. -/
structure CT (w wr : World) (cs : Array Value) (gp N : Nat) (L : List Sl) (k : Nat) (ps : List Sp) (es : List Int) : Prop where
  box : wr.heap[w.heap.size]? = some (.cells cs 29 (0, 0))
  out : OwnS 56 encSl 1 wr w.heap.size (some ⟨gp, 0, none⟩) N N L
  inn : ∀ i, i < k → ∃ h m, L[i]? = some (some ⟨h, 0, none⟩, m, m) ∧ gp < h ∧ RowS encRp 3 wr (some ⟨h, 0, none⟩) m (seg ps es i)
  bel : Below w.heap.size w wr
  ne : gp ≠ w.heap.size
theorem CT.cell6 {w wr : World} {x0 x1 x2 x3 E P S : Value} {gp N : Nat} {L : List Sl} {k : Nat} {ps : List Sp} {es : List Int} (h : CT w wr #[x0, x1, x2, x3, E, P, S] gp N L k ps es) : wr.cell? ⟨w.heap.size, 6, none⟩ = some S := cell_of_row wr _ 6 _ _ _ h.box
theorem CT.below {w wr w' : World} {cs : Array Value} {gp N : Nat} {L : List Sl} {k : Nat} {ps : List Sp} {es : List Int} (h : CT w wr cs gp N L k ps es) (hb : Below wr.heap.size wr w') : CT w w' cs gp N L k ps es :=
  ⟨kept_block h.box hb, h.out.below hb, fun i hi => by obtain ⟨g, m, a, b, c⟩ := h.inn i hi; exact ⟨g, m, a, b, c.below hb⟩, h.bel.trans (hb.mono h.bel.size), h.ne⟩
theorem CT.put {w wr : World} {cs : Array Value} {gp N : Nat} {L : List Sl} {k : Nat} {ps : List Sp} {es : List Int} (h : CT w wr cs gp N L k ps es) (hk : k < N) {g m : Nat} (hg : gp < g) (hr : RowS encRp 3 wr (some ⟨g, 0, none⟩) m (seg ps es k)) :
    CT w (wr.setCell ⟨gp, k, none⟩ (.slice (some ⟨g, 0, none⟩) m m)) cs gp N (L.set k (some ⟨g, 0, none⟩, m, m)) (k + 1) ps es := by
  have hf := (h.out.from_ gp rfl).1
  have ho := ownS_store encSl_len h.out hk (some ⟨g, 0, none⟩, m, m)
  rw [Nat.mul_one] at ho
  have hlen := h.out.len
  have hkeep : ∀ q, gp < q → (wr.setCell ⟨gp, k, none⟩ (.slice (some ⟨g, 0, none⟩) m m)).heap[q]? = wr.heap[q]? := fun q hq => Below.heap_setCell wr ⟨gp, k, none⟩ _ q (show q ≠ gp by omega)
  have hrow : ∀ (q m' : Nat) (l : List Sp), gp < q → RowS encRp 3 wr (some ⟨q, 0, none⟩) m' l → RowS encRp 3 (wr.setCell ⟨gp, k, none⟩ (.slice (some ⟨g, 0, none⟩) m m)) (some ⟨q, 0, none⟩) m' l := fun q m' l hq hl => hl.keep (by simp [World.setCell]) (fun z e _ => by simp [blockOf] at e; subst e; exact hkeep _ hq)
  refine ⟨(Below.heap_setCell wr ⟨gp, k, none⟩ _ _ (show w.heap.size ≠ gp by have := h.ne; omega)).trans h.box, ho, ?_, h.bel.setCell (p := ⟨gp, k, none⟩) hf _, h.ne⟩
  intro i hi
  by_cases hik : i = k
  · subst hik
    exact ⟨g, m, by rw [List.getElem?_set_self (by omega)], hg, hrow _ _ _ hg hr⟩
  · obtain ⟨q, m', a, b, c⟩ := h.inn i (by omega)
    exact ⟨q, m', by rw [List.getElem?_set_ne (by omega)]; exact a, b, hrow _ _ _ b c⟩

/-- What Contours leaves. -/
def RetCt (w : World) (g : Gl) (e : Ending) (w' : World) : Prop :=
  Below w.heap.size w w' ∧ ((oRight g = false ∧ e = .returned (.slice none 0 0)) ∨ (oRight g = true ∧ ∃ gp L, e = .returned (.slice (some ⟨gp, 0, none⟩) g.es.length g.es.length) ∧ RowS encSl 1 w' (some ⟨gp, 0, none⟩) g.es.length L ∧ ∀ i, i < g.es.length → ∃ h m, L[i]? = some (some ⟨h, 0, none⟩, m, m) ∧ RowS encRp 3 w' (some ⟨h, 0, none⟩) m (seg g.ps g.es i)))

set_option maxRecDepth 100000 in
set_option maxHeartbeats 4000000 in
theorem ocont_no (v : GlV) (w : World) (hr : v.rows w) (hf : v.few) (ho : v.g.ok) (hn : oRight v.g = false) : Calls Try.prog 22 #[v.val] w (RetCt w v.g) := by
  have hA := (Below.refl w.heap.size w).alloc (Nat.le_refl _) (.cells v.cells 29)
  have hk := heap_alloc_new w (.cells v.cells 29)
  have HR := Lib.hid (oright_any v _ (hr.below hA) hf ho)
  rw [hn] at HR
  have HN := Lib.hid hn
  clear hr hf ho hn
  unfold GlV.val at *
  unfold GlV.cells at *
  obtain ⟨g, EA, en, ec, PA, pn, pc, SA, sn, sc⟩ := v
  simp only at *
  obtain ⟨b0, b1, b2, b3, b4, b5, b6⟩ := cells7 hk
  clear hk
  go_enter Try.func22, Try.ntmps22
  go_wp2_with fail
  with_reducible refine HR.out.mono ?_
  rintro e w1 ⟨rfl, hb1⟩
  have hB := hA.trans (hb1.mono hA.size)
  go_wp2
  go_ret
  exact ⟨hB, .inl ⟨HN.out, rfl⟩⟩

set_option maxRecDepth 100000 in
set_option maxHeartbeats 4000000 in
theorem ocont_yes (v : GlV) (w : World) (hr : v.rows w) (hf : v.few) (ho : v.g.ok) (hn : oRight v.g = true) (hc : v.sn ≤ v.sc) : Calls Try.prog 22 #[v.val] w (RetCt w v.g) := by
  obtain ⟨i0, hi, hz0, hz1, hz2⟩ := info_parts Try.ptsinfo
  have hA := (Below.refl w.heap.size w).alloc (Nat.le_refl _) (.cells v.cells 29)
  have hk := heap_alloc_new w (.cells v.cells 29)
  have HR := Lib.hid (oright_any v _ (hr.below hA) hf ho)
  rw [hn] at HR
  have HN := Lib.hid hn
  obtain ⟨⟨_, _, hrise, hcnt⟩, _, _⟩ := oRight_parts hn
  have HSeg : Hid (∀ i, i < v.g.es.length → segF v.g.es i < segT v.g.es i ∧ segT v.g.es i ≤ v.g.ps.length) := fun i hi => seg_bounds ho.es hrise hcnt hi
  have HE : Hid (v.g.es.length = v.en) := hr.es.len
  have HS : Hid (v.g.ps.length = v.sn) := hr.ps.len
  have Hre := Lib.hid hr.es
  have Hrs := Lib.hid hr.ps
  have HEs := Lib.hid ho.es
  have HPs := Lib.hid ho.ps
  obtain ⟨f0, f1, f2⟩ := hf
  clear hr ho hn hrise hcnt
  unfold GlV.val at *
  unfold GlV.cells at *
  obtain ⟨⟨x0, x1, x2, x3, es, pr, ps⟩, EA, en, ec, PA, pn, pc, SA, sn, sc⟩ := v
  simp only at *
  obtain ⟨b0, b1, b2, b3, b4, b5, b6⟩ := cells7 hk
  go_enter Try.func22, Try.ntmps22
  go_wp2_with fail
  with_reducible refine HR.out.mono ?_
  rintro e w1 ⟨rfl, hb1⟩
  have hk1 := kept_block hk hb1
  have hB1 := hA.trans (hb1.mono hA.size)
  clear b0 b1 b2 b3 b4 b5 b6
  obtain ⟨b0, b1, b2, b3, b4, b5, b6⟩ := cells7 hk1
  clear hA hb1 hk HR
  go_wp2_with (at_make; refine wpList_make_S rfl (.tmp 13) (.tmp 13) _ rfl 56 encSl 1 encSl_len (by omega) w.heap.size i0 _ (none, 0, 0) 24 Try.underlying40 hi hz0 hz1 rfl hz2 _ _ en rfl rfl rfl rfl (by omega) (by omega) hB1.size ?_; intro w4 hown4 hg4; have hb4 := below_of_grown hg4 (Nat.le_refl _) (fun k e => by cases e); have hk4 := kept_block hk1 hb4; obtain ⟨y0, y1, y2, y3, y4, y5, y6⟩ := cells7 hk4)
  have hs : CT w w4 #[.int .i16 x0, .int .i16 x1, .int .i16 x2, .int .i16 x3, .slice EA en ec, .slice PA pn pc, .slice SA sn sc] w1.heap.size en (List.replicate en (none, 0, 0)) 0 ps es :=
    ⟨hk4, hown4, fun i hi => absurd hi (by omega), hB1.trans (hb4.mono hB1.size), by have := lt_of_block hk1; omega⟩
  clear hown4 hg4 hi hz0 hz1 hz2 hb4 hk4 y0 y1 y2 y3 y4 y5 y6 b0 b1 b2 b3 b4 b5 b6 hk1 hB1
  generalize w1.heap.size = gp at *
  go_loopw [4, 18] (fun f' i' wr => ∃ (k : Nat) (L : List Sl), k ≤ en ∧ i' = .int .i64 k ∧ f' = .int .i64 ((segF es k : Nat) : Int) ∧ CT w wr #[.int .i16 x0, .int .i16 x1, .int .i16 x2, .int .i16 x3, .slice EA en ec, .slice PA pn pc, .slice SA sn sc] gp en L k ps es) (fun _ i' _ => en - (intOf i').toNat)
  case atStart => exact ⟨0, _, Nat.zero_le _, rfl, rfl, hs⟩
  case round =>
    clear hs
    obtain ⟨k, L, hk, rfl, rfl, hs⟩ := hrel
    have hsz := hs.bel.size
    by_cases hlt : k < en
    · obtain ⟨x, hx⟩ := get_some (zs := es) (k := k) (by have := HE.out; omega)
      obtain ⟨u0, u1⟩ := HEs.out x (List.mem_of_getElem? hx)
      obtain ⟨g, off, rfl, hg, hc4⟩ := (Hre.out.below hs.bel).at (cellsOf_get (k := .u16) hx)
      have hxT : Hid (((segT es k : Nat) : Int) = x + 1) := by
        show _ = _
        unfold segT
        rw [show es.getD k 0 = x by simp [hx]]
        omega
      obtain ⟨s0, s1⟩ := HSeg.out k (by have := HE.out; omega)
      have hs1' : segT es k ≤ sn := by have := HS.out; omega
      have hpos : 0 < segT es k := by unfold segT; omega
      have c6 := hs.cell6
      -- where the points lie
      obtain ⟨p0, hp0⟩ : ∃ p0, ps[0]? = some p0 := ⟨ps[0]'(by have := HS.out; omega), List.getElem?_eq_getElem (by have := HS.out; omega)⟩
      obtain ⟨gs, os, rfl, hgs, _, _, _⟩ := atSp (Hrs.out.below hs.bel) hp0
      have hrs := RowS.dropC encSp_len (RowS.take encSp_len (Hrs.out.below hs.bel) hs1') (segF es k)
      have hokS : ∀ p ∈ (ps.take (segT es k)).drop (segF es k), (-32768 ≤ p.1 ∧ p.1 ≤ 32767) ∧ (-32768 ≤ p.2.1 ∧ p.2.1 ≤ 32767) := fun p hp => HPs.out p (List.mem_of_mem_take (List.mem_of_mem_drop hp))
      have hxn : (x + 1).toNat = segT es k := by have := hxT.out; omega
      have HP : Hid (Calls Try.prog 60 #[.slice (some ⟨gs, os + segF es k * 3, none⟩) (segT es k - segF es k) (sc - segF es k)] wr fun e w' => e = .returned (.slice (some ⟨wr.heap.size, 0, none⟩) (segT es k - segF es k) (segT es k - segF es k)) ∧ PO wr w' wr.heap.size (segT es k - segF es k) (seg ps es k)) := by
        simp only [Option.map_some, Addr.add] at hrs
        rw [show (if segF es k * 3 = 0 then (⟨gs, os, none⟩ : Addr) else ⟨gs, os + segF es k * 3, none⟩) = ⟨gs, os + segF es k * 3, none⟩ by split <;> simp [*]] at hrs
        exact optsOf_any _ _ (sc - segF es k) _ wr hrs hokS (by omega)
      have hgpw := (hs.out.from_ gp rfl).2
      have i0' : (0 : Int) ≤ ((segF es k : Nat) : Int) := by omega
      have i1 : ((segF es k : Nat) : Int) ≤ x + 1 := by have := hxT.out; omega
      have i2 : x + 1 ≤ (sc : Int) := by have := hxT.out; omega
      have i3 : x + 1 ≤ (sn : Int) := by have := hxT.out; omega
      have i4 : segF es k ≠ sc := by omega
      have i5 : sc ≠ segF es k := by omega
      have hFs := segF_succ es k
      clear hx hp0 hokS hrs
      go_wp2_with fail
      with_reducible refine HP.out.mono ?_
      rintro e w5 ⟨rfl, hpo⟩
      have hs5 := hs.below hpo.bel
      obtain ⟨t0, ht0⟩ : ∃ t0, L[k]? = some t0 := ⟨L[k]'(by have := hs.out.len; omega), List.getElem?_eq_getElem (by have := hs.out.len; omega)⟩
      obtain ⟨gg, oo, e', _, y0⟩ := atSl (hs5.out.row encSl_len) ht0
      simp only [Option.some.injEq, Addr.mk.injEq, and_true] at e'
      obtain ⟨rfl, rfl⟩ := e'
      rw [Nat.zero_add] at y0
      have yf := hs5.out.thaw
      have hs6 := hs5.put hlt hgpw (hpo.ps.row encRp_len)
      have H6 := Lib.hid hs6
      have hFs2 : ((segF es (k + 1) : Nat) : Int) = x + 1 := by rw [hFs]; exact hxT.out
      clear hs hs5 hs6 hpo ht0 HP
      go_wp2_with fail
      go_roundw
      case rel => exact ⟨k + 1, _, by omega, by go_num, by rw [hFs2], H6.out⟩
      case measure => simp [intOf]; omega
    · obtain rfl : k = en := by omega
      have HE2 := HE.out
      go_wp2
      go_ret
      refine ⟨hs.bel, .inr ⟨HN.out, gp, L, ?_, ?_, fun i hi => ?_⟩⟩
      · show _ = Ending.returned (.slice (some ⟨gp, 0, none⟩) es.length es.length)
        rw [HE2]
        rfl
      · rw [show (Gl.mk x0 x1 x2 x3 es pr ps).es.length = k from HE2]
        exact hs.out.row encSl_len
      · obtain ⟨h, m, a, _, c⟩ := hs.inn i (by have : (Gl.mk x0 x1 x2 x3 es pr ps).es.length = k := HE2; omega)
        exact ⟨h, m, a, c⟩
end Go.Proofs.Ytlcnonhebppeiaa
