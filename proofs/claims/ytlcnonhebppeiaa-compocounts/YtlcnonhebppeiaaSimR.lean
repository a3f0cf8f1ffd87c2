/- simple: readPoints, as a contract over this seat's translation. -/
import Derived.Test.YtlcnonhebppeiaaSimQ
namespace Go.Proofs.Ytlcnonhebppeiaa
open Go.RowKit
set_option linter.unusedVariables false

theorem fAll_bytes {zs : List Int} (hB : Bytes zs) {n : Nat} : ∀ (k : Nat) (s t : FS), n - s.fl.length ≤ k → Bytes s.fl → fAll zs n s = some t → Bytes t.fl := by
  intro k
  induction k with
  | zero =>
    intro s t h hs ht
    rw [fAll_done (by omega)] at ht
    cases ht
    exact hs
  | succ k ih =>
    intro s t h hs ht
    by_cases hl : s.fl.length < n
    · cases hk : fOk zs n s with
      | false => rw [fAll_not hl hk] at ht; cases ht
      | true =>
        rw [fAll_step hl hk] at ht
        have hz := fNext_len zs s
        exact ih (fNext zs s) t (by omega) (fNext_bytes hB hs) ht
    · rw [fAll_done (by omega)] at ht
      cases ht
      exact hs

/-- What telling points leaves. -/
def RetPts (w : World) (B b : Nat) (zs : List Int) (n i : Nat) (e : Ending) (w' : World) : Prop :=
  w.grownBy w' (some b) ∧ (((∀ s, fAll zs n ⟨[], i⟩ = some s → oPk zs s = false) ∧ e = .returned (.tuple #[.slice none 0 0, .bool false]) ∧ ∃ j, RdQ w' B b zs j)
    ∨ (∃ s A c, fAll zs n ⟨[], i⟩ = some s ∧ oPk zs s = true ∧ e = .returned (.tuple #[.slice A n c, .bool true]) ∧ OwnS 60 encSp 3 w' w.heap.size A n c (oPs zs s n) ∧ RdQ w' B b zs (oEnd zs s)))

/-- A Reader, rows of flags and of places, and a fresh row of points. -/
structure LY (w wr : World) (B b : Nat) (zs : List Int) (i n : Nat) (FA : Option Addr) (fc : Nat) (fl : List Int) (gx : Nat) (xs : List Int) (gy : Nat) (ys : List Int) (gp : Nat) (l : List Sp) : Prop where
  rd : RdQ wr B b zs i
  gr : w.grownBy wr (some b)
  fl : OwnB wr w.heap.size FA n fc fl
  xs : Own 22 .i16 wr w.heap.size (some ⟨gx, 0, none⟩) n n xs
  ys : Own 22 .i16 wr w.heap.size (some ⟨gy, 0, none⟩) n n ys
  ps : OwnS 60 encSp 3 wr w.heap.size (some ⟨gp, 0, none⟩) n n l
  ne : gp ≠ b
theorem ownS_block {α : Type} {t : TypeId} {enc : α → List Value} {k : Nat} {w : World} {B g n c : Nat} {l : List α} (h : OwnS t enc k w B (some ⟨g, 0, none⟩) n c l) : ∃ cur, w.heap[g]? = some (.cells cur t (0, 0)) := by
  rcases h.shape with ⟨e, _⟩ | ⟨g', cur, e, _, _, hh, _⟩
  · cases e
  · simp only [Option.some.injEq, Addr.mk.injEq, and_true] at e
    subst e
    exact ⟨cur, hh⟩
theorem own_neS {t t' : TypeId} {k : IntKind} {w : World} {B g n c : Nat} {A : Option Addr} {zs : List Int} {cur : Array Value} (h : Own t k w B A n c zs) (h' : w.heap[g]? = some (.cells cur t' (0, 0))) (ht : t ≠ t') : ∀ q, blockOf A = some q → q ≠ g := by
  intro q hq
  rintro rfl
  rcases h.shape with ⟨rfl, _⟩ | ⟨g', cur, rfl, _, _, hh, _⟩
  · simp [blockOf] at hq
  · simp [blockOf] at hq
    subst hq
    rw [hh] at h'
    simp at h'
    exact ht h'.2
theorem LY.set {w wr : World} {B b : Nat} {zs : List Int} {i n : Nat} {FA : Option Addr} {fc : Nat} {fl : List Int} {gx : Nat} {xs : List Int} {gy : Nat} {ys : List Int} {gp : Nat} {l : List Sp} (h : LY w wr B b zs i n FA fc fl gx xs gy ys gp l) (k : Nat) (hk : k < n) (x : Sp) :
    LY w (setCells wr gp (k * 3) (encSp x)) B b zs i n FA fc fl gx xs gy ys gp (l.set k x) := by
  obtain ⟨cur, hc⟩ := ownS_block h.ps
  have hg := (h.ps.from_ gp rfl).1
  have hne := h.ne
  refine ⟨h.rd.keep (by rw [setCells_size]; exact Nat.le_refl _) (fun g hg _ ho => setCells_block (by
      rintro rfl
      rcases ho with e | ⟨cur', hc'⟩
      · exact hne e
      · rw [hc] at hc'
        simp at hc') _ _ _), ⟨?_, ?_, ?_, by rw [setCells_size]; exact h.gr.size, fun q hq hn => (setCells_block (by omega) _ _ _).trans (h.gr.block q hq hn)⟩,
    h.fl.keep (fun q e => setCells_block (own_neS h.fl hc (by decide) q e) _ _ _), h.xs.keep (fun q e => setCells_block (own_neS h.xs hc (by decide) q e) _ _ _), h.ys.keep (fun q e => setCells_block (own_neS h.ys hc (by decide) q e) _ _ _), ownS_store encSp_len h.ps hk x, hne⟩
  · exact h.gr.os
  · exact h.gr.tape
  · exact h.gr.output
theorem LY.drew {w wr : World} {B b : Nat} {zs : List Int} {i n : Nat} {FA : Option Addr} {fc : Nat} {fl : List Int} {gx : Nat} {xs : List Int} {gy : Nat} {ys : List Int} {gp : Nat} {l : List Sp} (h : LY w wr B b zs i n FA fc fl gx xs gy ys gp l) : LY w wr.drew B b zs i n FA fc fl gx xs gy ys gp l :=
  ⟨h.rd.drew, ⟨h.gr.os, h.gr.tape, h.gr.output, h.gr.size, h.gr.block⟩, h.fl, h.xs, h.ys, h.ps.drew, h.ne⟩

set_option maxRecDepth 100000 in
set_option maxHeartbeats 4000000 in
theorem opoints_any (n : Nat) {w : World} {B b : Nat} {zs : List Int} {i : Nat} (h : RdQ w B b zs i) (hB : Bytes zs) (hl : zs.length ≤ 1000000) (hn : n ≤ 1000000) :
    Calls Try.prog 97 #[.pointer (some ⟨b, 0, none⟩), .int .i64 n] w (RetPts w B b zs n i) := by
  obtain ⟨i0, hi, hz0, hz1, hz2⟩ := info_parts Try.spinfo
  have HB := Lib.hid hB
  have hlt0 := h.lt
  have HF := Lib.hid (oflags_any n h hB hl hn)
  have hBB := fun t => fAll_bytes hB n ⟨[], i⟩ t (Nat.sub_le _ _) (fun x hx => by cases hx)
  have HBB := Lib.hid hBB
  clear hB hBB h
  go_enter Try.func97, Try.ntmps97
  go_wp2_with fail
  with_reducible refine HF.out.mono ?_
  rintro e w1 ⟨hg1, ⟨hno, rfl, hrd⟩ | ⟨s, FA, fc, hyes, rfl, hfl, hrd⟩⟩
  · have HNo := Lib.hid hno
    have HRd := Lib.hid hrd
    clear hno HF HBB hrd
    go_wp2
    go_ret2
    exact ⟨hg1, .inl ⟨(fun s hs => by rw [HNo.out] at hs; cases hs), rfl, HRd.out⟩⟩
  · have HY := Lib.hid hyes
    have hsb := HBB.out s hyes
    have hlen := hfl.len
    have HPk : Hid (∀ b1 b2, pkOk zs 2 16 s.fl s.at_ n = b1 → pkOk zs 4 32 s.fl (oXe zs s) n = b2 → oPk zs s = (b1 && b2)) := fun b1 b2 h1 h2 => by unfold oPk; rw [hlen, h1, h2]
    have HXe : Hid (oXe zs s = (pkAt zs 2 16 s.fl s.at_ n).1) := by show _ = _; unfold oXe; rw [hlen]
    have HEn : Hid (oEnd zs s = (pkAt zs 4 32 s.fl (oXe zs s) n).1) := by show _ = _; unfold oEnd; rw [hlen]
    have hs1 := hg1.size
    have HX := Lib.hid (oplaces_any 2 16 (fun f a b => and2 a b) (fun f a b => and16 a b) FA n fc s.fl hrd HB.out hl hfl.row hsb hn (fun _ e => by have := (hfl.from_ b e).1; omega))
    have Hsb := Lib.hid hsb
    have Hlen := Lib.hid hlen
    clear hyes HF HBB hrd hsb hlen
    go_wp2_with fail
    with_reducible refine HX.out.mono ?_
    rintro e w2 ⟨hg2, ⟨hno, rfl, j, hrd⟩ | ⟨hxk, gx, rfl, hxs, hrd⟩⟩
    · have hfl2 := hfl.grown hg2 (fun g e he => by have := (hfl.from_ g e).1; cases he; omega)
      have hs2 := hg2.size
      have HY2 := Lib.hid (oplaces_any 4 32 (fun f a b => and4 a b) (fun f a b => and32 a b) FA n fc s.fl hrd HB.out hl hfl2.row Hsb.out hn (fun _ e => by have := (hfl2.from_ b e).1; omega))
      have HNo : Hid (∀ t, fAll zs n ⟨[], i⟩ = some t → oPk zs t = false) := fun t ht => by
        rw [HY.out] at ht
        cases ht
        rw [HPk.out _ _ hno rfl]
        rfl
      clear hno HX hfl hfl2 hrd HPk
      go_wp2_with fail
      with_reducible refine HY2.out.mono ?_
      rintro e w3 ⟨hg3, ⟨hno, rfl, j, hrd⟩ | ⟨hyk, gy, rfl, hys, hrd⟩⟩
      · have HRd := Lib.hid hrd
        have HG := Lib.hid (grown_trans (grown_trans hg1 hg2) hg3)
        clear hno HY2 hrd hg1 hg2 hg3
        go_wp2
        go_ret2
        exact ⟨HG.out, .inl ⟨HNo.out, rfl, _, HRd.out⟩⟩
      · have HRd := Lib.hid hrd
        have HG := Lib.hid (grown_trans (grown_trans hg1 hg2) hg3)
        clear hyk hys HY2 hrd hg1 hg2 hg3
        go_wp2
        go_ret2
        exact ⟨HG.out, .inl ⟨HNo.out, rfl, _, HRd.out⟩⟩
    · rw [← HXe.out] at hrd
      have hfl2 := hfl.grown hg2 (fun g e he => by have := (hfl.from_ g e).1; cases he; omega)
      have hs2 := hg2.size
      have HY2 := Lib.hid (oplaces_any 4 32 (fun f a b => and4 a b) (fun f a b => and32 a b) FA n fc s.fl hrd HB.out hl hfl2.row Hsb.out hn (fun _ e => by have := (hfl2.from_ b e).1; omega))
      have Hxk := Lib.hid hxk
      clear HX hfl hrd hxk
      go_wp2_with fail
      with_reducible refine HY2.out.mono ?_
      rintro e w3 ⟨hg3, ⟨hno, rfl, j, hrd⟩ | ⟨hyk, gy, rfl, hys, hrd⟩⟩
      · have HNo : Hid (∀ t, fAll zs n ⟨[], i⟩ = some t → oPk zs t = false) := fun t ht => by
          rw [HY.out] at ht
          cases ht
          rw [HPk.out _ _ Hxk.out hno]
          rfl
        have HRd := Lib.hid hrd
        have HG := Lib.hid (grown_trans (grown_trans hg1 hg2) hg3)
        clear hno HY2 hrd hg1 hg2 hg3 hxs hfl2
        go_wp2
        go_ret2
        exact ⟨HG.out, .inl ⟨HNo.out, rfl, _, HRd.out⟩⟩
      · rw [← HEn.out] at hrd
        have HOk : Hid (oPk zs s = true) := by show _ = _; rw [HPk.out _ _ Hxk.out hyk]; rfl
        have hfl3 := hfl2.grown hg3 (fun g e he => by have := (hfl2.from_ g e).1; cases he; omega)
        have hxs3 := (hxs.grown hg3 (fun g e he => by have := (hxs.from_ g e).1; cases he; omega)).mono (B' := w.heap.size) (by omega)
        have hys3 := hys.mono (B' := w.heap.size) (by omega)
        have hs3 := hg3.size
        have HG := grown_trans (grown_trans hg1 hg2) hg3
        clear hyk HY2 hg1 hg2 hg3 hxs hys hfl2
        go_wp2_with (at_make; refine wpList_make_S rfl (.tmp 41) (.tmp 41) _ rfl 60 encSp 3 encSp_len (by omega) w.heap.size i0 _ (0, 0, false) 6 Try.underlying24 hi hz0 hz1 rfl hz2 _ _ n rfl rfl rfl rfl (by omega) (by omega) (by omega) ?_; intro w4 hown4 hg4)
        have hb4 := below_of_grown hg4 (Nat.le_refl _) (fun k e => by cases e)
        have hs : LY w w4 B b zs (oEnd zs s) n FA fc s.fl gx (pkVs zs 2 16 s.fl s.at_ n) gy (pkVs zs 4 32 s.fl (oXe zs s) n) w3.heap.size (oPs zs s 0 ++ List.replicate (n - 0) (0, 0, false)) :=
          ⟨hrd.below hb4, grown_trans HG (grown_of_below hb4 _), hfl3.below hb4, hxs3.below hb4, hys3.below hb4, hown4, by omega⟩
        clear hrd hb4 HG hfl3 hxs3 hys3 hown4 hg4 hi hz0 hz1 hz2 hs1 hs2 hs3
        generalize w3.heap.size = gp at *
        go_loopw [45] (fun i' wr => ∃ k : Nat, k ≤ n ∧ i' = .int .i64 k ∧ LY w wr B b zs (oEnd zs s) n FA fc s.fl gx (pkVs zs 2 16 s.fl s.at_ n) gy (pkVs zs 4 32 s.fl (oXe zs s) n) gp (oPs zs s k ++ List.replicate (n - k) (0, 0, false))) (fun i' _ => n - (intOf i').toNat)
        case atStart => exact ⟨0, Nat.zero_le _, rfl, hs⟩
        case round =>
          clear hs
          obtain ⟨k, hk, rfl, hs⟩ := hrel
          by_cases hlt : k < n
          · obtain ⟨f, hf⟩ := get_some (zs := s.fl) (k := k) (by have := Hlen.out; omega)
            obtain ⟨f0, f1⟩ := Hsb.out f (List.mem_of_getElem? hf)
            have hfd : s.fl.getD k 0 = f := by simp [hf]
            have HST := Lib.hid (oPs_set zs s k n hlt)
            rw [hfd] at HST
            obtain ⟨g, off, eFA, hg, hc⟩ := hs.fl.row.at (cellsOf_get (k := .u8) hf)
            obtain ⟨gx', ox, eX, _, hqx⟩ := hs.xs.row.at (cellsOf_get (k := .i16) (pkVs_get zs 2 16 s.fl s.at_ hlt))
            obtain ⟨gy', oy, eY, _, hqy⟩ := hs.ys.row.at (cellsOf_get (k := .i16) (pkVs_get zs 4 32 s.fl (oXe zs s) hlt))
            simp only [Option.some.injEq, Addr.mk.injEq, and_true] at eX eY
            obtain ⟨rfl, rfl⟩ := eX
            obtain ⟨rfl, rfl⟩ := eY
            rw [Nat.zero_add] at hqx hqy
            obtain ⟨z, hz⟩ : ∃ z, (oPs zs s k ++ List.replicate (n - k) ((0, 0, false) : Sp))[k]? = some z := ⟨_, List.getElem?_eq_getElem (by simp [oPs_len]; omega)⟩
            obtain ⟨gg, off', e', _, r0, r1, r2⟩ := atSp (hs.ps.row encSp_len) hz
            simp only [Option.some.injEq, Addr.mk.injEq, and_true] at e'
            obtain ⟨rfl, rfl⟩ := e'
            rw [Nat.zero_add] at r0 r1 r2
            have fz := hs.ps.thaw
            have e1 := and1 f0 f1
            have hs4 := (hs.drew.set k hlt ((pkAt zs 2 16 s.fl s.at_ (k + 1)).2, (pkAt zs 4 32 s.fl (oXe zs s) (k + 1)).2, fb f 1))
            rw [HST.out] at hs4
            have H4 := Lib.hid hs4
            unfold encSp setCells setCells setCells setCells at H4
            subst eFA
            clear hs4 hs hf hfd hz HST
            generalize (pkAt zs 2 16 s.fl s.at_ (k + 1)).2 = px at *
            generalize (pkAt zs 4 32 s.fl (oXe zs s) (k + 1)).2 = py at *
            generalize fb f 1 = po at *
            go_wp2_with fail
            go_region
            all_goals
              go_wp2
              go_roundw
              case rel => exact ⟨k + 1, by omega, by go_num, H4.out⟩
              case measure => simp [intOf]; omega
          · obtain rfl : k = n := by omega
            have hp := hs.ps
            rw [Nat.sub_self, List.replicate_zero, List.append_nil] at hp
            go_wp2
            go_ret2
            exact ⟨hs.gr, .inr ⟨s, _, k, HY.out, HOk.out, rfl, hp, hs.rd⟩⟩

end Go.Proofs.Ytlcnonhebppeiaa
