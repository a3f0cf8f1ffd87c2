/- What the document's Build of a font answers, as a contract over this seat's translation. -/
import Derived.Test.YtlkidnacfljpkaaSOwn
import Derived.Test.YtlkidnacfljpkaaRSame
import Derived.Lib.ConvBytes
import Derived.Deep.DeepCutAuto
namespace Go.Proofs.Ytlkidnacfljpkaa
open Go.RowKit
set_option linter.unusedVariables false

/-- Slices of bytes that were gathered, above a world. -/
structure G9 (V W : World) (rows : List (Option Addr × Nat × List Int)) : Prop where
  got : ∀ p ∈ rows, Row W p.1 p.2.1 (cellsOf .u8 p.2.2)
  bel : Below V.heap.size V W
section
variable {V W W' : World} {rows : List (Option Addr × Nat × List Int)} {A : Option Addr} {n c B : Nat} {ys : List Int}
theorem G9.start (V : World) : G9 V V [] := ⟨(fun p hp => by cases hp), Below.refl _ _⟩
theorem G9.put (h : G9 V W rows) (hr : Row W A n (cellsOf .u8 ys)) : G9 V W (rows ++ [(A, n, ys)]) := ⟨fun p hp => by
  rcases List.mem_append.1 hp with hp | hp
  · exact h.got p hp
  · simp only [List.mem_cons, List.not_mem_nil, or_false] at hp
    subst hp
    exact hr, h.bel⟩
theorem G9.drew (h : G9 V W rows) : G9 V W.drew rows := ⟨fun p hp => (h.got p hp).drew, h.bel.drew⟩
theorem G9.sum (h : G9 V W rows) (hb : Below W.heap.size W W') : G9 V W' rows := ⟨fun p hp => (h.got p hp).below hb, h.bel.trans (hb.mono h.bel.size)⟩
theorem G9.call (h : G9 V W rows) (hb : Below W.heap.size W W') (ho : OwnB W' B A n c ys) : G9 V W' (rows ++ [(A, n, ys)]) := (h.sum hb).put ho.row
theorem G9.conv (h : G9 V W rows) (tag : ByteArray) : G9 V (Lib.bytesWorld W 5 tag) (rows ++ [(some ⟨W.heap.size, 0, none⟩, tag.size, tagN tag.toList)]) := (h.sum (bytes_below _ _)).put (bytes_row W tag)
theorem G9.front (h : G9 V W rows) (hm : (A, n, ys) ∈ rows) {k : Nat} (hk : k ≤ n) : Row W A k (cellsOf .u8 (ys.take k)) := by
  have := (h.got _ hm).take hk
  rwa [cellsOf_take] at this
theorem G9.back (h : G9 V W rows) (hm : (A, n, ys) ∈ rows) {k m : Nat} {D : Option Addr} (hk : k ≤ n) (hmk : m = n - k) (hD : 0 < m → D = A.map (·.add k)) : Row W D m (cellsOf .u8 (ys.drop k)) := by
  subst hmk
  have hl := (h.got _ hm).len
  rcases Nat.eq_zero_or_pos (n - k) with h0 | h0
  · rw [h0, List.drop_of_length_le (show ys.length ≤ k by show _ ≤ _; have : ys.length = n := hl; omega)]
    exact Row.empty _ _
  · have := (h.got _ hm).drop k
    rw [cellsOf_drop] at this
    rw [hD h0]
    exact this
theorem G9.row (h : G9 V W rows) (hm : (A, n, ys) ∈ rows) : Row W A n (cellsOf .u8 ys) := h.got _ hm
end

/-- Five slices of bytes written out, to be joined. -/
theorem join5_any (W : World) (b : Nat) {A1 A2 A3 A4 A5 : Option Addr} {n1 n2 n3 n4 n5 c1 c2 c3 c4 c5 : Nat} {x1 x2 x3 x4 x5 : List Int} (hb : b = W.heap.size) (h1 : Row W A1 n1 (cellsOf .u8 x1)) (h2 : Row W A2 n2 (cellsOf .u8 x2)) (h3 : Row W A3 n3 (cellsOf .u8 x3)) (h4 : Row W A4 n4 (cellsOf .u8 x4)) (h5 : Row W A5 n5 (cellsOf .u8 x5)) (hl : (x1 ++ (x2 ++ (x3 ++ (x4 ++ x5)))).length ≤ 140737488351232) :
    Calls Try.prog 17 #[.slice (some ⟨b, 0, none⟩) 5 5] (W.alloc (.cells #[.slice A1 n1 c1, .slice A2 n2 c2, .slice A3 n3 c3, .slice A4 n4 c4, .slice A5 n5 c5] 27)) (RetB W (x1 ++ (x2 ++ (x3 ++ (x4 ++ x5))))) := by
  have := joinN_any W b [⟨A1, n1, c1, x1⟩, ⟨A2, n2, c2, x2⟩, ⟨A3, n3, c3, x3⟩, ⟨A4, n4, c4, x4⟩, ⟨A5, n5, c5, x5⟩] 5 _ rfl hb rfl (fun p hp => by
    simp only [List.mem_cons, List.not_mem_nil, or_false] at hp
    rcases hp with rfl | rfl | rfl | rfl | rfl
    · exact h1
    · exact h2
    · exact h3
    · exact h4
    · exact h5) (by omega) (by simpa [joined] using hl)
  simpa [joined, BsV.val] using this
theorem join3_any (W : World) (b : Nat) {A1 A2 A3 : Option Addr} {n1 n2 n3 c1 c2 c3 : Nat} {x1 x2 x3 : List Int} (hb : b = W.heap.size) (h1 : Row W A1 n1 (cellsOf .u8 x1)) (h2 : Row W A2 n2 (cellsOf .u8 x2)) (h3 : Row W A3 n3 (cellsOf .u8 x3)) (hl : (x1 ++ (x2 ++ x3)).length ≤ 140737488351232) :
    Calls Try.prog 17 #[.slice (some ⟨b, 0, none⟩) 3 3] (W.alloc (.cells #[.slice A1 n1 c1, .slice A2 n2 c2, .slice A3 n3 c3] 27)) (RetB W (x1 ++ (x2 ++ x3))) := by
  have := joinN_any W b [⟨A1, n1, c1, x1⟩, ⟨A2, n2, c2, x2⟩, ⟨A3, n3, c3, x3⟩] 3 _ rfl hb rfl (fun p hp => by
    simp only [List.mem_cons, List.not_mem_nil, or_false] at hp
    rcases hp with rfl | rfl | rfl
    · exact h1
    · exact h2
    · exact h3) (by omega) (by simpa [joined] using hl)
  simpa [joined, BsV.val] using this
theorem joinTwoB (W : World) (b : Nat) {A1 A2 : Option Addr} {n1 n2 c1 c2 : Nat} {x1 x2 : List Int} (hb : b = W.heap.size) (h1 : Row W A1 n1 (cellsOf .u8 x1)) (h2 : Row W A2 n2 (cellsOf .u8 x2)) (hl : (x1 ++ x2).length ≤ 140737488351232) :
    Calls Try.prog 17 #[.slice (some ⟨b, 0, none⟩) 2 2] (W.alloc (.cells #[.slice A1 n1 c1, .slice A2 n2 c2] 27)) (RetB W (x1 ++ x2)) := by
  have := joinN_any W b [⟨A1, n1, c1, x1⟩, ⟨A2, n2, c2, x2⟩] 2 _ rfl hb rfl (fun p hp => by
    simp only [List.mem_cons, List.not_mem_nil, or_false] at hp
    rcases hp with rfl | rfl
    · exact h1
    · exact h2) (by omega) (by simpa [joined] using hl)
  simpa [joined, BsV.val] using this

/-- A slice's length. -/
def lenV : Value → Nat
  | .slice _ n _ => n
  | _ => 0

/-- What stands in Build's loops: the directory and the data so far. -/
structure RB (w W : World) (A6 : Option Addr) (n6 c6 : Nat) (out : List Int) (A8 : Option Addr) (n8 c8 : Nat) (data : List Int) : Prop where
  o6 : OwnB W w.heap.size A6 n6 c6 out
  o8 : OwnB W w.heap.size A8 n8 c8 data
  bel : Below w.heap.size w W
theorem RB.below {w W W' : World} {A6 A8 : Option Addr} {n6 c6 n8 c8 : Nat} {out data : List Int} (h : RB w W A6 n6 c6 out A8 n8 c8 data) (hb : Below W.heap.size W W') : RB w W' A6 n6 c6 out A8 n8 c8 data :=
  ⟨h.o6.below hb, h.o8.below hb, h.bel.trans (hb.mono h.bel.size)⟩

/-- The first head is what makes the font whole, if it is long enough. -/
theorem adj_find : ∀ (L : List Tab), riseT L → (findIx headL L = none ∧ adjIx (L.map Tab.pure) = none) ∨ ∃ i t, findIx headL L = some i ∧ L[i]? = some t ∧ ((t.zs.length < 12 ∧ adjIx (L.map Tab.pure) = none) ∨ (12 ≤ t.zs.length ∧ adjIx (L.map Tab.pure) = some i))
  | [], _ => .inl ⟨rfl, rfl⟩
  | t :: r, h => by
    have hr := List.pairwise_cons.1 h
    have ih := adj_find r hr.2
    rw [List.map_cons]
    by_cases ht : t.tag.toList = headL
    · refine .inr ⟨0, t, by unfold findIx; rw [if_pos ht], rfl, ?_⟩
      have hno : adjIx (r.map Tab.pure) = none := by
        rcases ih with ⟨_, h2⟩ | ⟨i, s, h1, h2, _⟩
        · exact h2
        · obtain ⟨s', h3, h4⟩ := findIx_some _ _ _ h1
          have h5 := hr.1 s' (List.mem_of_getElem? h3)
          rw [ht, h4, cb_self] at h5
          omega
      by_cases hl : 12 ≤ t.zs.length
      · exact .inr ⟨hl, adjIx_pos (by unfold adjB; simp [Tab.pure, ht, hl])⟩
      · refine .inl ⟨by omega, ?_⟩
        rw [adjIx_neg (by unfold adjB; simp [Tab.pure, hl]), hno]
        rfl
    · have hb : ¬ adjB t.pure.1 t.pure.2 = true := by unfold adjB; simp [Tab.pure, ht]
      have hf : findIx headL (t :: r) = (findIx headL r).map (· + 1) := by
        conv => lhs; unfold findIx
        rw [if_neg ht]
      rw [adjIx_neg hb, hf]
      rcases ih with ⟨h1, h2⟩ | ⟨i, s, h1, h2, h3⟩
      · exact .inl ⟨by rw [h1]; rfl, by rw [h2]; rfl⟩
      · refine .inr ⟨i + 1, s, by rw [h1]; rfl, by simpa using h2, ?_⟩
        rcases h3 with ⟨h4, h5⟩ | ⟨h4, h5⟩
        · exact .inl ⟨h4, by rw [h5]; rfl⟩
        · exact .inr ⟨h4, by rw [h5]; rfl⟩

theorem placeT_next' (l : List T) (i : Nat) (t : T) (h : l[i]? = some t) : placeT l (i + 1) = placeT l i + padN t.2.length := by
  unfold placeT placeL
  rw [List.take_add_one, h]
  simp

theorem write_font {l : List T} (h : FineT l) : writeL l = fontL 0 l := by
  rcases adj_split l with ⟨h1, h2⟩ | ⟨a, t, b, hl, h1, h2, h3⟩
  · unfold writeL fontL
    rw [show dataL l = bodyL (fun t => stillL t.1 t.2) l from rfl, body_congr (fun s hs => still_no (h1 s hs) 0)]
    rfl
  · obtain ⟨P, R, hp, hw, hf⟩ := font_split h hl h1 h2
    rw [hf, hw]
    rfl

set_option maxRecDepth 100000 in
set_option maxHeartbeats 4000000 in
theorem rbuild_any (A : Option Addr) (n c : Nat) (L : List Tab) (w : World) (hr : RowS encT 2 w A n L) (hok : ∀ t ∈ L, t.ok w ∧ t.n ≤ t.c) (hL : FineL L) (h1 : 1 ≤ n) :
    Calls Try.prog 11 #[.slice A n c] w (RetB w (fontOf L)) := by
  have Hn := Lib.hid hr.len
  have HO := Lib.hid hok
  have HL := Lib.hid hL
  have hn9 : n ≤ 9 := by have := hL.few; have := hr.len; omega
  have HF := Lib.hid (hL.fine (by have := hr.len; omega))
  have HPn : Hid ((L.map Tab.pure).length = n) := by show _ = _; rw [List.length_map]; exact Hn.out
  have HFo : Hid (fontOf L = buildL (L.map Tab.pure)) := by show _ = _; rw [fontOf_some (by have := Hn.out; omega), build_font HF.out]
  have HPl : Hid (placeT (L.map Tab.pure) (L.map Tab.pure).length ≤ 696) := by
    have h := hL.len
    rw [fontOf_some (by have := hr.len; omega), fontL_len HF.out] at h
    exact h
  obtain ⟨s0, s1, s2, s3, s4, s5, s6⟩ := sr_le n h1 (by omega)
  clear hok hL
  go_enter Try.func11, Try.ntmps11
  go_wp2_with fail
  refine (rsearch_any n _ h1 (by omega)).mono ?_
  rintro e w' ⟨rfl, rfl⟩
  go_wp2_with fail
  refine (b4_any 65536 _ (by omega) (by omega)).mono ?_
  rintro e w1 ⟨A1, n1, c1, rfl, o1, hb1⟩
  have hg1 := (G9.start w).call hb1 o1
  clear o1 hb1
  go_wp2_with fail
  refine (b2_any (n : Int) _ (by omega) (by omega)).mono ?_
  rintro e w2 ⟨A2, n2, c2, rfl, o2, hb2⟩
  have hg2 := hg1.call hb2 o2
  clear o2 hb2 hg1
  go_wp2_with fail
  refine (b2_any (sr1 n) _ (by omega) (by omega)).mono ?_
  rintro e w3 ⟨A3, n3, c3, rfl, o3, hb3⟩
  have hg3 := hg2.call hb3 o3
  clear o3 hb3 hg2
  go_wp2_with fail
  refine (b2_any (sr2 n) _ (by omega) (by omega)).mono ?_
  rintro e w4 ⟨A4, n4, c4, rfl, o4, hb4⟩
  have hg4 := hg3.call hb4 o4
  clear o4 hb4 hg3
  go_wp2_with fail
  refine (b2_any (sr3 n) _ (by omega) (by omega)).mono ?_
  rintro e w5 ⟨A5, n5, c5, rfl, o5, hb5⟩
  have hg5 := hg4.call hb5 o5
  have hbel5 := hg5.bel
  have hs5 := hbel5.size
  clear o5 hb5 hg4
  go_wp2_with fail
  refine (join5_any w5 _ rfl (hg5.row (ys := b4 65536) (by simp)) (hg5.row (ys := b2 (n : Int)) (by simp)) (hg5.row (ys := b2 (sr1 n)) (by simp)) (hg5.row (ys := b2 (sr2 n)) (by simp)) (hg5.row (ys := b2 (sr3 n)) (by simp)) (by simp [b4, b2])).mono ?_
  rintro e w6 ⟨A6, n6, c6, rfl, o6, hb6⟩
  have ho6 : OwnB w6 w.heap.size A6 n6 c6 (hdrL n ++ entsL (L.map Tab.pure) 0) := by
    have := o6.mono hs5
    unfold hdrL entsL
    simpa [List.append_assoc] using this
  have hst : RB w w6 A6 n6 c6 (hdrL n ++ entsL (L.map Tab.pure) 0) none 0 0 (dataL ((L.map Tab.pure).take 0)) := ⟨ho6, Own.nil _ _ _ _, hbel5.trans (hb6.mono hs5)⟩
  have HST := Lib.hid hst
  have hp0 : (12 + 16 * (n : Int)) = ((placeT (L.map Tab.pure) 0 : Nat) : Int) := by
    show _ = ((12 + 16 * (L.map Tab.pure).length : Nat) : Int)
    rw [HPn.out]
    omega
  have HP0 := Lib.hid hp0
  clear o6 hb6 ho6 hst hg5 hbel5 hs5 hp0
  go_wp2
  go_loopw [6, 7, 8, 41] (fun o a d i wr => ∃ (k pl : Nat) (A6 : Option Addr) (n6 c6 : Nat) (A8 : Option Addr) (n8 c8 : Nat), k ≤ n ∧ o = .slice A6 n6 c6 ∧ a = .int .i64 pl ∧ d = .slice A8 n8 c8 ∧ i = .int .i64 k ∧ Hid (pl = placeT (L.map Tab.pure) k) ∧ RB w wr A6 n6 c6 (hdrL n ++ entsL (L.map Tab.pure) k) A8 n8 c8 (dataL ((L.map Tab.pure).take k))) (fun _ _ _ i _ => n - (intOf i).toNat)
  case atStart => exact ⟨0, _, A6, n6, c6, none, 0, 0, Nat.zero_le _, rfl, by rw [HP0.out], rfl, rfl, Lib.hid rfl, HST.out⟩
  case round =>
    clear HST HP0
    obtain ⟨k, pl, A6, n6, c6, A8, n8, c8, hk, rfl, rfl, rfl, rfl, Hpl, hB⟩ := hrel
    by_cases hlt : k < n
    · obtain ⟨t, ht⟩ : ∃ t, L[k]? = some t := ⟨_, List.getElem?_eq_getElem (by have := Hn.out; omega)⟩
      obtain ⟨g, off, rfl, hg, hcl⟩ := (hr.below hB.bel).at encT_len (by omega) ht
      have q0 : wr.cell? ⟨g, off + k * 2, none⟩ = some (.string t.tag) := hcl 0 _ rfl
      have q1 : wr.cell? ⟨g, off + k * 2 + 1, none⟩ = some (.slice t.A t.n t.c) := hcl 1 _ rfl
      have hto := HO.out t (List.mem_of_getElem? ht)
      have hA := (Below.refl wr.heap.size wr).alloc (Nat.le_refl _) (.cells #[.string t.tag, .slice t.A t.n t.c] 36)
      have hk0 := heap_alloc_new wr (.cells #[.string t.tag, .slice t.A t.n t.c] 36)
      have HTO := Lib.hid (hto.1.below (hB.bel.trans (hA.mono hB.bel.size)))
      have htp : (L.map Tab.pure)[k]? = some t.pure := by rw [List.getElem?_map, ht]; rfl
      have hnx := placeT_next _ _ _ htp
      have hnx1 := placeT_next' _ _ _ htp
      have HE : Hid (hdrL n ++ entsL (L.map Tab.pure) (k + 1) = (hdrL n ++ entsL (L.map Tab.pure) k) ++ (tagN t.tag.toList ++ (b4 (sumL t.tag.toList t.zs) ++ (b4 (pl : Int) ++ b4 (t.n : Int))))) := by
        show _ = _
        have hgd : (L.map Tab.pure).getD k default = t.pure := by rw [List.getD_eq_getElem?_getD, htp]; rfl
        rw [entsL_succ]
        unfold entL
        rw [hgd, ← Hpl.out, show t.pure.2.length = t.n from hto.1.len]
        simp only [List.append_assoc]
        rfl
      have HD : Hid (dataL ((L.map Tab.pure).take (k + 1)) = dataL ((L.map Tab.pure).take k) ++ pad (stillL t.tag.toList t.zs)) := dataL_snoc _ k _ htp
      have HN1 : Hid (pl + padN t.n = placeT (L.map Tab.pure) (k + 1)) := by show _ = _; rw [Hpl.out, hnx1]; rw [show t.pure.2.length = t.n from hto.1.len]
      have hpl : pl + padN t.n ≤ 696 := by have := HPl.out; rw [show t.pure.2.length = t.n from hto.1.len, ← Hpl.out] at hnx; omega
      have htf := HL.out.tab t (List.mem_of_getElem? ht)
      have HSB : Hid (Bytes (stillL t.tag.toList t.zs)) := Lib.hid (stillL_bytes htf.2.2.1)
      have HSl : Hid ((stillL t.tag.toList t.zs).length = t.n) := by show _ = _; rw [stillL_len]; exact hto.1.len
      have htc := hto.2
      have ht60 : t.n ≤ 60 := htf.2.1
      have HT4 : Hid (t.tag.size = 4) := htf.1
      have HBB := Lib.hid (hB.below hA)
      have hsu : 0 ≤ sumL t.tag.toList t.zs ∧ sumL t.tag.toList t.zs < 4294967296 := by unfold sumL; omega
      obtain ⟨su0, su1⟩ := hsu
      have HSu : Hid (rs (stillL t.tag.toList t.zs) % 4294967296 = sumL t.tag.toList t.zs) := rfl
      clear hcl ht hto hA htp hnx hnx1 htf hB
      obtain ⟨tag, tA, tn, tc, zs⟩ := t
      simp only at q0 q1 hk0 HTO HE HD HN1 hpl HSB HSl htc ht60 HT4 HBB HSu su0 su1
      have HZ : Hid (∀ W, Tab.ok W ⟨tag, tA, tn, tc, zs⟩ → Calls Try.prog 12 #[.agg #[.string tag, .slice tA tn tc]] W (RetB W (stillL tag.toList zs))) := fun W h => rzeroed_any ⟨tag, tA, tn, tc, zs⟩ W h htc
      generalize stillL tag.toList zs = S at *
      generalize sumL tag.toList zs = su at *
      have hcv := fun W : World => Lib.run_convert_string_bytes (P := Try.prog) W 9 27 5 tag (u := .string) Try.underlying9 Try.underlying27 Try.underlying5
      go_wp2_with fail
      generalize wr.alloc (.cells #[.string tag, .slice tA tn tc] 36) = V at *
      with_reducible refine (HZ.out V HTO.out).mono ?_
      rintro e w7 ⟨Ap, np, cp, rfl, op, hb7⟩
      have hpn : np = tn := by have := op.len; rw [HSl.out] at this; exact this.symm
      subst hpn
      have hV : wr.heap.size < V.heap.size := lt_of_block hk0
      have hk7 := (hb7.block _ hV).trans hk0
      have HC : Hid (∀ W, Below w7.heap.size w7 W → W.cell? ⟨wr.heap.size, 0, none⟩ = some (.string tag)) := Lib.hid fun W hW => cell_of_row W _ 0 _ _ _ ((hW.block _ (lt_of_block hk7)).trans hk7)
      have HB7 := Lib.hid (HBB.out.below hb7)
      have HP : Hid (∀ W, Below w7.heap.size w7 W → Row W Ap np (cellsOf .u8 S)) := Lib.hid fun W hW => op.row.below hW
      have Hop := Lib.hid (op.mono (Nat.zero_le _))
      have HopB : Hid (OwnB w7 w.heap.size Ap np cp S) := Lib.hid (op.mono HBB.out.bel.size)
      have hg : G9 w7 w7.drew [(A6, n6, hdrL n ++ entsL (L.map Tab.pure) k)] := ((G9.start w7).put HB7.out.o6.row).drew
      have F1 : IntKind.u32.wrap (pl : Int) = (pl : Int) := IntWalk.u32_in _ (by omega)
      have F2 : IntKind.u32.wrap (np : Int) = (np : Int) := IntWalk.u32_in _ (by omega)
      have Hjl : Hid ((hdrL n ++ entsL (L.map Tab.pure) k).length ≤ 100000) := by
        show _ ≤ _
        have := entsL_len (L.map Tab.pure) HF.out.tag k (by rw [HPn.out]; omega)
        rw [List.length_append, hdrL_len]
        omega
      have HJn : Hid (((hdrL n ++ entsL (L.map Tab.pure) k) ++ (tagN tag.toList ++ (b4 su ++ (b4 (pl : Int) ++ b4 (np : Int))))).length ≤ 140737488351232) := by
        show _ ≤ _
        have h1 := Hjl.out
        have h2 := HT4.out
        simp only [List.length_append, tagN_len, size_toList, b4_len] at h1 ⊢
        omega
      clear op hb7 hk0 hk7 HTO HZ HBB
      go_upto_region 9 with fail
      go_cut [6, 41] from 41 to 79 (fun o i wx => ∃ (A : Option Addr) (m d : Nat), o = .slice A m d ∧ i = .int .i64 k ∧ OwnB wx w7.heap.size A m d (hdrL n ++ entsL (L.map Tab.pure) (k + 1)) ∧ Below w7.heap.size w7 wx)
      case first =>
        go_region_held (fun w' => w'.cell? ⟨wr.heap.size, 0, none⟩ = some (.string tag))
          (first | exact HC.out _ hg.bel | exact HC.out _ (hg.conv tag).bel | exact HC.out _ (hg.bel.alloc hg.bel.size _) | exact HC.out _ ((hg.conv tag).bel.alloc (hg.conv tag).bel.size _) | exact HC.out _ HJ.out)
          (first
            | (go_at_call 42; (first | (with_reducible refine (refSum_any Ap np cp S _ (HP.out _ hg.bel) HSB.out (by omega)).mono ?_) | (with_reducible refine (refSum_any Ap np cp S _ (HP.out _ (hg.conv tag).bel) HSB.out (by omega)).mono ?_)); rintro e w8 ⟨rfl, hb8⟩; rw [HSu.out]; (first | replace hg := hg.sum hb8 | replace hg := (hg.conv tag).sum hb8); clear hb8)
            | (go_at_call 40; refine (b4_any _ _ (by omega) (by omega)).mono ?_; rintro e w8 ⟨A8', n8', c8', rfl, o8, hb8⟩; (first | replace hg := hg.call hb8 o8 | replace hg := (hg.conv tag).call hb8 o8); clear hb8 o8)
            | (go_at_call 17; (first | (with_reducible refine (join5_any _ _ (x1 := hdrL n ++ entsL (L.map Tab.pure) k) (x2 := tagN tag.toList) (x3 := b4 su) (x4 := b4 (pl : Int)) (x5 := b4 (np : Int)) rfl (hg.row ?_) (hg.row ?_) (hg.row ?_) (hg.row ?_) (hg.row ?_) HJn.out).mono ?_) | (replace hg := hg.conv tag; with_reducible refine (join5_any _ _ (x1 := hdrL n ++ entsL (L.map Tab.pure) k) (x2 := tagN tag.toList) (x3 := b4 su) (x4 := b4 (pl : Int)) (x5 := b4 (np : Int)) rfl (hg.row ?_) (hg.row ?_) (hg.row ?_) (hg.row ?_) (hg.row ?_) HJn.out).mono ?_)); (iterate 5 (focus (simp; done))); rintro e w9 ⟨A9, n9, c9, rfl, o9, hb9⟩; have hJ : OwnB w9 w7.heap.size A9 n9 c9 (hdrL n ++ entsL (L.map Tab.pure) (k + 1)) ∧ Below w7.heap.size w7 w9 := ⟨by rw [HE.out]; exact o9.mono hg.bel.size, hg.bel.trans (hb9.mono hg.bel.size)⟩; have HJ := Lib.hid hJ.2; have HJ1 := Lib.hid hJ.1; clear o9 hb9 hJ))
        all_goals go_wp2_with fail
        all_goals go_meet
        all_goals exact ⟨A9, n9, c9, rfl, rfl, HJ1.out, HJ.out⟩
      case rest =>
        obtain ⟨A9, m9, d9, rfl, rfl, o9, hb9⟩ := hcut
        have HR : Hid (RB w wc A9 m9 d9 (hdrL n ++ entsL (L.map Tab.pure) (k + 1)) A8 n8 c8 (dataL ((L.map Tab.pure).take k))) := Lib.hid ⟨o9.mono HB7.out.bel.size, HB7.out.o8.below hb9, HB7.out.bel.trans (hb9.mono HB7.out.bel.size)⟩
        have HQ : Hid (OwnB wc w.heap.size Ap np cp (S ++ List.replicate (np - np) 0)) := by show OwnB _ _ _ _ _ _; simpa using HopB.out.below hb9
        have HPd : Hid (pad S = S ++ List.replicate (padN np - np) 0) := by show _ = _; unfold pad; rw [HSl.out]
        have HPn2 : Hid (np ≤ padN np) := padN_ge np
        have hDl : (dataL ((L.map Tab.pure).take k)).length ≤ 100000 := by
          have h1 := dataL_take_le 60 (L.map Tab.pure) k (fun x hx => by obtain ⟨y, hy, rfl⟩ := List.mem_map.1 hx; have := HL.out.tab y hy; show y.zs.length ≤ 60; omega)
          omega
        have HDl := Lib.hid hDl
        clear o9 hb9 HB7 HopB Hop HP HC hg Hjl HJn HE HSu F1 F2 hcv q0 q1 hDl
        go_wp2
        go_loopw [11] (fun p wq => ∃ (mp : Nat) (Aq : Option Addr) (dq : Nat), p = .slice Aq mp dq ∧ np ≤ mp ∧ mp ≤ padN np ∧ OwnB wq w.heap.size Aq mp dq (S ++ List.replicate (mp - np) 0) ∧ RB w wq A9 m9 d9 (hdrL n ++ entsL (L.map Tab.pure) (k + 1)) A8 n8 c8 (dataL ((L.map Tab.pure).take k))) (fun p _ => padN np - lenV p)
        case atStart => exact ⟨np, Ap, cp, rfl, Nat.le_refl _, HPn2.out, HQ.out, HR.out⟩
        case round =>
          clear HQ HR
          obtain ⟨mp, Aq, dq, rfl, hm1, hm2, hoq, hB⟩ := hrel
          have hmp : mp ≤ 100 := by unfold padN at hm2; omega
          have hs9 := hB.bel.size
          by_cases hm : mp % 4 = 0
          · have Hmm : Hid (mp = padN np) := by show _ = _; unfold padN at hm2 ⊢; omega
            have hd0 : ¬ (0 : Int) < (mp : Int) % 4 := by omega
            have HPe : Hid (dataL ((L.map Tab.pure).take k) ++ (S ++ List.replicate (mp - np) 0) = dataL ((L.map Tab.pure).take (k + 1))) := by show _ = _; rw [HD.out, HPd.out, ← Hmm.out]
            have HPl1 : Hid (pl + mp = placeT (L.map Tab.pure) (k + 1)) := by show _ = _; rw [Hmm.out]; exact HN1.out
            have Hoq := Lib.hid hoq
            have HBq := Lib.hid hB
            clear hoq hB
            go_wp2_with fail
            refine (joinTwoB wr _ rfl HBq.out.o8.row Hoq.out.row (by have h1 := HDl.out; have h2 := HSl.out; simp only [List.length_append, List.length_replicate]; omega)).mono ?_
            rintro e w10 ⟨A10, n10, c10, rfl, o10, hb10⟩
            rw [HPe.out] at o10
            have HR2 : Hid (RB w w10 A9 m9 d9 (hdrL n ++ entsL (L.map Tab.pure) (k + 1)) A10 n10 c10 (dataL ((L.map Tab.pure).take (k + 1)))) := Lib.hid ⟨HBq.out.o6.below hb10, o10.mono hs9, HBq.out.bel.trans (hb10.mono hs9)⟩
            clear o10 hb10 HBq Hoq
            go_wp2
            go_roundw
            case rel => exact ⟨k + 1, pl + mp, A9, m9, d9, A10, n10, c10, by omega, rfl, by go_num, rfl, by go_num, HPl1, HR2.out⟩
            case measure => simp [intOf]; omega
          · have hd0 : (0 : Int) < (mp : Int) % 4 := by omega
            have hmm : mp + 1 ≤ padN np := by unfold padN at hm2 ⊢; omega
            have hA := (Below.refl wr.heap.size wr).alloc (Nat.le_refl _) (.cells #[.int .u8 0] 5)
            have HA := Lib.hid hA
            have Hoq := Lib.hid hoq
            have HBq := Lib.hid (hB.below hA)
            have HPe : Hid ((S ++ List.replicate (mp - np) 0) ++ [0] = S ++ List.replicate (mp + 1 - np) 0) := by
              show _ = _
              rw [show mp + 1 - np = (mp - np) + 1 by omega, List.replicate_succ', List.append_assoc]
            clear hoq hB hA
            go_wp2_with fail
            refine (joinTwoB (wr.alloc (.cells #[.int .u8 0] 5)) _ (by simp) (Hoq.out.below HA.out).row (row_one wr .u8 0 5) (by have h2 := HSl.out; simp only [List.length_append, List.length_replicate, List.length_cons, List.length_nil]; omega)).mono ?_
            rintro e w10 ⟨A10, n10, c10, rfl, o10, hb10⟩
            rw [HPe.out] at o10
            have hl10 : n10 = mp + 1 := by have h1 := o10.len; have h2 := HSl.out; simp only [List.length_append, List.length_replicate] at h1; omega
            subst hl10
            have HR2 := Lib.hid (HBq.out.below hb10)
            have HO2 := Lib.hid (o10.mono HBq.out.bel.size)
            clear o10 hb10 HBq Hoq HA
            go_wp2
            go_roundw
            case rel => exact ⟨mp + 1, A10, c10, rfl, by omega, by omega, HO2.out, HR2.out⟩
            case measure => simp [lenV]; omega
    · obtain rfl : k = n := by omega
      have Hw : Hid ((hdrL k ++ entsL (L.map Tab.pure) k) ++ dataL ((L.map Tab.pure).take k) = writeL (L.map Tab.pure)) := by
        show _ = _
        unfold writeL
        rw [HPn.out, List.take_of_length_le (by rw [HPn.out]; exact Nat.le_refl _)]
      have hwl : (writeL (L.map Tab.pure)).length ≤ 696 := by rw [writeL_len _ HF.out.tag]; exact HPl.out
      have HB0 := Lib.hid hB
      clear hB Hpl
      go_wp2_with fail
      refine (joinTwoB wr _ rfl HB0.out.o6.row HB0.out.o8.row (by rw [Hw.out]; omega)).mono ?_
      rintro e w7 ⟨A7, n7, c7, rfl, o7, hb7⟩
      rw [Hw.out] at o7
      have hl7 : n7 ≤ 696 := by have := o7.len; omega
      have HB7 := Lib.hid (HB0.out.bel.trans (hb7.mono HB0.out.bel.size))
      have HO7 := Lib.hid (o7.mono HB0.out.bel.size)
      clear o7 hb7 HB0
      go_wp2_with fail
      refine (rfind_any A k c L headS w7 (hr.below HB7.out) (by omega)).mono ?_
      rintro e w8 ⟨rfl, hb8⟩
      have HB8 := Lib.hid (HB7.out.trans (hb8.mono HB7.out.size))
      have HO8 := Lib.hid (HO7.out.below hb8)
      clear HB7 HO7 hb8
      obtain ⟨ki, hki⟩ : ∃ ki, ixI (findIx headS.toList L) = ki := ⟨_, rfl⟩
      rw [hki]
      rw [headS_list, show [104, 101, 97, 100] = headL from rfl] at hki
      have HKI := Lib.hid hki
      clear hki
      have HRet : Hid (∀ W, adjIx (L.map Tab.pure) = none → Below w8.heap.size w8 W → RetB w (fontOf L) (.returned (.slice A7 n7 c7)) W) := Lib.hid fun W h hb => ⟨A7, n7, c7, rfl, by rw [HFo.out]; unfold buildL; rw [h]; exact HO8.out.below hb, HB8.out.trans (hb.mono HB8.out.size)⟩
      rcases adj_find L HL.out.rise with ⟨h2, h3⟩ | ⟨i, t, h2, ht, h3⟩
      · obtain rfl : -1 = ki := by rw [← HKI.out, h2]; rfl
        have H3 := Lib.hid h3
        clear h2 h3 HKI
        go_wp2
        go_ret
        exact HRet.out _ H3.out (Below.refl _ _)
      · obtain rfl : (i : Int) = ki := by rw [← HKI.out, h2]; rfl
        have him : i < k := by have := (List.getElem?_eq_some_iff.1 ht).1; have := Hn.out; omega
        obtain ⟨g, off, rfl, hg, hcl⟩ := (hr.below HB8.out).at encT_len (by omega) ht
        have q1 : w8.cell? ⟨g, off + i * 2 + 1, none⟩ = some (.slice t.A t.n t.c) := hcl 1 _ rfl
        have htl := (HO.out t (List.mem_of_getElem? ht)).1.len
        have Ht := Lib.hid ht
        clear hcl ht h2 HKI
        rcases h3 with ⟨h4, h5⟩ | ⟨h4, h5⟩
        · have ht12 : ((t.n : Nat) : Int) < 12 := by omega
          have H5 := Lib.hid h5
          clear h4 h5 htl
          obtain ⟨tag, tA, tn, tc, zs⟩ := t
          simp only at q1 ht12
          go_wp2
          go_ret
          exact HRet.out _ H5.out (Below.refl _ _)
        · have ht12 : ¬ ((t.n : Nat) : Int) < 12 := by omega
          have H5 := Lib.hid h5
          have htp : (L.map Tab.pure)[i]? = some t.pure := by rw [List.getElem?_map, Ht.out]; rfl
          have hnx := placeT_next _ _ _ htp
          have hpg := placeT_mod (L.map Tab.pure) i
          have hpd := padN_ge t.zs.length
          have hwl2 := writeL_len _ HF.out.tag
          have hn7 := HO8.out.len
          have hcap := HO8.out.cap
          rw [show t.pure.2.length = t.zs.length from rfl, ← hwl2, hn7] at hnx
          have hfe := font_ent HF.out 0 htp
          rw [← write_font HF.out] at hfe
          have hN : n4at (writeL (L.map Tab.pure)) (12 + 16 * i + 8) = (placeT (L.map Tab.pure) i : Nat) := by
            rw [← hfe.2.2.1]
            show _ = n4at _ (12 + 16 * i + 4 + 4)
            rw [show 12 + 16 * i + 4 + 4 = 12 + 16 * i + 8 by omega]
          have HWB := Lib.hid (writeL_bytes (l := L.map Tab.pure) HF.out.bytes)
          have h4n := n4_any A7 n7 c7 (writeL (L.map Tab.pure)) (12 + 16 * i + 8) w8 HO8.out.row HWB.out (by omega) (by omega)
          rw [n4v_at, hN, show ((12 + 16 * i + 8 : Nat) : Int) = 12 + 16 * (i : Int) + 8 by omega] at h4n
          have HFin : Hid (fontOf L = (writeL (L.map Tab.pure)).take (placeT (L.map Tab.pure) i + 8) ++ (b4 ((2981146554 - rs (writeL (L.map Tab.pure))) % 4294967296) ++ (writeL (L.map Tab.pure)).drop (placeT (L.map Tab.pure) i + 8 + 4))) := by
            show _ = _
            rw [HFo.out]
            unfold buildL
            rw [h5]
          have H4n := Lib.hid h4n
          have hpl : placeT (L.map Tab.pure) i + 12 ≤ n7 := by omega
          clear hfe hN htp h4 h5 htl hwl2 h4n hpg hpd hnx
          generalize placeT (L.map Tab.pure) i = pl at *
          generalize writeL (L.map Tab.pure) = Z at *
          obtain ⟨tag, tA, tn, tc, zs⟩ := t
          simp only at q1 ht12
          go_wp2_with fail
          with_reducible refine H4n.out.mono ?_
          rintro e w9 ⟨rfl, q, rfl⟩
          obtain ⟨g7, rfl⟩ : ∃ g7, A7 = some ⟨g7, 0, none⟩ := by
            rcases HO8.out.shape with ⟨_, _, h, _⟩ | ⟨g7, _, h, _⟩
            · omega
            · exact ⟨g7, h⟩
          obtain ⟨sz, hsz⟩ : ∃ sz, rs Z % 4294967296 = sz := ⟨_, rfl⟩
          have hs0 : 0 ≤ sz ∧ sz < 4294967296 := by omega
          obtain ⟨xx, hxx⟩ : ∃ xx, IntKind.u32.wrap (2981146554 - sz) = xx := ⟨_, rfl⟩
          have hx0 : xx = (2981146554 - rs Z) % 4294967296 := by
            rw [← hxx]
            show (2981146554 - sz) % 4294967296 = _
            omega
          have hx1 : 0 ≤ xx ∧ xx < 4294967296 := by omega
          have HX0 := Lib.hid hx0
          have HSZ := Lib.hid hsz
          have T1 : ((pl : Int) + 8).toNat = pl + 8 := by omega
          have T2 : ((pl : Int) + 8 + 4).toNat = pl + 12 := by omega
          have R1 : (0 : Int) ≤ (pl : Int) + 8 := by omega
          have R2 : (pl : Int) + 8 ≤ (c7 : Int) := by omega
          have R3 : (0 : Int) ≤ (pl : Int) + 8 + 4 := by omega
          have R4 : (pl : Int) + 8 + 4 ≤ (n7 : Int) := by omega
          have R5 : (n7 : Int) ≤ (c7 : Int) := by omega
          have hg : G9 w8 (w8.drewN q) [(some ⟨g7, 0, none⟩, n7, Z)] := ⟨fun p hp => ((G9.start w8).put HO8.out.row).got p hp, below_drewN (Below.refl _ _) q⟩
          have HR7 : Hid (∀ W, Below w8.heap.size w8 W → Row W (some ⟨g7, 0, none⟩) n7 (cellsOf .u8 Z)) := Lib.hid fun W hW => HO8.out.row.below hW
          have hn7b : n7 ≤ 100000 := by omega
          have HN7 := Lib.hid hn7b
          clear hn7b
          have W1 : IntKind.i64.wrap ((pl : Int) + 8 + 4) = (pl : Int) + 8 + 4 := IntWalk.i64_in _ (by omega)
          clear hx0 hsz
          have HFr : Hid (∀ W, Below w8.heap.size w8 W → Row W (some ⟨g7, 0, none⟩) (pl + 8) (cellsOf .u8 (Z.take (pl + 8)))) := Lib.hid fun W hW => by
            have := (HO8.out.row.below hW).take (k := pl + 8) (by omega)
            rwa [cellsOf_take] at this
          have HJn : Hid ((Z.take (pl + 8) ++ (b4 xx ++ Z.drop (pl + 8 + 4))).length ≤ 140737488351232) := by
            show _ ≤ _
            have := HO8.out.len
            simp only [List.length_append, List.length_take, List.length_drop, b4_len]
            omega
          have HFx : Hid (Z.take (pl + 8) ++ (b4 xx ++ Z.drop (pl + 8 + 4)) = fontOf L) := by show _ = _; rw [HFin.out, HX0.out]
          by_cases hcc : c7 = pl + 12
          · have R6 : ((c7 : Int) - ((pl : Int) + 8 + 4) == 0) = true := by simp; omega
            have HBk : Hid (∀ W, Below w8.heap.size w8 W → Row W (some ⟨g7, 0, none⟩) (n7 - (pl + 12)) (cellsOf .u8 (Z.drop (pl + 8 + 4)))) := Lib.hid fun W hW => by
              have := HO8.out.len
              rw [show n7 - (pl + 12) = 0 by omega, List.drop_of_length_le (by omega)]
              exact Row.empty _ _
            have HCC := Lib.hid hcc
            clear hcc
            go_upto_region 20 with fail
            generalize w8.drewN q = V9 at *
            replace hg := hg.drew
            go_region_held3 (fun w' => True)
              (first | trivial)
              (first
                | (go_at_call 42; (with_reducible refine (refSum_any (some ⟨g7, 0, none⟩) n7 _ Z _ (HR7.out _ hg.bel) HWB.out HN7.out).mono ?_); rintro e w10 ⟨rfl, hb10⟩; rw [HSZ.out]; replace hg := hg.sum hb10; clear hb10)
                | (go_at_call 40; refine (b4_any _ _ hx1.1 hx1.2).mono ?_; rintro e w11 ⟨A11, n11, c11, rfl, o11, hb11⟩; replace hg := hg.call hb11 o11; have hr11 := o11.row; clear hb11 o11)
                | (go_at_call 17; (with_reducible refine (join3_any _ _ (x1 := Z.take (pl + 8)) (x2 := b4 xx) (x3 := Z.drop (pl + 8 + 4)) rfl (HFr.out _ hg.bel) hr11 (HBk.out _ hg.bel) HJn.out).mono ?_); rintro e w12 ⟨A12, n12, c12, rfl, o12, hb12⟩; rw [HFx.out] at o12; have HB12 := Lib.hid (HB8.out.trans ((hg.bel.trans (hb12.mono hg.bel.size)).mono HB8.out.size)); have HO12 := Lib.hid (o12.mono (Nat.le_trans HB8.out.size hg.bel.size)); clear o12 hb12 hr11))
            all_goals go_wp2
            all_goals go_ret
            all_goals exact ⟨A12, n12, c12, rfl, HO12.out, HB12.out⟩
          · have R6 : ((c7 : Int) - ((pl : Int) + 8 + 4) == 0) = false := by simp; omega
            have HBk : Hid (∀ W, Below w8.heap.size w8 W → Row W (some ⟨g7, pl + 12, none⟩) (n7 - (pl + 12)) (cellsOf .u8 (Z.drop (pl + 8 + 4)))) := Lib.hid fun W hW => by
              have := (HO8.out.row.below hW).drop (pl + 12)
              rw [cellsOf_drop] at this
              rw [show pl + 8 + 4 = pl + 12 by omega]
              simpa only [Option.map_some, Addr.add_lit, Nat.zero_add] using this
            have HCC := Lib.hid hcc
            clear hcc
            go_upto_region 20 with fail
            generalize w8.drewN q = V9 at *
            replace hg := hg.drew
            go_region_held3 (fun w' => True)
              (first | trivial)
              (first
                | (go_at_call 42; (with_reducible refine (refSum_any (some ⟨g7, 0, none⟩) n7 _ Z _ (HR7.out _ hg.bel) HWB.out HN7.out).mono ?_); rintro e w10 ⟨rfl, hb10⟩; rw [HSZ.out]; replace hg := hg.sum hb10; clear hb10)
                | (go_at_call 40; refine (b4_any _ _ hx1.1 hx1.2).mono ?_; rintro e w11 ⟨A11, n11, c11, rfl, o11, hb11⟩; replace hg := hg.call hb11 o11; have hr11 := o11.row; clear hb11 o11)
                | (go_at_call 17; (with_reducible refine (join3_any _ _ (x1 := Z.take (pl + 8)) (x2 := b4 xx) (x3 := Z.drop (pl + 8 + 4)) rfl (HFr.out _ hg.bel) hr11 (HBk.out _ hg.bel) HJn.out).mono ?_); rintro e w12 ⟨A12, n12, c12, rfl, o12, hb12⟩; rw [HFx.out] at o12; have HB12 := Lib.hid (HB8.out.trans ((hg.bel.trans (hb12.mono hg.bel.size)).mono HB8.out.size)); have HO12 := Lib.hid (o12.mono (Nat.le_trans HB8.out.size hg.bel.size)); clear o12 hb12 hr11))
            all_goals go_wp2
            all_goals go_ret
            all_goals exact ⟨A12, n12, c12, rfl, HO12.out, HB12.out⟩

end Go.Proofs.Ytlkidnacfljpkaa
