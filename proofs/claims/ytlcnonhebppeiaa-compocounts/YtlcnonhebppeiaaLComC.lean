/- The law CompoCounts. -/
import Derived.Test.YtlcnonhebppeiaaComC
import Derived.Test.YtlcnonhebppeiaaComI
import Derived.Test.YtlcnonhebppeiaaRegsOf
import Derived.Test.YtlcnonhebppeiaaRegT
namespace Go.Proofs.Ytlcnonhebppeiaa
open Go.RowKit
set_option linter.unusedVariables false
set_option linter.unusedSimpArgs false

theorem Try.cpinfo : (Try.prog.info? 89).map (fun i => (i.zero, i.size, i.bytes)) = some (some (.agg #[.int .u16 0, .int .u16 0, .int .i16 0, .int .i16 0, .int .i16 0, .int .i16 0, .int .i16 0, .int .i16 0]), 8, 16) := by kernel_rfl

theorem ownS_neC {α : Type} {t t' : TypeId} {enc : α → List Value} {k : Nat} {w : World} {B g n c : Nat} {A : Option Addr} {l : List α} {cur : Array Value} (h : OwnS t enc k w B A n c l) (h' : w.heap[g]? = some (.cells cur t' (0, 0))) (ht : t ≠ t') : ∀ q, blockOf A = some q → q ≠ g := by
  intro q hq
  rintro rfl
  rcases h.shape with ⟨rfl, _⟩ | ⟨g', cur, rfl, _, _, hh, _⟩
  · simp [blockOf] at hq
  · simp [blockOf] at hq
    subst hq
    rw [hh] at h'
    simp at h'
    exact ht h'.2
theorem own_neC {α : Type} {t t' : TypeId} {k : IntKind} {enc : α → List Value} {m : Nat} {w : World} {B B' n c n' c' : Nat} {A A' : Option Addr} {zs : List Int} {l : List α} (h : Own t k w B A n c zs) (h' : OwnS t' enc m w B' A' n' c' l) (ht : t ≠ t') : ∀ q, blockOf A = some q → some q ≠ blockOf A' := by
  intro q hq e
  rcases h'.shape with ⟨rfl, _⟩ | ⟨g', cur, rfl, _, _, hh, _⟩
  · simp [blockOf] at e
  · simp [blockOf] at e
    subst e
    exact own_neS h hh ht _ hq rfl

/-- A glyph under way, with its parts. -/
structure CC (w wr : World) (bx : Nat) (QA : Option Addr) (q qc : Nat) (ps : List Pt) (PA : Option Addr) (pn pc : Nat) (pr : List Int) : Prop where
  box : wr.heap[bx]? = some (.cells #[.int .i16 0, .int .i16 0, .int .i16 0, .int .i16 0, .slice QA q qc, .slice PA pn pc] 67 (0, 0))
  qa : OwnS 89 encPt 8 wr w.heap.size QA q qc ps
  bel : Below w.heap.size w wr
  lx : w.heap.size ≤ bx
  pr : OwnB wr w.heap.size PA pn pc pr
section
variable {w wr w' : World} {bx q qc pn pc : Nat} {QA PA : Option Addr} {ps : List Pt} {pr : List Int}
theorem CC.below (h : CC w wr bx QA q qc ps PA pn pc pr) (hb : Below wr.heap.size wr w') : CC w w' bx QA q qc ps PA pn pc pr := ⟨kept_block h.box hb, h.qa.below hb, h.bel.trans (hb.mono h.bel.size), h.lx, h.pr.below hb⟩
theorem CC.box2 (h : CC w wr bx QA q qc ps PA pn pc pr) (hg : wr.grownBy w' (blockOf QA)) : w'.heap[bx]? = some (.cells #[.int .i16 0, .int .i16 0, .int .i16 0, .int .i16 0, .slice QA q qc, .slice PA pn pc] 67 (0, 0)) :=
  (hg.block bx (lt_of_block h.box) (fun e => ownS_neC h.qa h.box (by decide) bx e.symm rfl)).trans h.box
theorem CC.app (h : CC w wr bx QA q qc ps PA pn pc pr) {A2 : Option Addr} {n2 c2 : Nat} {ps2 : List Pt} (ho : OwnS 89 encPt 8 w' w.heap.size A2 n2 c2 ps2) (hg : wr.grownBy w' (blockOf QA)) : CC w (w'.setCell ⟨bx, 4, none⟩ (.slice A2 n2 c2)) bx A2 n2 c2 ps2 PA pn pc pr := by
  have h2 := h.box2 hg
  have hp : OwnB w' w.heap.size PA pn pc pr := h.pr.keep (fun g e => hg.block g (h.pr.from_ g e).2 (own_neC h.pr h.qa (by decide) g e))
  exact ⟨by have := set_block h2 4 (.slice A2 n2 c2); simpa using this, ho.keep (fun g e => Below.heap_setCell _ _ _ _ (ownS_neC ho h2 (by decide) g e)), (h.bel.grown hg h.bel.size (fun g e => (h.qa.from_ g e).1)).setCell (p := ⟨bx, 4, none⟩) h.lx _, h.lx, hp.keep (fun g e => Below.heap_setCell _ _ _ _ (own_neS hp h2 (by decide) g e))⟩
theorem flat_pt_f {l : List Pt} {k : Nat} {p : Pt} (f : Int) (h : l[k]? = some p) : flat encPt (l.set k { p with f := f }) = (flat encPt l).set (k * 8) (.int .u16 f) := by
  have hk := (List.getElem?_eq_some_iff.1 h).1
  have h0 : l.set k p = l := by
    apply List.ext_getElem?
    intro i
    by_cases hi : i = k
    · subst hi
      rw [List.getElem?_set_self hk, h]
    · rw [List.getElem?_set_ne (fun e => hi e.symm)]
  have e := flat_set encPt_len l k p hk
  rw [h0] at e
  rw [flat_set encPt_len l k _ hk]
  conv => rhs; rw [e]
  have hlen : ((flat encPt l).take (k * 8)).length = k * 8 := by
    rw [List.length_take, flat_length encPt_len]
    omega
  rw [List.set_append_right _ _ (by omega), hlen, Nat.sub_self]
  rfl
theorem CC.flag {gq : Nat} (h : CC w wr bx (some ⟨gq, 0, none⟩) q qc ps PA pn pc pr) {k : Nat} {p : Pt} (hp : ps[k]? = some p) (f : Int) : CC w (wr.setCell ⟨gq, k * 8, none⟩ (.int .u16 f)) bx (some ⟨gq, 0, none⟩) q qc (ps.set k { p with f := f }) PA pn pc pr := by
  obtain ⟨cur, hc⟩ := ownS_block h.qa
  have hne : bx ≠ gq := by
    rintro rfl
    have := h.box
    rw [hc] at this
    simp at this
  exact ⟨(Below.heap_setCell wr _ _ _ hne).trans h.box, ownS_setCell h.qa (by simp) (flat_pt_f f hp), h.bel.setCell (p := ⟨gq, k * 8, none⟩) (h.qa.from_ gq rfl).1 _, h.lx, h.pr.keep (fun g e => Below.heap_setCell wr _ _ _ (own_neS h.pr hc (by decide) g e))⟩
end

noncomputable def ctReg : Array Oper := regOf (Try.f13.body.getD .skip) 13
noncomputable def ctBody : Code := (loopsOf (Try.f13.body.getD .skip))[0]?.getD .skip

set_option maxRecDepth 1000000 in
set_option maxHeartbeats 4000000 in
theorem counts_tail {cc0 cc1 cc2 cc3 cc4 cc5 cc6 cc7 cc8 cc11 cc12 cc13 cc14 cc15 cc16 cc17 cc18 cc19 cc20 cc21 cc22 cc23 cc24 cc25 cc26 cc27 cc28 cc29 cc30 cc31 cc32 cc33 cc34 cc35 cc36 cc37 cc38 cc39 cc40 cc41 cc42 cc43 cc44 cc45 cc46 cc47 cc48 cc49 cc50 cc51 cc52 cc53 cc54 cc55 cc56 cc57 cc58 cc59 cc60 cc61 cc62 cc63 cc64 cc65 cc66 cc67 cc68 cc69 cc70 cc71 cc72 cc73 cc74 cc75 cc76 cc77 cc78 cc79 cc80 cc81 cc82 cc83 cc84 cc85 cc86 cc87 cc88 cc89 cc90 cc91 cc92 cc93 cc94 cc95 cc96 cc97 cc98 cc99 cc100 cc101 cc102 : Value} {Q0 : Exit → Act → World → Prop} (bx : Nat) (QA : Option Addr) (q qc : Nat) (ps : List Pt) (PA : Option Addr) (pn pc : Nat) (pr : List Int) (R : Bool) (w W : World)
    (hs : CC w W bx QA q qc ps PA pn pc pr) (hR : cRight ⟨0, 0, 0, 0, ps, pr⟩ = R) (hq : q ≤ 1000) (hpn : pn ≤ 1000) (hok : ∀ p ∈ ps, p.ok) (hpb : Bytes pr)
    (hexit : ∀ (u78 u79 u80 u81 u82 u83 u84 u85 u86 u87 u88 u89 u90 u91 u92 u93 u94 u95 u96 u97 u98 u99 u100 u101 u102 : Value) (wr : World), Below w.heap.size w wr → Q0 .normal ⟨List.toArray (cc0 :: cc1 :: cc2 :: cc3 :: cc4 :: cc5 :: cc6 :: cc7 :: (.bool true) :: (.pointer (some ⟨bx, 0, none⟩)) :: (.bool R) :: cc11 :: cc12 :: cc13 :: cc14 :: cc15 :: cc16 :: cc17 :: cc18 :: cc19 :: cc20 :: cc21 :: cc22 :: cc23 :: cc24 :: cc25 :: cc26 :: cc27 :: cc28 :: cc29 :: cc30 :: cc31 :: cc32 :: cc33 :: cc34 :: cc35 :: cc36 :: cc37 :: cc38 :: cc39 :: cc40 :: cc41 :: cc42 :: cc43 :: cc44 :: cc45 :: cc46 :: cc47 :: cc48 :: cc49 :: cc50 :: cc51 :: cc52 :: cc53 :: cc54 :: cc55 :: cc56 :: cc57 :: cc58 :: cc59 :: cc60 :: cc61 :: cc62 :: cc63 :: cc64 :: cc65 :: cc66 :: cc67 :: cc68 :: cc69 :: cc70 :: cc71 :: cc72 :: cc73 :: cc74 :: cc75 :: cc76 :: cc77 :: u78 :: u79 :: u80 :: u81 :: u82 :: u83 :: u84 :: u85 :: u86 :: u87 :: u88 :: u89 :: u90 :: u91 :: u92 :: u93 :: u94 :: u95 :: u96 :: u97 :: u98 :: u99 :: u100 :: u101 :: u102 :: List.nil), []⟩ wr) :
    Code.wp Try.prog (.region 13 ctReg false) Q0 ⟨List.toArray (cc0 :: cc1 :: cc2 :: cc3 :: cc4 :: cc5 :: cc6 :: cc7 :: cc8 :: (.pointer (some ⟨bx, 0, none⟩)) :: (.bool R) :: cc11 :: cc12 :: cc13 :: cc14 :: cc15 :: cc16 :: cc17 :: cc18 :: cc19 :: cc20 :: cc21 :: cc22 :: cc23 :: cc24 :: cc25 :: cc26 :: cc27 :: cc28 :: cc29 :: cc30 :: cc31 :: cc32 :: cc33 :: cc34 :: cc35 :: cc36 :: cc37 :: cc38 :: cc39 :: cc40 :: cc41 :: cc42 :: cc43 :: cc44 :: cc45 :: cc46 :: cc47 :: cc48 :: cc49 :: cc50 :: cc51 :: cc52 :: cc53 :: cc54 :: cc55 :: cc56 :: cc57 :: cc58 :: cc59 :: cc60 :: cc61 :: cc62 :: cc63 :: cc64 :: cc65 :: cc66 :: cc67 :: cc68 :: cc69 :: cc70 :: cc71 :: cc72 :: cc73 :: cc74 :: cc75 :: cc76 :: cc77 :: cc78 :: cc79 :: cc80 :: cc81 :: cc82 :: cc83 :: cc84 :: cc85 :: cc86 :: cc87 :: cc88 :: cc89 :: cc90 :: cc91 :: cc92 :: cc93 :: cc94 :: cc95 :: cc96 :: cc97 :: cc98 :: cc99 :: cc100 :: cc101 :: cc102 :: List.nil), []⟩ W := by
  have HX := Lib.hid hexit
  have HRows : Hid (∀ W', Below W.heap.size W W' → CgV.rows W' ⟨⟨0, 0, 0, 0, ps, pr⟩, QA, q, qc, PA, pn, pc⟩) := fun W' h => CgV.rows.below ⟨hs.qa.row encPt_len, hs.pr.row⟩ h
  have hgok : Cg.ok ⟨0, 0, 0, 0, ps, pr⟩ := ⟨by intro x hx; simp at hx; omega, hok, hpb⟩
  have H1 : Hid (∀ W', Below W.heap.size W W' → Calls Try.prog 35 #[.agg #[.int .i16 0, .int .i16 0, .int .i16 0, .int .i16 0, .slice QA q qc, .slice PA pn pc]] W' (Ret W' (.bool R))) := fun W' h => by
    have := cright_any ⟨⟨0, 0, 0, 0, ps, pr⟩, QA, q, qc, PA, pn, pc⟩ W' (HRows.out W' h) (by show q ≤ 1000000; omega) (by show pn ≤ 1000000; omega) hgok
    rw [show CgV.g ⟨⟨0, 0, 0, 0, ps, pr⟩, QA, q, qc, PA, pn, pc⟩ = ⟨0, 0, 0, 0, ps, pr⟩ from rfl, hR] at this
    exact this
  have H2 : Hid (∀ W', Below W.heap.size W W' → Calls Try.prog 32 #[.agg #[.int .i16 0, .int .i16 0, .int .i16 0, .int .i16 0, .slice QA q qc, .slice PA pn pc]] W' (RetB W' (cBytes ⟨0, 0, 0, 0, ps, pr⟩))) := fun W' h => cbytes_any ⟨⟨0, 0, 0, 0, ps, pr⟩, QA, q, qc, PA, pn, pc⟩ W' (HRows.out W' h) (by show q ≤ 1000000; omega) (by show pn ≤ 1000000; omega) hgok
  have HL : Hid (decide (0 < (cBytes ⟨0, 0, 0, 0, ps, pr⟩).length) = R) := by show _ = _; rw [cBytes_pos, hR]
  have H3 : Hid (∀ W', Calls Try.prog 43 #[.slice none 0 0] W' (Ret W' (.bool false))) := fun W' => by
    have := cis_any none 0 0 [] W' (Row.empty _ _) (fun x hx => by cases hx) (by omega) (by omega)
    rwa [show cIs [] = false by decide] at this
  have H4 : Hid (∀ W' : World, Calls Try.prog 43 #[.slice (some ⟨W'.heap.size, 0, none⟩) 2 2] (W'.alloc (.cells #[.int .u8 127, .int .u8 255] 5)) (Ret (W'.alloc (.cells #[.int .u8 127, .int .u8 255] 5)) (.bool false))) := fun W' => by
    have := cis_any (some ⟨W'.heap.size, 0, none⟩) 2 2 [127, 255] (W'.alloc (.cells #[.int .u8 127, .int .u8 255] 5)) (row_lit W' .u8 5 [127, 255] 2 rfl) (by intro x hx; simp at hx; omega) (by omega) (by omega)
    rwa [show cIs [127, 255] = false by decide +kernel] at this
  have H5 : Hid (∀ W' : World, Calls Try.prog 43 #[.slice (some ⟨W'.heap.size, 0, none⟩) 2 2] (W'.alloc (.cells #[.int .u8 128, .int .u8 0] 5)) (Ret (W'.alloc (.cells #[.int .u8 128, .int .u8 0] 5)) (.bool true))) := fun W' => by
    have := cis_any (some ⟨W'.heap.size, 0, none⟩) 2 2 [128, 0] (W'.alloc (.cells #[.int .u8 128, .int .u8 0] 5)) (row_lit W' .u8 5 [128, 0] 2 rfl) (by intro x hx; simp at hx; omega) (by omega) (by omega)
    rwa [show cIs [128, 0] = true by decide +kernel] at this
  have hbox := hs.box
  have hbel := hs.bel
  have hrf := Below.refl W.heap.size W
  clear hexit hs hR hok hpb hgok HRows
  generalize cBytes ⟨0, 0, 0, 0, ps, pr⟩ = by0 at *
  conv => arg 2; arg 2; whnf
  obtain ⟨c0, c1, c2, c3, c4, c5⟩ := cells6 hbox
  go_wp2_with fail
  with_reducible refine (H1.out _ hrf).mono ?_
  rintro e w1 ⟨rfl, hb1⟩
  have hbel1 := hbel.trans (hb1.mono hbel.size)
  have hbox1 := kept_block hbox hb1
  have HB1 := Lib.hid (H2.out _ hb1)
  have hRR : (R == R) = true := by cases R <;> rfl
  clear c0 c1 c2 c3 c4 c5 hbel hbox hrf H1
  obtain ⟨c0, c1, c2, c3, c4, c5⟩ := cells6 hbox1
  go_wp2_with fail
  with_reducible refine HB1.out.mono ?_
  rintro e w2 ⟨A2, n2, d2, rfl, ho2, hb2⟩
  have hbel2 := hbel1.trans (hb2.mono hbel1.size)
  have hl2 := ho2.len
  have hdl : decide (0 < n2) = R := by
    have h := HL.out
    rwa [hl2] at h
  clear c0 c1 c2 c3 c4 c5 hbel1 hbox1 hb1 hb2 HB1 ho2 H2 HL hl2
  go_wp2_with fail
  with_reducible refine (H3.out _).mono ?_
  rintro e w3 ⟨rfl, hb3⟩
  have hbel3 := hbel2.trans (hb3.mono hbel2.size)
  have H4' := Lib.hid (H4.out w3)
  have hA4 := hbel3.alloc hbel3.size (.cells #[.int .u8 127, .int .u8 255] 5)
  clear hbel2 hb3 H3 hbel3 H4
  go_wp2_with fail
  with_reducible refine H4'.out.mono ?_
  rintro e w4 ⟨rfl, hb4⟩
  have hbel4 := hA4.trans (hb4.mono hA4.size)
  have H5' := Lib.hid (H5.out w4)
  have hA5 := hbel4.alloc hbel4.size (.cells #[.int .u8 128, .int .u8 0] 5)
  clear hA4 hb4 hbel4 H5 H4'
  go_wp2_with fail
  with_reducible refine H5'.out.mono ?_
  rintro e w5 ⟨rfl, hb5⟩
  have hbel5 := hA5.trans (hb5.mono hA5.size)
  go_wp2
  exact HX.out _ _ _ _ _ _ _ _ _ _ _ _ _ _ _ _ _ _ _ _ _ _ _ _ _ _ hbel5

set_option maxRecDepth 1000000 in
set_option maxHeartbeats 4000000 in
theorem counts_loop {cc0 cc1 cc2 cc3 cc4 cc5 cc6 cc7 cc8 cc10 cc11 cc12 cc13 cc14 cc15 cc18 cc19 cc20 cc21 cc22 cc23 cc24 cc25 cc26 cc27 cc28 cc29 cc30 cc31 cc32 cc33 cc34 cc35 cc36 cc37 cc38 cc39 cc40 cc41 cc42 cc43 cc44 cc45 cc46 cc47 cc48 cc49 cc50 cc51 cc52 cc53 cc54 cc55 cc56 cc57 cc58 cc59 cc60 cc61 cc62 cc63 cc64 cc65 cc66 cc67 cc68 cc69 cc70 cc71 cc72 cc73 cc74 cc75 cc76 cc77 cc78 cc79 cc80 cc81 cc82 cc83 cc84 cc85 cc86 cc87 cc88 cc89 cc90 cc91 cc92 cc93 cc94 cc95 cc96 cc97 cc98 cc99 cc100 cc101 cc102 : Value} {Q0 : Exit → Act → World → Prop} (bx N : Nat) (PA : Option Addr) (pn pc : Nat) (pr : List Int) (w W : World) (hN : N ≤ 255)
    (hs : CC w W bx none 0 0 [] PA pn pc pr)
    (hpan : ∀ (c : List PanicEntry) (a b : Act) (w : World), a.defers = b.defers → Q0 (.panic c) a w → Q0 (.panic c) b w)
    (hexit : ∀ (u18 u19 u20 u21 u22 u23 u24 u25 u26 : Value) (QA : Option Addr) (qc : Nat) (wr : World), CC w wr bx QA N qc (List.replicate N pt0) PA pn pc pr → Q0 (.exit 0) ⟨List.toArray (cc0 :: cc1 :: cc2 :: cc3 :: cc4 :: cc5 :: cc6 :: cc7 :: cc8 :: (.pointer (some ⟨bx, 0, none⟩)) :: cc10 :: cc11 :: cc12 :: cc13 :: cc14 :: cc15 :: (.int .u8 (N : Int)) :: (.int .u8 (N : Int)) :: u18 :: u19 :: u20 :: u21 :: u22 :: u23 :: u24 :: u25 :: u26 :: cc27 :: cc28 :: cc29 :: cc30 :: cc31 :: cc32 :: cc33 :: cc34 :: cc35 :: cc36 :: cc37 :: cc38 :: cc39 :: cc40 :: cc41 :: cc42 :: cc43 :: cc44 :: cc45 :: cc46 :: cc47 :: cc48 :: cc49 :: cc50 :: cc51 :: cc52 :: cc53 :: cc54 :: cc55 :: cc56 :: cc57 :: cc58 :: cc59 :: cc60 :: cc61 :: cc62 :: cc63 :: cc64 :: cc65 :: cc66 :: cc67 :: cc68 :: cc69 :: cc70 :: cc71 :: cc72 :: cc73 :: cc74 :: cc75 :: cc76 :: cc77 :: cc78 :: cc79 :: cc80 :: cc81 :: cc82 :: cc83 :: cc84 :: cc85 :: cc86 :: cc87 :: cc88 :: cc89 :: cc90 :: cc91 :: cc92 :: cc93 :: cc94 :: cc95 :: cc96 :: cc97 :: cc98 :: cc99 :: cc100 :: cc101 :: cc102 :: List.nil), []⟩ wr) :
    Code.wp Try.prog (.loop ctBody) Q0 ⟨List.toArray (cc0 :: cc1 :: cc2 :: cc3 :: cc4 :: cc5 :: cc6 :: cc7 :: cc8 :: (.pointer (some ⟨bx, 0, none⟩)) :: cc10 :: cc11 :: cc12 :: cc13 :: cc14 :: cc15 :: (.int .u8 (N : Int)) :: (.int .u8 0) :: cc18 :: cc19 :: cc20 :: cc21 :: cc22 :: cc23 :: cc24 :: cc25 :: cc26 :: cc27 :: cc28 :: cc29 :: cc30 :: cc31 :: cc32 :: cc33 :: cc34 :: cc35 :: cc36 :: cc37 :: cc38 :: cc39 :: cc40 :: cc41 :: cc42 :: cc43 :: cc44 :: cc45 :: cc46 :: cc47 :: cc48 :: cc49 :: cc50 :: cc51 :: cc52 :: cc53 :: cc54 :: cc55 :: cc56 :: cc57 :: cc58 :: cc59 :: cc60 :: cc61 :: cc62 :: cc63 :: cc64 :: cc65 :: cc66 :: cc67 :: cc68 :: cc69 :: cc70 :: cc71 :: cc72 :: cc73 :: cc74 :: cc75 :: cc76 :: cc77 :: cc78 :: cc79 :: cc80 :: cc81 :: cc82 :: cc83 :: cc84 :: cc85 :: cc86 :: cc87 :: cc88 :: cc89 :: cc90 :: cc91 :: cc92 :: cc93 :: cc94 :: cc95 :: cc96 :: cc97 :: cc98 :: cc99 :: cc100 :: cc101 :: cc102 :: List.nil), []⟩ W := by
  obtain ⟨i1, hi1, hz01, hz11, hz21⟩ := info_parts Try.cpinfo
  have HX := Lib.hid hexit
  have HPan := Lib.hid hpan
  clear hexit hpan
  conv => arg 2; arg 1; whnf
  go_loopw [17] (fun i' wr => ∃ (k : Nat) (QA : Option Addr) (qc : Nat), k ≤ N ∧ i' = .int .u8 k ∧ CC w wr bx QA k qc (List.replicate k pt0) PA pn pc pr) (fun i' _ => N - (intOf i').toNat)
  case atStart => exact ⟨0, none, 0, Nat.zero_le _, rfl, hs⟩
  case round =>
    clear hs
    obtain ⟨k, QA, qc, hk, rfl, hs⟩ := hrel
    by_cases hlt : k < N
    · have HRe : Hid (List.replicate k pt0 ++ [pt0] = List.replicate (k + 1) pt0) := by show _ = _; rw [List.replicate_succ']
      have ik1 : (k : Int) < (N : Int) := by omega
      go_upto_region 6 with fail
      replace hs := hs.below (Below.refl wr.heap.size wr).drew
      have hx0 : Ext wr.drew wr.drew := Ext.refl _
      obtain ⟨c0, c1, c2, c3, c4, c5⟩ := cells6 hs.box
      refine regT_start 5 (Ext wr.drew) (by kernel_rfl) ?_
      generalize wr.drew = V at *
      refine regT_take (i := 0) (d := some 19) (v := ?_) [1] hx0 rfl rfl (by kernel_rfl) (by kernel_rfl) (by kernel_rfl) (by kernel_rfl) (by kernel_rfl) (by decide) (fun c b u h => HPan.out c _ b u (by rfl) h) (Or.inl ⟨by rfl, ?_⟩) ?_
      rotate_left
      · intro w' hx; (go_simp <;> with_reducible rfl)
      simp only [Act.put, List.setIfInBounds_toArray, List.set_cons_zero, List.set_cons_succ]
      refine regT_take (i := 1) (d := some 20) (v := ?_) [] hx0 rfl rfl (by kernel_rfl) (by kernel_rfl) (by kernel_rfl) (by kernel_rfl) (by kernel_rfl) (by decide) (fun c b u h => HPan.out c _ b u (by rfl) h) (Or.inl ⟨by rfl, ?_⟩) ?_
      rotate_left
      · intro w' hx; obtain ⟨q0, q1, q2, q3, q4, q5⟩ := cells6 (kept_block hs.box hx); (go_simp <;> with_reducible rfl)
      simp only [Act.put, List.setIfInBounds_toArray, List.set_cons_zero, List.set_cons_succ]
      refine regT_one 2 _ (by kernel_rfl) rfl ?_
      intro K hK
      go_simp
      refine (unit_any _).mono ?_
      rintro e W1 ⟨rfl, hb1⟩
      have hX1 := hx0.call hb1
      have hs1 := hs.below hb1
      refine hK.out _ _ (fun _ => hX1) ?_
      clear hK K
      refine regT_one 3 _ (by kernel_rfl) rfl ?_
      intro K hK
      go_simp
      refine hK.out _ _ (fun _ => hX1) ?_
      clear hK K
      refine regT_one 4 _ (by kernel_rfl) rfl ?_
      intro K hK
      go_simp
      have hA := (Below.refl W1.heap.size W1).alloc (Nat.le_refl _) (.cells #[.int .u16 2, .int .u16 0, .int .i16 0, .int .i16 0, .int .i16 16384, .int .i16 0, .int .i16 0, .int .i16 16384] 89)
      have hX2 := hX1.new (.cells #[.int .u16 2, .int .u16 0, .int .i16 0, .int .i16 0, .int .i16 16384, .int .i16 0, .int .i16 0, .int .i16 16384] 89)
      have hs2 := hs1.below hA
      have hrow := rowS_vals encPt_len W1 89 [pt0] #[.int .u16 2, .int .u16 0, .int .i16 0, .int .i16 0, .int .i16 16384, .int .i16 0, .int .i16 0, .int .i16 16384] rfl 1 rfl
      refine hK.out _ _ (fun _ => hX2) ?_
      clear hK K
      clear hs hs1 hb1 hA hX1 hx0 c0 c1 c2 c3 c4 c5
      refine regT_one 5 _ (by kernel_rfl) rfl ?_
      intro K hK
      refine step_append_rowS rfl (.tmp 20) (.tmp 23) _ rfl 89 encPt 8 encPt_len (by omega) encPt_one w.heap.size i1 _ 16 Try.underlying65 hi1 hz01 hz11 rfl hz21 QA k qc (List.replicate k pt0) rfl hs2.qa (some ⟨W1.heap.size, 0, none⟩) 1 1 [pt0] rfl hrow (by omega) (by omega) hs2.bel.size ?_
      intro A3 c3 W3 ho3 hg3
      have hb3 := hs2.box2 hg3
      have hs3 := hs2.app ho3 hg3
      rw [HRe.out] at hs3
      refine hK.out _ _ (fun h => absurd h (by decide)) ?_
      clear hK K ho3 hg3 hrow hs2
      simp only [Act.put, List.setIfInBounds_toArray, List.set_cons_zero, List.set_cons_succ]
      refine regT_one 6 _ (by kernel_rfl) rfl ?_
      intro K hK
      go_simp
      refine hK.out _ _ (fun h => absurd h (by decide)) ?_
      clear hK K
      refine regT_one 7 _ (by kernel_rfl) rfl ?_
      intro K hK
      obtain ⟨z0, z1, z2, z3, z4, z5⟩ := cells6 hb3
      have zf := thawed hb3
      go_simp
      refine hK.out _ _ (fun h => absurd h (by decide)) ?_
      clear hK K
      clear hb3
      refine regT_done (by kernel_rfl) ?_ _
      go_wp2
      go_roundw
      case rel => exact ⟨k + 1, A3, c3, by omega, by go_num, hs3⟩
      case measure => simp [intOf]; omega
    · obtain rfl : k = N := by omega
      go_wp2
      exact HX.out _ _ _ _ _ _ _ _ _ QA qc _ hs

set_option maxRecDepth 1000000 in
set_option maxHeartbeats 16000000 in
theorem law_CompoCounts (n : Int) (code early : Bool) (A : Option Addr) (an ac : Nat) (zs : List Int) (w : World) (n0 : 0 ≤ n) (n1 : n ≤ 255) (hr : Row w A an (cellsOf .u8 zs)) (hB : Bytes zs) (hn : an ≤ 9223372036854775807) :
    Calls Try.prog 13 #[.int .u8 n, .bool code, .bool early, .slice A an ac] w (True_ w) := by
  have HAw := Lib.hid (awake13_any w)
  have HC : Hid (∀ W, Below w.heap.size w W → Calls Try.prog 17 #[.slice A an ac, .int .i64 20] W (RetB W (zs.take (20 : Int).toNat))) := fun W hW => cut_any _ _ _ zs 20 W (hr.below hW) hn (by omega)
  have HBt : Hid (Bytes (zs.take (20 : Int).toNat)) := cut_bytes hB _
  have HLt : Hid ((zs.take (20 : Int).toNat).length ≤ 20) := by show _ ≤ _; rw [List.length_take]; simp; omega
  obtain ⟨N, rfl⟩ : ∃ N : Nat, n = (N : Int) := ⟨n.toNat, by omega⟩
  have hN : N ≤ 255 := by omega
  have hor : bits .or .u16 2 256 = 258 := by decide
  clear hr hB
  go_enter Try.func13, Try.ntmps13
  go_wp2_with fail
  with_reducible refine HAw.out.mono ?_
  rintro e w0 ⟨rfl, hb0⟩
  have HC0 := Lib.hid (HC.out w0 hb0)
  clear HAw HC
  go_wp2_with fail
  with_reducible refine HC0.out.mono ?_
  rintro e w1 ⟨PA, pn, pc, rfl, hown, hb1'⟩
  have hb1 : Below w.heap.size w w1 := hb0.trans (hb1'.mono hb0.size)
  have hown2 := hown.mono hb0.size
  have hpl : (zs.take (20 : Int).toNat).length = pn := hown.len
  have hp20 : pn ≤ 20 := by have := HLt.out; omega
  clear HC0 hb1' hown
  generalize zs.take (20 : Int).toNat = pr at *
  have hA := (Below.refl w1.heap.size w1).alloc (Nat.le_refl _) (.cells #[.int .i16 0, .int .i16 0, .int .i16 0, .int .i16 0, .slice none 0 0, .slice PA pn pc] 67)
  have hs : CC w (w1.alloc (.cells #[.int .i16 0, .int .i16 0, .int .i16 0, .int .i16 0, .slice none 0 0, .slice PA pn pc] 67)) w1.heap.size none 0 0 [] PA pn pc pr :=
    ⟨heap_alloc_new w1 _, OwnS.nil _ _ _ _ _, hb1.trans (hA.mono hb1.size), hb1.size, hown2.below hA⟩
  have hnew := heap_alloc_new w1 (.cells #[.int .i16 0, .int .i16 0, .int .i16 0, .int .i16 0, .slice none 0 0, .slice none 0 0] 67)
  clear hA hown2 hb0 hb1
  go_wp2_with fail
  clear hnew
  generalize w1.heap.size = bx at *
  refine counts_loop bx N PA pn pc pr w _ hN hs (fun _ _ _ _ hd h => ⟨hd.symm.trans h.1, h.2⟩) ?_
  intro u18 u19 u20 u21 u22 u23 u24 u25 u26 QA qc w2 hs2
  clear hs
  by_cases hz : N = 0
  · subst hz
    rw [show List.replicate 0 pt0 = ctL 0 code early by unfold ctL ctA; simp] at hs2
    obtain ⟨c0, c1, c2, c3, c4, c5⟩ := cells6 hs2.box
    go_upto_region 13 with fail
    refine counts_tail bx _ 0 qc (ctL 0 code early) PA pn pc pr false w _ hs2 (by rw [ct_right 0 code early pr (by omega), hpl]; first | rfl | (simp []) | (simp []; omega)) (by omega) (by omega) (ctL_ok 0 code early) HBt.out ?_
    intro v78 v79 v80 v81 v82 v83 v84 v85 v86 v87 v88 v89 v90 v91 v92 v93 v94 v95 v96 v97 v98 v99 v100 v101 v102 w9 hb9
    go_wp2
    go_ret
    exact ⟨rfl, hb9⟩
  · have q0 : (0 : Int) < (N : Int) := by omega
    have q1 : (1 : Int) ≤ (N : Int) := by omega
    have q2 : IntKind.u8.wrap ((N : Int) - 1) = (N : Int) - 1 := by rw [IntKind.wrap_u8]; omega
    have q3 : ((N : Int) - 1).toNat = N - 1 := by omega
    have q4 : (0 : Int) ≤ (N : Int) - 1 := by omega
    have q5 : (N : Int) - 1 < (N : Int) := by omega
    rcases hs2.qa.shape with ⟨_, _, h0, _⟩ | ⟨gq, cur, rfl, hgB, hgl, hgh, _⟩
    · omega
    clear hgB hgl hgh
    have hN1 : 1 ≤ N := by omega
    cases code with
    | true =>
      have hp1 : (List.replicate N pt0)[N - 1]? = some pt0 := by rw [List.getElem?_replicate, if_pos (by omega)]
      obtain ⟨gg, off, e', _, d0, _⟩ := atPt (hs2.qa.row encPt_len) hp1
      simp only [Option.some.injEq, Addr.mk.injEq, and_true] at e'
      obtain ⟨rfl, rfl⟩ := e'
      rw [Nat.zero_add] at d0
      have d0' : w2.cell? ⟨gq, (N - 1) * 8, none⟩ = some (.int .u16 2) := d0
      clear d0
      have fz := hs2.qa.thaw
      obtain ⟨c0, c1, c2, c3, c4, c5⟩ := cells6 hs2.box
      have hs3 := hs2.flag hp1 258
      rw [show (List.replicate N pt0).set (N - 1) { pt0 with f := 258 } = ctA N true by unfold ctA; rw [if_pos (by simp; omega)]; rfl] at hs3
      go_upto_region 10 with fail
      clear c0 c1 c2 c3 c4 c5 d0' fz hs2 hp1
      generalize w2.setCell ⟨gq, (N - 1) * 8, none⟩ (.int .u16 258) = w3 at hs3 ⊢
      have hs2 := hs3
      clear hs3
      by_cases h1 : N = 1
      · have r1 : ¬ (1 : Int) < (N : Int) := by omega
        have r2 : (N : Int) ≤ 200 := by omega
        have r3 : ((N : Int) == 1) = true := by simp [h1]
        rw [show ctA N true = ctL N true early by unfold ctL; rw [if_neg (by simp; omega)]] at hs2
        obtain ⟨c0, c1, c2, c3, c4, c5⟩ := cells6 hs2.box
        go_upto_region 13 with fail
        refine counts_tail bx _ N qc (ctL N true early) PA pn pc pr true w _ hs2 (by rw [ct_right N true early pr (by omega), hpl]; first | rfl | (simp [h1]) | (simp [h1]; omega)) (by omega) (by omega) (ctL_ok N true early) HBt.out ?_
        intro v78 v79 v80 v81 v82 v83 v84 v85 v86 v87 v88 v89 v90 v91 v92 v93 v94 v95 v96 v97 v98 v99 v100 v101 v102 w9 hb9
        go_wp2
        go_ret
        exact ⟨rfl, hb9⟩
      · have r1 : (1 : Int) < (N : Int) := by omega
        have r3 : ((N : Int) == 1) = false := by simp; omega
        cases early with
        | true =>
          have hp1 : (ctA N true)[0]? = some pt0 := by rw [ctA_get (by omega)]; first | (simp; done) | (simp; omega)
          obtain ⟨gg, off, e', _, d0, _⟩ := atPt (hs2.qa.row encPt_len) hp1
          simp only [Option.some.injEq, Addr.mk.injEq, and_true] at e'
          obtain ⟨rfl, rfl⟩ := e'
          rw [Nat.zero_add, Nat.zero_mul] at d0
          have d0' : w3.cell? ⟨gq, 0, none⟩ = some (.int .u16 2) := d0
          clear d0
          have fz := hs2.qa.thaw
          obtain ⟨c0, c1, c2, c3, c4, c5⟩ := cells6 hs2.box
          have hs3 := hs2.flag hp1 258
          rw [show (ctA N true).set 0 { pt0 with f := 258 } = ctL N true true by unfold ctL; rw [if_pos (by simp; omega)]; rfl, Nat.zero_mul] at hs3
          go_upto_region 12 with fail
          clear c0 c1 c2 c3 c4 c5 d0' fz hs2 hp1
          generalize w3.setCell ⟨gq, 0, none⟩ (.int .u16 258) = w4 at hs3 ⊢
          have hs2 := hs3
          clear hs3
          by_cases h200 : N ≤ 200
          · have r2 : (N : Int) ≤ 200 := by omega
            obtain ⟨c0, c1, c2, c3, c4, c5⟩ := cells6 hs2.box
            go_upto_region 13 with fail
            refine counts_tail bx _ N qc (ctL N true true) PA pn pc pr false w _ hs2 (by rw [ct_right N true true pr (by omega), hpl]; first | rfl | (simp [h1]) | (simp [h1]; omega)) (by omega) (by omega) (ctL_ok N true true) HBt.out ?_
            intro v78 v79 v80 v81 v82 v83 v84 v85 v86 v87 v88 v89 v90 v91 v92 v93 v94 v95 v96 v97 v98 v99 v100 v101 v102 w9 hb9
            go_wp2
            go_ret
            exact ⟨rfl, hb9⟩
          · have r2 : ¬ (N : Int) ≤ 200 := by omega
            obtain ⟨c0, c1, c2, c3, c4, c5⟩ := cells6 hs2.box
            go_upto_region 13 with fail
            refine counts_tail bx _ N qc (ctL N true true) PA pn pc pr false w _ hs2 (by rw [ct_right N true true pr (by omega), hpl]; first | rfl | (simp [h200]) | (simp [h200]; omega)) (by omega) (by omega) (ctL_ok N true true) HBt.out ?_
            intro v78 v79 v80 v81 v82 v83 v84 v85 v86 v87 v88 v89 v90 v91 v92 v93 v94 v95 v96 v97 v98 v99 v100 v101 v102 w9 hb9
            go_wp2
            go_ret
            exact ⟨rfl, hb9⟩
        | false =>
          rw [show ctA N true = ctL N true false by unfold ctL; simp] at hs2
          by_cases h200 : N ≤ 200
          · have r2 : (N : Int) ≤ 200 := by omega
            obtain ⟨c0, c1, c2, c3, c4, c5⟩ := cells6 hs2.box
            go_upto_region 13 with fail
            refine counts_tail bx _ N qc (ctL N true false) PA pn pc pr true w _ hs2 (by rw [ct_right N true false pr (by omega), hpl]; first | rfl | (simp [h200, hN1]) | (simp [h200, hN1]; omega)) (by omega) (by omega) (ctL_ok N true false) HBt.out ?_
            intro v78 v79 v80 v81 v82 v83 v84 v85 v86 v87 v88 v89 v90 v91 v92 v93 v94 v95 v96 v97 v98 v99 v100 v101 v102 w9 hb9
            go_wp2
            go_ret
            exact ⟨rfl, hb9⟩
          · have r2 : ¬ (N : Int) ≤ 200 := by omega
            obtain ⟨c0, c1, c2, c3, c4, c5⟩ := cells6 hs2.box
            go_upto_region 13 with fail
            refine counts_tail bx _ N qc (ctL N true false) PA pn pc pr false w _ hs2 (by rw [ct_right N true false pr (by omega), hpl]; first | rfl | (simp [h200]) | (simp [h200]; omega)) (by omega) (by omega) (ctL_ok N true false) HBt.out ?_
            intro v78 v79 v80 v81 v82 v83 v84 v85 v86 v87 v88 v89 v90 v91 v92 v93 v94 v95 v96 v97 v98 v99 v100 v101 v102 w9 hb9
            go_wp2
            go_ret
            exact ⟨rfl, hb9⟩
    | false =>
      rw [show List.replicate N pt0 = ctA N false by unfold ctA; simp] at hs2
      by_cases h1 : N = 1
      · have r1 : ¬ (1 : Int) < (N : Int) := by omega
        have r2 : (N : Int) ≤ 200 := by omega
        have r3 : ((N : Int) == 1) = true := by simp [h1]
        rw [show ctA N false = ctL N false early by unfold ctL; rw [if_neg (by simp; omega)]] at hs2
        by_cases hp0 : pn = 0
        · have r4 : ((pn : Int) == 0) = true := by simp [hp0]
          obtain ⟨c0, c1, c2, c3, c4, c5⟩ := cells6 hs2.box
          go_upto_region 13 with fail
          refine counts_tail bx _ N qc (ctL N false early) PA pn pc pr true w _ hs2 (by rw [ct_right N false early pr (by omega), hpl]; first | rfl | (simp [h1, hp0]) | (simp [h1, hp0]; omega)) (by omega) (by omega) (ctL_ok N false early) HBt.out ?_
          intro v78 v79 v80 v81 v82 v83 v84 v85 v86 v87 v88 v89 v90 v91 v92 v93 v94 v95 v96 v97 v98 v99 v100 v101 v102 w9 hb9
          go_wp2
          go_ret
          exact ⟨rfl, hb9⟩
        · have r4 : ((pn : Int) == 0) = false := by simp [hp0]
          obtain ⟨c0, c1, c2, c3, c4, c5⟩ := cells6 hs2.box
          go_upto_region 13 with fail
          refine counts_tail bx _ N qc (ctL N false early) PA pn pc pr false w _ hs2 (by rw [ct_right N false early pr (by omega), hpl]; first | rfl | (simp [h1, hp0]) | (simp [h1, hp0]; omega)) (by omega) (by omega) (ctL_ok N false early) HBt.out ?_
          intro v78 v79 v80 v81 v82 v83 v84 v85 v86 v87 v88 v89 v90 v91 v92 v93 v94 v95 v96 v97 v98 v99 v100 v101 v102 w9 hb9
          go_wp2
          go_ret
          exact ⟨rfl, hb9⟩
      · have r1 : (1 : Int) < (N : Int) := by omega
        have r3 : ((N : Int) == 1) = false := by simp; omega
        cases early with
        | true =>
          have hp1 : (ctA N false)[0]? = some pt0 := by rw [ctA_get (by omega)]; first | (simp; done) | (simp; omega)
          obtain ⟨gg, off, e', _, d0, _⟩ := atPt (hs2.qa.row encPt_len) hp1
          simp only [Option.some.injEq, Addr.mk.injEq, and_true] at e'
          obtain ⟨rfl, rfl⟩ := e'
          rw [Nat.zero_add, Nat.zero_mul] at d0
          have d0' : w2.cell? ⟨gq, 0, none⟩ = some (.int .u16 2) := d0
          clear d0
          have fz := hs2.qa.thaw
          obtain ⟨c0, c1, c2, c3, c4, c5⟩ := cells6 hs2.box
          have hs3 := hs2.flag hp1 258
          rw [show (ctA N false).set 0 { pt0 with f := 258 } = ctL N false true by unfold ctL; rw [if_pos (by simp; omega)]; rfl, Nat.zero_mul] at hs3
          go_upto_region 12 with fail
          clear c0 c1 c2 c3 c4 c5 d0' fz hs2 hp1
          generalize w2.setCell ⟨gq, 0, none⟩ (.int .u16 258) = w4 at hs3 ⊢
          have hs2 := hs3
          clear hs3
          by_cases h200 : N ≤ 200
          · have r2 : (N : Int) ≤ 200 := by omega
            obtain ⟨c0, c1, c2, c3, c4, c5⟩ := cells6 hs2.box
            go_upto_region 13 with fail
            refine counts_tail bx _ N qc (ctL N false true) PA pn pc pr false w _ hs2 (by rw [ct_right N false true pr (by omega), hpl]; first | rfl | (simp [h1]) | (simp [h1]; omega)) (by omega) (by omega) (ctL_ok N false true) HBt.out ?_
            intro v78 v79 v80 v81 v82 v83 v84 v85 v86 v87 v88 v89 v90 v91 v92 v93 v94 v95 v96 v97 v98 v99 v100 v101 v102 w9 hb9
            go_wp2
            go_ret
            exact ⟨rfl, hb9⟩
          · have r2 : ¬ (N : Int) ≤ 200 := by omega
            obtain ⟨c0, c1, c2, c3, c4, c5⟩ := cells6 hs2.box
            go_upto_region 13 with fail
            refine counts_tail bx _ N qc (ctL N false true) PA pn pc pr false w _ hs2 (by rw [ct_right N false true pr (by omega), hpl]; first | rfl | (simp [h200]) | (simp [h200]; omega)) (by omega) (by omega) (ctL_ok N false true) HBt.out ?_
            intro v78 v79 v80 v81 v82 v83 v84 v85 v86 v87 v88 v89 v90 v91 v92 v93 v94 v95 v96 v97 v98 v99 v100 v101 v102 w9 hb9
            go_wp2
            go_ret
            exact ⟨rfl, hb9⟩
        | false =>
          rw [show ctA N false = ctL N false false by unfold ctL; simp] at hs2
          by_cases h200 : N ≤ 200
          · have r2 : (N : Int) ≤ 200 := by omega
            by_cases hp0 : pn = 0
            · have r4 : ((pn : Int) == 0) = true := by simp [hp0]
              obtain ⟨c0, c1, c2, c3, c4, c5⟩ := cells6 hs2.box
              go_upto_region 13 with fail
              refine counts_tail bx _ N qc (ctL N false false) PA pn pc pr true w _ hs2 (by rw [ct_right N false false pr (by omega), hpl]; first | rfl | (simp [h200, hN1, hp0]) | (simp [h200, hN1, hp0]; omega)) (by omega) (by omega) (ctL_ok N false false) HBt.out ?_
              intro v78 v79 v80 v81 v82 v83 v84 v85 v86 v87 v88 v89 v90 v91 v92 v93 v94 v95 v96 v97 v98 v99 v100 v101 v102 w9 hb9
              go_wp2
              go_ret
              exact ⟨rfl, hb9⟩
            · have r4 : ((pn : Int) == 0) = false := by simp [hp0]
              obtain ⟨c0, c1, c2, c3, c4, c5⟩ := cells6 hs2.box
              go_upto_region 13 with fail
              refine counts_tail bx _ N qc (ctL N false false) PA pn pc pr false w _ hs2 (by rw [ct_right N false false pr (by omega), hpl]; first | rfl | (simp [hp0]) | (simp [hp0]; omega)) (by omega) (by omega) (ctL_ok N false false) HBt.out ?_
              intro v78 v79 v80 v81 v82 v83 v84 v85 v86 v87 v88 v89 v90 v91 v92 v93 v94 v95 v96 v97 v98 v99 v100 v101 v102 w9 hb9
              go_wp2
              go_ret
              exact ⟨rfl, hb9⟩
          · have r2 : ¬ (N : Int) ≤ 200 := by omega
            obtain ⟨c0, c1, c2, c3, c4, c5⟩ := cells6 hs2.box
            go_upto_region 13 with fail
            refine counts_tail bx _ N qc (ctL N false false) PA pn pc pr false w _ hs2 (by rw [ct_right N false false pr (by omega), hpl]; first | rfl | (simp [h200]) | (simp [h200]; omega)) (by omega) (by omega) (ctL_ok N false false) HBt.out ?_
            intro v78 v79 v80 v81 v82 v83 v84 v85 v86 v87 v88 v89 v90 v91 v92 v93 v94 v95 v96 v97 v98 v99 v100 v101 v102 w9 hb9
            go_wp2
            go_ret
            exact ⟨rfl, hb9⟩

end Go.Proofs.Ytlcnonhebppeiaa
