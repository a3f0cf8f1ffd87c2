/- The law SimpleContours. -/
import Derived.Test.YtlcnonhebppeiaaSimW2
import Derived.Test.YtlcnonhebppeiaaSimN
import Derived.Test.YtlcnonhebppeiaaSimC
namespace Go.Proofs.Ytlcnonhebppeiaa
open Go.RowKit
set_option linter.unusedVariables false

theorem segF_end {ps : List Sp} {es : List Int} (hc : ps.length = cntE es) : segF es es.length = ps.length := by
  rw [hc]
  unfold segF cntE
  split
  · rfl
  · rfl
theorem seg_len {ps : List Sp} {es : List Int} {i : Nat} (h : segT es i ≤ ps.length) : (seg ps es i).length = segT es i - segF es i := by
  unfold seg
  rw [List.length_drop, List.length_take]
  omega
theorem seg_get {ps : List Sp} {es : List Int} {i j : Nat} (h : segT es i ≤ ps.length) (hj : j < segT es i - segF es i) {p : Sp} (hp : ps[segF es i + j]? = some p) : (seg ps es i)[j]? = some p := by
  unfold seg
  rw [List.getElem?_drop, List.getElem?_take_of_lt (by omega)]
  exact hp

set_option maxRecDepth 100000 in
set_option maxHeartbeats 8000000 in
theorem law_SimpleContours (QA : Option Addr) (q qc : Nat) (ps : List Sp) (SA : Option Addr) (mn mc : Nat) (ss : List Int) (w : World)
    (hq : RowS encSp 3 w QA q ps) (hps : ∀ p ∈ ps, Sp.ok p) (hqc : q ≤ qc) (hqm : q ≤ 9223372036854775807) (hs : Row w SA mn (cellsOf .u8 ss)) (hsB : Bytes ss) (hsm : mn ≤ 9223372036854775807) :
    Calls Try.prog 6 #[.slice QA q qc, .slice SA mn mc] w (True_ w) := by
  have HAw := Lib.hid (awake12_any w)
  have HM0 : Hid (∀ W, Below w.heap.size w W → Calls Try.prog 16 #[.agg #[.int .i16 0, .int .i16 0, .int .i16 0, .int .i16 0], .slice QA q qc, .slice SA mn mc, .slice none 0 0] W (RetMade W [0, 0, 0, 0] ps [])) := fun W hW =>
    made_any 0 0 0 0 QA q qc ps SA mn mc ss none 0 0 [] W (by simp) (hq.below hW) hps hqc hqm (hs.below hW) hsB hsm (Row.empty _ _) (fun x hx => by cases hx) (by omega)
  clear hq hps hs hsB
  go_enter Try.func6, Try.ntmps6
  go_wp2_with fail
  with_reducible refine HAw.out.mono ?_
  rintro e w0 ⟨rfl, hb0⟩
  have HM := Lib.hid (HM0.out w0 hb0)
  clear HM0 HAw
  go_wp2_with fail
  with_reducible refine HM.out.mono ?_
  rintro e w1 ⟨v, rfl, hrows, hok, hfew, -, -, -, h41, h300, -, hb1, hcap⟩
  have hbw1 := hb0.trans (hb1.mono hb0.size)
  have hA := (Below.refl w1.heap.size w1).alloc (Nat.le_refl _) (.cells v.cells 29)
  have hk := heap_alloc_new w1 (.cells v.cells 29)
  have hnew := heap_alloc_new w1 (.cells glZ 29)
  have hrowsA := hrows.below hA
  have HC : Hid (Calls Try.prog 22 #[v.val] (w1.alloc (.cells v.cells 29)) (RetCt (w1.alloc (.cells v.cells 29)) v.g)) := by
    cases hR : oRight v.g
    · exact ocont_no v _ hrowsA hfew hok hR
    · exact ocont_yes v _ hrowsA hfew hok hR hcap
  have HR : Hid (∀ W, Below (w1.alloc (.cells v.cells 29)).heap.size (w1.alloc (.cells v.cells 29)) W → Calls Try.prog 21 #[v.val] W (Ret W (.bool (oRight v.g)))) := fun W hW => oright_any v W (hrowsA.below hW) hfew hok
  have HOk := Lib.hid hok
  have hbwA := hbw1.trans (hA.mono hbw1.size)
  have HRows := Lib.hid hrowsA
  clear HM hrows hok hfew hb0 hb1 hbw1 hA hrowsA
  unfold glZ at hnew
  unfold GlV.val at *
  unfold GlV.cells at *
  obtain ⟨⟨z0, z1, z2, z3, es, pr, gs⟩, EA, en, ec, PA, pn, pc, TA, tn, tc⟩ := v
  simp only at *
  go_wp2_with (with_reducible refine wpList_store_row rfl 29 (.tmp 5) (.tmp 18) rfl w1.heap.size #[.int .i16 z0, .int .i16 z1, .int .i16 z2, .int .i16 z3, .slice EA en ec, .slice PA pn pc, .slice TA tn tc] rfl rfl 29 #[.int .i16 0, .int .i16 0, .int .i16 0, .int .i16 0, .slice none 0 0, .slice none 0 0, .slice none 0 0] hnew (gl7 _ _ _ _ _ _ _ _ _ _ _ _ _).1 (gl7 _ _ _ _ _ _ _ _ _ _ _ _ _).2.1 (gl7 _ _ _ _ _ _ _ _ _ _ _ _ _).2.2 ?_; rw [World.setRow_alloc_new])
  generalize w1.alloc (.cells #[.int .i16 z0, .int .i16 z1, .int .i16 z2, .int .i16 z3, .slice EA en ec, .slice PA pn pc, .slice TA tn tc] 29) = V at *
  with_reducible refine HC.out.mono ?_
  rintro e w2 ⟨hb2, ⟨hR, rfl⟩ | ⟨hR, gp, L, rfl, hL, hin⟩⟩
  · have hk2 := kept_block hk hb2
    obtain ⟨b0, b1, b2, b3, b4, b5, b6⟩ := cells7 hk2
    have HR2 := Lib.hid (HR.out w2 hb2)
    rw [hR] at HR2
    have hbw2 := hbwA.trans (hb2.mono hbwA.size)
    clear HR HC hR hk hk2 hnew hb2
    go_wp2_with fail
    with_reducible refine HR2.out.mono ?_
    rintro e w3 ⟨rfl, hb3⟩
    have hbw3 := hbw2.trans (hb3.mono hbw2.size)
    go_wp2
    go_ret
    exact ⟨rfl, hbw3⟩
  · have hk2 := kept_block hk hb2
    obtain ⟨b0, b1, b2, b3, b4, b5, b6⟩ := cells7 hk2
    have HR2 := Lib.hid (HR.out w2 hb2)
    rw [hR] at HR2
    have HRight := Lib.hid hR
    have hbw2 := hbwA.trans (hb2.mono hbwA.size)
    have hrows2 := HRows.out.below hb2
    have HE : Hid (es.length = en) := HRows.out.es.len
    have HS : Hid (gs.length = tn) := HRows.out.ps.len
    rw [show (Gl.mk z0 z1 z2 z3 es pr gs).es.length = en from HE.out] at hL hin ⊢
    clear HR HC hR hk hnew hb2 HRows
    go_wp2_with fail
    with_reducible refine HR2.out.mono ?_
    rintro e w3 ⟨rfl, hb3⟩
    have hbw3 := hbw2.trans (hb3.mono hbw2.size)
    have hk3 := kept_block hk2 hb3
    have hrows3 := hrows2.below hb3
    have HL := Lib.hid (hL.below hb3)
    have HIn : Hid (∀ i, i < en → ∃ h m, L[i]? = some (some ⟨h, 0, none⟩, m, m) ∧ RowS encRp 3 w3 (some ⟨h, 0, none⟩) m (seg gs es i)) := fun i hi => by
      obtain ⟨h, m, a, c⟩ := hin i hi
      exact ⟨h, m, a, c.below hb3⟩
    clear b0 b1 b2 b3 b4 b5 b6 hk2 hrows2 hb3 hbw2 hL hin HR2
    obtain ⟨b0, b1, b2, b3, b4, b5, b6⟩ := cells7 hk3
    obtain ⟨⟨_, _, hrise, hcnt⟩, _, _⟩ := oRight_parts HRight.out
    have HSeg : Hid (∀ i, i < en → segF es i < segT es i ∧ segT es i ≤ tn) := fun i hi => by
      have := seg_bounds HOk.out.es hrise hcnt (i := i) (by have h := HE.out; show i < es.length; omega)
      rw [show (Gl.mk z0 z1 z2 z3 es pr gs).ps.length = tn from HS.out] at this
      exact this
    have HEnd : Hid (segF es en = tn) := by
      have := segF_end hcnt
      rw [show (Gl.mk z0 z1 z2 z3 es pr gs).es.length = en from HE.out, show (Gl.mk z0 z1 z2 z3 es pr gs).ps.length = tn from HS.out] at this
      exact this
    have HEs : Hid (∀ x ∈ es, 0 ≤ x ∧ x < 65536) := HOk.out.es
    have HPs : Hid (∀ p ∈ gs, (-32768 ≤ p.1 ∧ p.1 ≤ 32767) ∧ (-32768 ≤ p.2.1 ∧ p.2.1 ≤ 32767)) := HOk.out.ps
    have HEr : Hid (Row w3 EA en (cellsOf .u16 es)) := hrows3.es
    have HPr : Hid (RowS encSp 3 w3 TA tn gs) := hrows3.ps
    have Hk3 := Lib.hid hk3
    have hLl := HL.out.len
    clear hrise hcnt hrows3 hk3 HRight HOk
    go_wp2_with fail
    clear b0 b1 b2 b3 b4 b5 b6
    have hbl := Below.refl w3.heap.size w3
    go_loopw [7, 35] (fun at' i' wr => ∃ k : Nat, k ≤ en ∧ i' = .int .i64 k ∧ at' = .int .i64 ((segF es k : Nat) : Int) ∧ Below w3.heap.size w3 wr) (fun _ i' _ => en - (intOf i').toNat)
    case atStart => exact ⟨0, Nat.zero_le _, rfl, rfl, hbl⟩
    case round =>
      clear hbl
      obtain ⟨k, hk, rfl, rfl, hbl⟩ := hrel
      by_cases hlt : k < en
      · obtain ⟨h, m, hLk, hrk⟩ := HIn.out k hlt
        obtain ⟨g0, o0, e', _, y0⟩ := atSl (HL.out.below hbl) hLk
        simp only [Option.some.injEq, Addr.mk.injEq, and_true] at e'
        obtain ⟨rfl, rfl⟩ := e'
        rw [Nat.zero_add] at y0
        obtain ⟨s0, s1⟩ := HSeg.out k hlt
        have hml : m = segT es k - segF es k := by rw [← seg_len (ps := gs) (by rw [HS.out]; exact s1)]; exact hrk.len.symm
        have Hrk := Lib.hid hrk
        have Hml := Lib.hid hml
        have hm3 : m ≤ 300 := by omega
        clear hLk hrk hml
        go_wp2_with fail
        clear y0
        generalize hF : segF es k = F at *
        have HF := Lib.hid hF
        clear hF
        go_loopw [7, 42] (fun at' j' wr' => ∃ j : Nat, j ≤ m ∧ j' = .int .i64 j ∧ at' = .int .i64 ((F + j : Nat) : Int) ∧ Below w3.heap.size w3 wr') (fun _ j' _ => m - (intOf j').toNat)
        case atStart => exact ⟨0, Nat.zero_le _, rfl, rfl, hbl⟩
        case round =>
          clear hbl
          obtain ⟨j, hj, rfl, rfl, hbl⟩ := hrel
          by_cases hjl : j < m
          · have hFj : F + j < tn := by have := Hml.out; omega
            obtain ⟨p, hp⟩ : ∃ p, gs[F + j]? = some p := ⟨gs[F + j]'(by have := HS.out; omega), List.getElem?_eq_getElem (by have := HS.out; omega)⟩
            obtain ⟨⟨u0, u1⟩, ⟨u2, u3⟩⟩ := HPs.out p (List.mem_of_getElem? hp)
            have hsp : (seg gs es k)[j]? = some p := seg_get (by rw [HS.out]; omega) (by have := Hml.out; rw [HF.out]; omega) (by rw [HF.out]; exact hp)
            obtain ⟨g1, o1, e1, hg1, q0, q1, q2⟩ := atRp (Hrk.out.below hbl) hsp
            simp only [Option.some.injEq, Addr.mk.injEq, and_true] at e1
            obtain ⟨rfl, rfl⟩ := e1
            rw [Nat.zero_add] at q0 q1 q2
            obtain ⟨g2, o2, rfl, hg2, r0, r1, r2⟩ := atSp (HPr.out.below hbl) hp
            obtain ⟨px, py, po⟩ := p
            simp only at q0 q1 q2 r0 r1 r2 u0 u1 u2 u3
            have hkr := kept_block Hk3.out hbl
            have c6 : _ = some (Value.slice (some ⟨g2, o2, none⟩) tn tc) := cell_of_row _ _ 6 _ _ _ hkr
            have hbr := lt_of_block hkr
            have hA := (Below.refl wr.heap.size wr).alloc (Nat.le_refl _) (.cells #[.int .i64 px, .int .i64 py, .bool po] 58)
            have hA2 := hA.alloc hA.size (.cells #[.int .i16 px, .int .i16 py, .bool po] 60)
            have hbl2 := hbl.trans (hA2.mono hbl.size)
            clear hp hsp hkr hA hA2
            go_wp2_with fail
            go_roundw
            case rel => exact ⟨j + 1, by omega, by go_num, by go_num, hbl2⟩
            case measure => simp [intOf]; omega
          · obtain rfl : j = m := by omega
            obtain ⟨x, hx⟩ := get_some (zs := es) (k := k) (by have := HE.out; omega)
            obtain ⟨u0, u1⟩ := HEs.out x (List.mem_of_getElem? hx)
            obtain ⟨g2, o2, rfl, hg2, hc2⟩ := (HEr.out.below hbl).at (cellsOf_get (k := .u16) hx)
            have hxT : x + 1 = ((F + j : Nat) : Int) := by
              have h1 : segT es k = x.toNat + 1 := by unfold segT; rw [show es.getD k 0 = x by simp [hx]]
              have := Hml.out
              omega
            have hkr := kept_block Hk3.out hbl
            have c4 : _ = some (Value.slice (some ⟨g2, o2, none⟩) en ec) := cell_of_row _ _ 4 _ _ _ hkr
            have hFn : Hid (segF es (k + 1) = F + j) := by
              show _ = _
              rw [segF_succ]
              have h1 : segT es k = x.toNat + 1 := by unfold segT; rw [show es.getD k 0 = x by simp [hx]]
              omega
            clear hx hkr
            generalize F + j = t at *
            go_wp2_with fail
            go_roundw
            case rel => exact ⟨k + 1, by omega, by go_num, by rw [hFn.out], hbl⟩
            case measure => simp [intOf]; omega
      · obtain rfl : k = en := by omega
        have hkr := kept_block Hk3.out hbl
        obtain ⟨b0, b1, b2, b3, b4, b5, b6⟩ := cells7 hkr
        have hbf := hbw3.trans (hbl.mono hbw3.size)
        rw [HEnd.out]
        clear hkr
        go_wp2
        go_ret
        exact ⟨rfl, hbf⟩
end Go.Proofs.Ytlcnonhebppeiaa
