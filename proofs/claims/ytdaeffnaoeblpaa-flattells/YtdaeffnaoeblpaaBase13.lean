/- What the laws of this seat lean on: FlB ComI SimC SimG6 FlC DotAll FlD. -/
import Derived.Lib.MinMax
import Derived.StillTailTactics
import Derived.Test.YtdaeffnaoeblpaaBase1
import Derived.Test.YtdaeffnaoeblpaaBase2
import Derived.Test.YtdaeffnaoeblpaaBase3
import Derived.Test.YtdaeffnaoeblpaaBase5
import Derived.Test.YtdaeffnaoeblpaaBase8
import Derived.Test.YtdaeffnaoeblpaaBase11
import Derived.Test.YtdaeffnaoeblpaaBase12

/- flat: the document's kind of a glyph's bytes, as a contract over this seat's translation. -/
namespace Go.Proofs.Ytdaeffnaoeblpaa
open Go.RowKit
set_option linter.unusedVariables false
set_option linter.unusedSimpArgs false

/-- What a glyph's bytes are: none, points, parts, or no glyph's. -/
def kindZ (zs : List Int) : Int := if zs.length = 0 then 0 else if 32767 < n2v zs 0 then (if cOk zs && fillB (zs.drop (cgEnd zs 2)) then 2 else -1) else match oParse zs with
  | some (g, a) => if fillB (zs.drop a) then 1 else -1
  | none => -1
theorem row_dropF {w : World} {A : Option Addr} {n : Nat} {zs : List Int} (hr : Row w A n (cellsOf .u8 zs)) (k : Nat) : Row w (A.map (·.add k)) (n - k) (cellsOf .u8 (zs.drop k)) := by
  have h := hr.drop k
  rwa [cellsOf_drop] at h
theorem n2v_short {zs : List Int} (h : 32767 < n2v zs 0) : n2b zs 0 = true := by
  unfold n2v at h
  unfold n2b
  match zs, h with
  | [], h => simp at h
  | [_], h => simp at h
  | _ :: _ :: _, _ => simp

set_option maxRecDepth 1000000 in
set_option maxHeartbeats 4000000 in
theorem rkind14_any (A : Option Addr) (n c : Nat) (zs : List Int) (w : World) (hr : Row w A n (cellsOf .u8 zs)) (hB : Bytes zs) (hn : n ≤ 100000) (hc : n ≤ c) : Calls Try.prog 71 #[.slice A n c] w (Ret w (.int .i64 (kindZ zs))) := by
  have hl : zs.length = n := by have := hr.len; simpa [cellsOf] using this
  have HL := Lib.hid hl
  have HRet : Hid (∀ k w', kindZ zs = k → Below w.heap.size w w' → Ret w (.int .i64 (kindZ zs)) (.returned (.int .i64 k)) w') := fun k w' h1 h2 => ⟨by rw [h1], h2⟩
  have HN2 : Hid (Calls Try.prog 98 #[.slice A n c, .int .i64 0] w (Quiet w (.tuple #[.int .i64 (n2v zs 0), .bool (n2b zs 0)]))) := n2_any A n c zs 0 w hr hB (by omega) (by omega)
  have HR := Lib.hid hr
  have HB := Lib.hid hB
  by_cases h0 : n = 0
  · subst h0
    have HK : Hid (kindZ zs = 0) := by show _ = _; unfold kindZ; rw [if_pos hl]
    clear hr hB hl
    go_enter Try.func71, Try.ntmps71
    go_wp2
    go_ret
    exact HRet.out _ _ HK.out (Below.refl _ _)
  · have h0' : ¬ ((n : Int) = 0) := by omega
    clear hr hB hl
    go_enter Try.func71, Try.ntmps71
    go_wp2_with fail
    with_reducible refine HN2.out.mono ?_
    rintro e w1 ⟨rfl, q1, hw1⟩
    have hb1 : Below w.heap.size w w1 := by rw [hw1]; exact below_drewN (Below.refl _ _) q1
    clear hw1 HN2
    by_cases hk : 32767 < n2v zs 0
    · have hk2 := n2v_short hk
      have HP := Lib.hid (rparse13_any A n c zs w1 (HR.out.below hb1) HB.out hn hc)
      have HKd : Hid (kindZ zs = (if cOk zs && fillB (zs.drop (cgEnd zs 2)) then 2 else -1)) := by show _ = _; unfold kindZ; rw [if_neg (by rw [HL.out]; exact h0), if_pos hk]
      rw [hk2]
      clear hk2
      go_wp2_with fail
      with_reducible refine HP.out.mono ?_
      rintro e w2 ⟨hb2, hway⟩
      have hb12 := hb1.trans (hb2.mono hb1.size)
      rcases hway with ⟨hno, rfl⟩ | ⟨hok, v, rfl, hvr, hvg, hvo, hvq, hvp⟩
      · have HK : Hid (kindZ zs = -1) := by show _ = _; rw [HKd.out, hno]; rfl
        have hA := (Below.refl w2.heap.size w2).alloc (Nat.le_refl _) (.cells rz6 134)
        unfold rz6 at *
        clear HP hno
        go_wp2
        go_ret
        exact HRet.out _ _ HK.out (hb12.trans (hA.mono hb12.size))
      · obtain ⟨m, hm⟩ : ∃ m, cgEnd zs 2 = m := ⟨_, rfl⟩
        have hmn : m ≤ n := by
          have h := hok
          unfold cOk at h
          simp only [Bool.and_eq_true, decide_eq_true_eq] at h
          rw [← hm, ← HL.out]
          exact h.1.2
        have HYF : Hid (fillB (zs.drop m) = true → kindZ zs = 2) := fun h => by rw [HKd.out, hok, hm, h]; rfl
        have HNF : Hid (fillB (zs.drop m) = false → kindZ zs = -1) := fun h => by rw [HKd.out, hok, hm, h]; rfl
        rw [hm]
        obtain ⟨⟨y0, y1, y2, y3, ps, pt⟩, QA, q, qc, PA, pn, pc⟩ := v
        unfold RcV.val RcV.cells
        simp only
        clear HP hok hvr hvg hvo hvq hvp hm HKd
        have hA := (Below.refl w2.heap.size w2).alloc (Nat.le_refl _) (.cells #[.int .i64 y0, .int .i64 y1, .int .i64 y2, .int .i64 y3, .slice QA q qc, .slice PA pn pc] 134)
        have hb13 := hb12.trans (hA.mono hb12.size)
        have hr3 := HR.out.below hb13
        have hmz : (0 : Int) ≤ (m : Int) := by omega
        have hmi : (m : Int) ≤ (n : Int) := by omega
        have hmc : (m : Int) ≤ (c : Int) := by omega
        by_cases hcm : c = m
        · obtain rfl : n = m := by omega
          subst hcm
          have hr4 : Row (w2.alloc (.cells #[.int .i64 y0, .int .i64 y1, .int .i64 y2, .int .i64 y3, .slice QA q qc, .slice PA pn pc] 134)) A 0 (cellsOf .u8 (zs.drop c)) := by
            rw [List.drop_of_length_le (by have := HL.out; omega)]
            exact ⟨rfl, fun h => absurd h (by omega)⟩
          have HNo := Lib.hid (rnoughts_any A 0 0 (zs.drop c) _ hr4 (fun x hx => HB.out x (List.mem_of_mem_drop hx)) (by omega))
          clear hr3 hr4 hA
          go_wp2_with fail
          with_reducible refine HNo.out.mono ?_
          rintro e w4 ⟨rfl, rfl⟩
          cases hf : fillB (zs.drop c)
          · have HK := Lib.hid (HNF.out hf)
            clear HNo hf
            go_wp2
            go_ret
            exact HRet.out _ _ HK.out hb13
          · have HK := Lib.hid (HYF.out hf)
            clear HNo hf
            go_wp2
            go_ret
            exact HRet.out _ _ HK.out hb13
        · have hcm2 : ¬ m = c := fun h => hcm h.symm
          have hr4 := row_dropF hr3 m
          have HNo := Lib.hid (rnoughts_any (A.map (·.add m)) (n - m) (c - m) (zs.drop m) _ hr4 (fun x hx => HB.out x (List.mem_of_mem_drop hx)) (by omega))
          clear hr3 hr4 hA
          go_wp2_with fail
          with_reducible refine HNo.out.mono ?_
          rintro e w4 ⟨rfl, rfl⟩
          cases hf : fillB (zs.drop m)
          · have HK := Lib.hid (HNF.out hf)
            clear HNo hf
            go_wp2
            go_ret
            exact HRet.out _ _ HK.out hb13
          · have HK := Lib.hid (HYF.out hf)
            clear HNo hf
            go_wp2
            go_ret
            exact HRet.out _ _ HK.out hb13
    · have HP := Lib.hid (rparse12_any A n c zs w1 (HR.out.below hb1) HB.out hn)
      have HKd : Hid (kindZ zs = (match oParse zs with | some (g, a) => if fillB (zs.drop a) then 1 else -1 | none => -1)) := by show _ = _; unfold kindZ; rw [if_neg (by rw [HL.out]; exact h0), if_neg hk]
      have hk0 : ¬ (32767 < n2v zs 0) := hk
      cases hb : n2b zs 0
      all_goals
        go_wp2_with fail
        with_reducible refine HP.out.mono ?_
        rintro e w2 ⟨hb2, hway⟩
        have hb12 := hb1.trans (hb2.mono hb1.size)
        rcases hway with ⟨hno, rfl⟩ | ⟨g, m, v, hsome, rfl, hvr, hvg, _⟩
        · have HK : Hid (kindZ zs = -1) := by show _ = _; rw [HKd.out, hno]
          have hA := (Below.refl w2.heap.size w2).alloc (Nat.le_refl _) (.cells rg0 179)
          unfold rg0 at *
          clear HP hno
          go_wp2
          go_ret
          exact HRet.out _ _ HK.out (hb12.trans (hA.mono hb12.size))
        · have hmn : m ≤ n := by
            have h := (oParse_ext (ms := []) hsome).2
            rw [HL.out] at h
            exact h
          have HYF : Hid (fillB (zs.drop m) = true → kindZ zs = 1) := fun h => by rw [HKd.out, hsome]; simp only [h, if_true]
          have HNF : Hid (fillB (zs.drop m) = false → kindZ zs = -1) := fun h => by rw [HKd.out, hsome]; simp only [h]; rfl
          obtain ⟨⟨y0, y1, y2, y3, es, pt, ps⟩, IA, ni, ic, PA, pn, pc, QA, q, qc⟩ := v
          unfold RlV.val RlV.cells
          simp only
          clear HP hsome hvr hvg HKd
          have hA := (Below.refl w2.heap.size w2).alloc (Nat.le_refl _) (.cells #[.int .i64 y0, .int .i64 y1, .int .i64 y2, .int .i64 y3, .slice IA ni ic, .slice PA pn pc, .slice QA q qc] 179)
          have hb13 := hb12.trans (hA.mono hb12.size)
          have hr3 := HR.out.below hb13
          have hmz : (0 : Int) ≤ (m : Int) := by omega
          have hmi : (m : Int) ≤ (n : Int) := by omega
          have hmc : (m : Int) ≤ (c : Int) := by omega
          by_cases hcm : c = m
          · obtain rfl : n = m := by omega
            subst hcm
            have hr4 : Row (w2.alloc (.cells #[.int .i64 y0, .int .i64 y1, .int .i64 y2, .int .i64 y3, .slice IA ni ic, .slice PA pn pc, .slice QA q qc] 179)) A 0 (cellsOf .u8 (zs.drop c)) := by
              rw [List.drop_of_length_le (by have := HL.out; omega)]
              exact ⟨rfl, fun h => absurd h (by omega)⟩
            have HNo := Lib.hid (rnoughts_any A 0 0 (zs.drop c) _ hr4 (fun x hx => HB.out x (List.mem_of_mem_drop hx)) (by omega))
            clear hr3 hr4 hA
            go_wp2_with fail
            with_reducible refine HNo.out.mono ?_
            rintro e w4 ⟨rfl, rfl⟩
            cases hf : fillB (zs.drop c)
            · have HK := Lib.hid (HNF.out hf)
              clear HNo hf
              go_wp2
              go_ret
              exact HRet.out _ _ HK.out hb13
            · have HK := Lib.hid (HYF.out hf)
              clear HNo hf
              go_wp2
              go_ret
              exact HRet.out _ _ HK.out hb13
          · have hcm2 : ¬ m = c := fun h => hcm h.symm
            have hr4 := row_dropF hr3 m
            have HNo := Lib.hid (rnoughts_any (A.map (·.add m)) (n - m) (c - m) (zs.drop m) _ hr4 (fun x hx => HB.out x (List.mem_of_mem_drop hx)) (by omega))
            clear hr3 hr4 hA
            go_wp2_with fail
            with_reducible refine HNo.out.mono ?_
            rintro e w4 ⟨rfl, rfl⟩
            cases hf : fillB (zs.drop m)
            · have HK := Lib.hid (HNF.out hf)
              clear HNo hf
              go_wp2
              go_ret
              exact HRet.out _ _ HK.out hb13
            · have HK := Lib.hid (HYF.out hf)
              clear HNo hf
              go_wp2
              go_ret
              exact HRet.out _ _ HK.out hb13

end Go.Proofs.Ytdaeffnaoeblpaa

/- compo: Is; the document's example. -/
namespace Go.Proofs.Ytdaeffnaoeblpaa
open Go.RowKit
set_option linter.unusedVariables false
set_option linter.unusedSimpArgs false

/-- Do the bytes begin as such a glyph's do? -/
def cIs (zs : List Int) : Bool := decide (sgn (n2at (zs.take 2) 0) < 0)
theorem take_bytes2 {zs : List Int} (h : Bytes zs) : Bytes (zs.take 2) := fun x hx => h x (List.mem_of_mem_take hx)

theorem cis_any (A : Option Addr) (n c : Nat) (zs : List Int) (w : World) (hr : Row w A n (cellsOf .u8 zs)) (hB : Bytes zs) (hn : n ≤ 1000000) (hc : n ≤ c) : Calls Try.prog 117 #[.slice A n c] w (Ret w (.bool (cIs zs))) := by
  have hl := hr.len
  obtain ⟨m, hm⟩ : ∃ m : Nat, m = min n 2 := ⟨_, rfl⟩
  have hmE : min (n : Int) 2 = (m : Int) := by omega
  have ht : zs.take m = zs.take 2 := by
    by_cases h : 2 ≤ n
    · rw [show m = 2 by omega]
    · rw [List.take_of_length_le (by omega), List.take_of_length_le (by omega)]
  have hr2 : Row w A m (cellsOf .u8 (zs.take 2)) := by
    have := hr.take (k := m) (by omega)
    rwa [cellsOf_take, ht] at this
  have HB := Lib.hid (take_bytes2 hB)
  have HN := Lib.hid (new_any A m c (zs.take 2) w hr2 (by omega))
  have hl2 : (zs.take 2).length ≤ 2 := by rw [List.length_take]; omega
  have s0 : (0 : Int) ≤ (m : Int) := by omega
  have s1 : (m : Int) ≤ (n : Int) := by omega
  have s3 : (m : Int) ≤ (c : Int) := by omega
  unfold cIs
  clear hr hB hl ht hr2 hm
  generalize zs.take 2 = ys at *
  go_enter Try.func117, Try.ntmps117
  go_wp2_with fail
  with_reducible refine HN.out.mono ?_
  rintro e w1 ⟨b, rfl, hrd, hb1⟩
  have hrq := RdQ.new hrd
  have hfr := hrd.from_
  have HI := Lib.hid (rdq_i16 hrq HB.out (by omega))
  have hbb : w.heap.size ≤ b := hfr
  clear hrd hrq HN hfr
  go_wp2_with fail
  with_reducible refine HI.out.mono ?_
  rintro e w2 ⟨rfl, h2, g2⟩
  have hb2 := hb1.grown g2 hb1.size (fun k e => by cases e; exact hbb)
  clear HI
  go_wp2
  go_ret
  exact ⟨rfl, hb2⟩

def ex13 : Cg := ⟨0, 0, 0, 0, [⟨3, 3, 1, 2, 16384, 0, 0, 16384⟩], []⟩
theorem ex13_ok : ex13.ok := ⟨by decide, (fun p hp => by
  simp only [ex13, List.mem_cons, List.not_mem_nil, or_false] at hp
  subst hp
  exact ⟨by decide, by decide, by decide, by decide, by decide, by decide, by decide, by decide⟩), (fun x hx => by cases hx)⟩
theorem ex13_B : cBytes ex13 = [255, 255, 0, 0, 0, 0, 0, 0, 0, 0, 0, 3, 0, 3, 0, 1, 0, 2] := by decide +kernel
theorem ex13_is : cIs [255, 255, 0, 0, 0, 0, 0, 0, 0, 0, 0, 3, 0, 3, 0, 1, 0, 2] = true := by decide +kernel

end Go.Proofs.Ytdaeffnaoeblpaa

/- simple: pointsOf and Contours, as contracts over this seat's translation. -/
namespace Go.Proofs.Ytdaeffnaoeblpaa
open Go.RowKit
set_option linter.unusedVariables false

theorem Try.ptinfo : (Try.prog.info? 59).map (fun i => (i.zero, i.size, i.bytes)) = some (some (.agg #[.int .i64 0, .int .i64 0, .bool false]), 3, 24) := by kernel_rfl

theorem RowS.dropC {α : Type} {enc : α → List Value} {k : Nat} (hk : ∀ x, (enc x).length = k) {w : World} {A : Option Addr} {n : Nat} {l : List α} (h : RowS enc k w A n l) (m : Nat) : RowS enc k w (A.map (·.add (m * k))) (n - m) (l.drop m) :=
  ⟨by rw [List.length_drop, h.1], by rw [← flat_drop hk, Nat.sub_mul]; exact h.2.drop (m * k)⟩

/-- Points under way in a block of their own. -/
structure PO (w wr : World) (gp n : Nat) (l : List Sp) : Prop where
  ps : OwnS 59 encRp 3 wr w.heap.size (some ⟨gp, 0, none⟩) n n l
  bel : Below w.heap.size w wr
theorem PO.below {w wr w' : World} {gp n : Nat} {l : List Sp} (h : PO w wr gp n l) (hb : Below wr.heap.size wr w') : PO w w' gp n l := ⟨h.ps.below hb, h.bel.trans (hb.mono h.bel.size)⟩
theorem PO.set {w wr : World} {gp n : Nat} {l : List Sp} (h : PO w wr gp n l) {k : Nat} (hk : k < n) (x : Sp) : PO w (setCells wr gp (k * 3) (encRp x)) gp n (l.set k x) := by
  have hg := (h.ps.from_ gp rfl).1
  refine ⟨ownS_store encRp_len h.ps hk x, ?_⟩
  unfold encRp setCells setCells setCells setCells
  exact ((h.bel.setCell (p := ⟨gp, _, none⟩) hg _).setCell (p := ⟨gp, _, none⟩) hg _).setCell (p := ⟨gp, _, none⟩) hg _

set_option maxRecDepth 100000 in
set_option maxHeartbeats 4000000 in
theorem optsOf_any (A : Option Addr) (n c : Nat) (ps : List Sp) (w : World) (hr : RowS encSp 3 w A n ps) (hps : ∀ p ∈ ps, (-32768 ≤ p.1 ∧ p.1 ≤ 32767) ∧ (-32768 ≤ p.2.1 ∧ p.2.1 ≤ 32767)) (hn : n ≤ 1000000) :
    Calls Try.prog 160 #[.slice A n c] w fun e w' => e = .returned (.slice (some ⟨w.heap.size, 0, none⟩) n n) ∧ PO w w' w.heap.size n ps := by
  obtain ⟨i0, hi, hz0, hz1, hz2⟩ := info_parts Try.ptinfo
  have HR := Lib.hid hr
  have hl := hr.len
  have Hl := Lib.hid hl
  have HPs := Lib.hid hps
  clear hr hps hl
  go_enter Try.func160, Try.ntmps160
  go_wp2_with (at_make; refine wpList_make_S rfl (.tmp 7) (.tmp 7) _ rfl 59 encRp 3 encRp_len (by omega) w.heap.size i0 _ (0, 0, false) 24 Try.underlying51 hi hz0 hz1 rfl hz2 _ _ n rfl rfl rfl rfl (by omega) (by omega) (by omega) ?_; intro w4 hown4 hg4)
  have hb4 := below_of_grown hg4 (Nat.le_refl _) (fun k e => by cases e)
  have hs : PO w w4 w.heap.size n (ps.take 0 ++ List.replicate (n - 0) (0, 0, false)) := ⟨hown4, hb4⟩
  clear hown4 hg4 hb4 hi hz0 hz1 hz2
  have Hg0 : Hid (w.heap.size < w4.heap.size) := (hs.ps.from_ _ rfl).2
  generalize hgp : w.heap.size = gp at hs Hg0 ⊢
  have Hgp := Lib.hid hgp
  clear hgp
  go_loopw [11] (fun i' wr => ∃ k : Nat, k ≤ n ∧ i' = .int .i64 k ∧ PO w wr gp n (ps.take k ++ List.replicate (n - k) (0, 0, false))) (fun i' _ => n - (intOf i').toNat)
  case atStart => exact ⟨0, Nat.zero_le _, rfl, hs⟩
  case round =>
    clear hs Hg0
    obtain ⟨k, hk, rfl, hs⟩ := hrel
    by_cases hlt : k < n
    · obtain ⟨p, hp⟩ : ∃ p, ps[k]? = some p := ⟨ps[k]'(by have := Hl.out; omega), List.getElem?_eq_getElem (by have := Hl.out; omega)⟩
      obtain ⟨⟨u0, u1⟩, ⟨u2, u3⟩⟩ := HPs.out p (List.mem_of_getElem? hp)
      obtain ⟨g, off, rfl, hg, q0, q1, q2⟩ := atSp (HR.out.below hs.bel) hp
      have hst : (ps.take k ++ List.replicate (n - k) ((0, 0, false) : Sp)).set k p = ps.take (k + 1) ++ List.replicate (n - (k + 1)) (0, 0, false) := by
        have hkl : (ps.take k).length = k := by rw [List.length_take]; have := Hl.out; omega
        rw [List.set_append_right _ _ (by omega), hkl, Nat.sub_self, List.take_add_one, hp, show n - k = (n - (k + 1)) + 1 by omega, List.replicate_succ]
        simp
      obtain ⟨z, hz⟩ : ∃ z, (ps.take k ++ List.replicate (n - k) ((0, 0, false) : Sp))[k]? = some z := by
        refine ⟨_, List.getElem?_eq_getElem ?_⟩
        rw [List.length_append, List.length_take, List.length_replicate]
        have := Hl.out
        omega
      obtain ⟨px, py, po⟩ := p
      simp only at q0 q1 q2 u0 u1 u2 u3
      have hA := (Below.refl wr.heap.size wr).alloc (Nat.le_refl _) (.cells #[.int .i16 px, .int .i16 py, .bool po] 54)
      have hs2 := hs.below hA
      have hgw := (hs.ps.from_ gp rfl).2
      have hne1 : gp ≠ wr.heap.size := by omega
      have hne2 : wr.heap.size ≠ gp := by omega
      obtain ⟨gg, off', e', _, r0, r1, r2⟩ := atRp (hs2.ps.row encRp_len) hz
      simp only [Option.some.injEq, Addr.mk.injEq, and_true] at e'
      obtain ⟨rfl, rfl⟩ := e'
      rw [Nat.zero_add] at r0 r1 r2
      have fz := hs2.ps.thaw
      have hs4 := hs2.set hlt (px, py, po)
      rw [hst] at hs4
      have H4 := Lib.hid hs4
      unfold encRp setCells setCells setCells setCells at H4
      clear hs4 hs hs2 hp hz hst hA hgw
      go_wp2
      go_roundw
      case rel => exact ⟨k + 1, by omega, by go_num, H4.out⟩
      case measure => simp [intOf]; omega
    · obtain rfl : k = n := by omega
      rw [List.take_of_length_le (by have := Hl.out; omega), Nat.sub_self, List.replicate_zero, List.append_nil] at hs
      obtain rfl := Hgp.out
      go_wp2
      go_ret
      exact ⟨rfl, hs⟩

/-- A row of rows of points. -/
abbrev Sl := Option Addr × Nat × Nat
def encSl (t : Sl) : List Value := [.slice t.1 t.2.1 t.2.2]
theorem encSl_len (t : Sl) : (encSl t).length = 1 := rfl
theorem encSl_one (t : Sl) : ∀ u ∈ encSl t, u.oneCell' = true := by intro u hu; simp [encSl] at hu; subst hu; rfl
theorem Try.ptsinfo : (Try.prog.info? 51).map (fun i => (i.zero, i.size, i.bytes)) = some (some (.slice none 0 0), 1, 24) := by kernel_rfl
theorem atSl {w : World} {A : Option Addr} {n : Nat} {l : List Sl} {j : Nat} {x : Sl} (h : RowS encSl 1 w A n l) (hj : l[j]? = some x) :
    ∃ g off, A = some ⟨g, off, none⟩ ∧ g < w.heap.size ∧ w.cell? ⟨g, off + j, none⟩ = some (.slice x.1 x.2.1 x.2.2) := by
  obtain ⟨g, off, e, hg, hc⟩ := h.at encSl_len (by omega) hj
  refine ⟨g, off, e, hg, ?_⟩
  have := hc 0 _ rfl
  rwa [Nat.mul_one] at this

/-- The ends of a contour. -/
def segF (es : List Int) (i : Nat) : Nat := if i = 0 then 0 else (es.getD (i - 1) 0).toNat + 1
def segT (es : List Int) (i : Nat) : Nat := (es.getD i 0).toNat + 1
def seg (ps : List Sp) (es : List Int) (i : Nat) : List Sp := (ps.take (segT es i)).drop (segF es i)
theorem segF_succ (es : List Int) (i : Nat) : segF es (i + 1) = segT es i := by unfold segF segT; rw [if_neg (by omega), Nat.add_sub_cancel]
theorem rise_step {l : List Int} {n : Nat} (h : riseN l n = true) : ∀ (d i : Nat), i + d < n → l.getD i 0 ≤ l.getD (i + d) 0
  | 0, _, _ => Int.le_refl _
  | d + 1, i, hd => by
    have h1 := rise_step h d i (by omega)
    have h2 := riseN_at h (show i + (d + 1) < n by omega)
    unfold riseA at h2
    rw [show i + (d + 1) - 1 = i + d by omega] at h2
    simp only [Bool.or_eq_true, decide_eq_true_eq] at h2
    omega
theorem seg_bounds {ps : List Sp} {es : List Int} (h0 : ∀ x ∈ es, 0 ≤ x ∧ x < 65536) (hr : riseN es es.length = true) (hc : ps.length = cntE es) {i : Nat} (hi : i < es.length) : segF es i < segT es i ∧ segT es i ≤ ps.length := by
  constructor
  · unfold segF segT
    split
    · omega
    · have h2 := riseN_at hr hi
      unfold riseA at h2
      simp only [Bool.or_eq_true, decide_eq_true_eq] at h2
      have h3 : (es.getD (i - 1) 0) < es.getD i 0 := h2.resolve_left (by omega)
      have h4 := (h0 (es[i]) (List.getElem_mem hi)).1
      have h5 : es.getD i 0 = es[i] := by simp [hi]
      have hi' : i - 1 < es.length := by omega
      have h6 := (h0 (es[i - 1]) (List.getElem_mem hi')).1
      have h7 : es.getD (i - 1) 0 = es[i - 1] := by simp [hi']
      omega
  · have h1 := rise_step hr (es.length - 1 - i) i (by omega)
    rw [show i + (es.length - 1 - i) = es.length - 1 by omega] at h1
    rw [hc]
    unfold segT cntE
    rw [if_neg (by omega)]
    omega

/-- Contours under way. -/
structure CT (w wr : World) (cs : Array Value) (gp N : Nat) (L : List Sl) (k : Nat) (ps : List Sp) (es : List Int) : Prop where
  box : wr.heap[w.heap.size]? = some (.cells cs 44 (0, 0))
  out : OwnS 51 encSl 1 wr w.heap.size (some ⟨gp, 0, none⟩) N N L
  inn : ∀ i, i < k → ∃ h m, L[i]? = some (some ⟨h, 0, none⟩, m, m) ∧ gp < h ∧ (∃ cur, wr.heap[h]? = some (.cells cur 59 (0, 0))) ∧ RowS encRp 3 wr (some ⟨h, 0, none⟩) m (seg ps es i)
  bel : Below w.heap.size w wr
  ne : gp ≠ w.heap.size
theorem CT.cell6 {w wr : World} {x0 x1 x2 x3 E P S : Value} {gp N : Nat} {L : List Sl} {k : Nat} {ps : List Sp} {es : List Int} (h : CT w wr #[x0, x1, x2, x3, E, P, S] gp N L k ps es) : wr.cell? ⟨w.heap.size, 6, none⟩ = some S := cell_of_row wr _ 6 _ _ _ h.box
theorem CT.below {w wr w' : World} {cs : Array Value} {gp N : Nat} {L : List Sl} {k : Nat} {ps : List Sp} {es : List Int} (h : CT w wr cs gp N L k ps es) (hb : Below wr.heap.size wr w') : CT w w' cs gp N L k ps es :=
  ⟨kept_block h.box hb, h.out.below hb, fun i hi => by obtain ⟨g, m, a, b, ⟨cur, d⟩, c⟩ := h.inn i hi; exact ⟨g, m, a, b, ⟨cur, kept_block d hb⟩, c.below hb⟩, h.bel.trans (hb.mono h.bel.size), h.ne⟩
theorem CT.put {w wr : World} {cs : Array Value} {gp N : Nat} {L : List Sl} {k : Nat} {ps : List Sp} {es : List Int} (h : CT w wr cs gp N L k ps es) (hk : k < N) {g m : Nat} (hg : gp < g) (ht : ∃ cur, wr.heap[g]? = some (.cells cur 59 (0, 0))) (hr : RowS encRp 3 wr (some ⟨g, 0, none⟩) m (seg ps es k)) :
    CT w (wr.setCell ⟨gp, k, none⟩ (.slice (some ⟨g, 0, none⟩) m m)) cs gp N (L.set k (some ⟨g, 0, none⟩, m, m)) (k + 1) ps es := by
  have hf := (h.out.from_ gp rfl).1
  have ho := ownS_store encSl_len h.out hk (some ⟨g, 0, none⟩, m, m)
  rw [Nat.mul_one] at ho
  have hlen := h.out.len
  have hkeep : ∀ q, gp < q → (wr.setCell ⟨gp, k, none⟩ (.slice (some ⟨g, 0, none⟩) m m)).heap[q]? = wr.heap[q]? := fun q hq => Below.heap_setCell wr ⟨gp, k, none⟩ _ q (show q ≠ gp by omega)
  have hrow : ∀ (q m' : Nat) (l : List Sp), gp < q → RowS encRp 3 wr (some ⟨q, 0, none⟩) m' l → RowS encRp 3 (wr.setCell ⟨gp, k, none⟩ (.slice (some ⟨g, 0, none⟩) m m)) (some ⟨q, 0, none⟩) m' l := fun q m' l hq hl => hl.keep (by simp [World.setCell]) (fun z e _ => by simp [blockOf] at e; subst e; exact hkeep _ hq)
  refine ⟨(Below.heap_setCell wr ⟨gp, k, none⟩ _ _ (show w.heap.size ≠ gp by have := h.ne; omega)).trans h.box, ho, ?_, h.bel.setCell (p := ⟨gp, k, none⟩) hf _, h.ne⟩
  intro i hi
  by_cases hik : i = k
  · subst hik
    exact ⟨g, m, by rw [List.getElem?_set_self (by omega)], hg, by obtain ⟨cur, d⟩ := ht; exact ⟨cur, (hkeep _ hg).trans d⟩, hrow _ _ _ hg hr⟩
  · obtain ⟨q, m', a, b, ⟨cur, d⟩, c⟩ := h.inn i (by omega)
    exact ⟨q, m', by rw [List.getElem?_set_ne (by omega)]; exact a, b, ⟨cur, (hkeep _ b).trans d⟩, hrow _ _ _ b c⟩

/-- What Contours leaves. -/
def RetCt (w : World) (g : Gl) (e : Ending) (w' : World) : Prop :=
  Below w.heap.size w w' ∧ ((oRight g = false ∧ e = .returned (.slice none 0 0)) ∨ (oRight g = true ∧ ∃ gp L, e = .returned (.slice (some ⟨gp, 0, none⟩) g.es.length g.es.length) ∧ RowS encSl 1 w' (some ⟨gp, 0, none⟩) g.es.length L ∧ ∀ i, i < g.es.length → ∃ h m, L[i]? = some (some ⟨h, 0, none⟩, m, m) ∧ RowS encRp 3 w' (some ⟨h, 0, none⟩) m (seg g.ps g.es i)))

/-- What Contours leaves of an outline that may be: all of it in new blocks. -/
def RetCtF (w : World) (g : Gl) (e : Ending) (w' : World) : Prop :=
  Below w.heap.size w w' ∧ ∃ gp L, e = .returned (.slice (some ⟨gp, 0, none⟩) g.es.length g.es.length) ∧ OwnS 51 encSl 1 w' w.heap.size (some ⟨gp, 0, none⟩) g.es.length g.es.length L ∧ ∀ i, i < g.es.length → ∃ h m, L[i]? = some (some ⟨h, 0, none⟩, m, m) ∧ gp < h ∧ (∃ cur, w'.heap[h]? = some (.cells cur 59 (0, 0))) ∧ RowS encRp 3 w' (some ⟨h, 0, none⟩) m (seg g.ps g.es i)

set_option maxRecDepth 100000 in
set_option maxHeartbeats 4000000 in
theorem ocont_noM (v : GlV) (w : World) (hr : v.rows w) (hf : v.mid) (ho : v.g.ok) (hn : oRight v.g = false) : Calls Try.prog 121 #[v.val] w (RetCt w v.g) := by
  have hA := (Below.refl w.heap.size w).alloc (Nat.le_refl _) (.cells v.cells 44)
  have hk := heap_alloc_new w (.cells v.cells 44)
  have HR := Lib.hid (oright_mid v _ (hr.below hA) hf ho)
  rw [hn] at HR
  have HN := Lib.hid hn
  clear hr hf ho hn
  unfold GlV.val at *
  unfold GlV.cells at *
  obtain ⟨g, EA, en, ec, PA, pn, pc, SA, sn, sc⟩ := v
  simp only at *
  obtain ⟨b0, b1, b2, b3, b4, b5, b6⟩ := cells7 hk
  clear hk
  go_enter Try.func121, Try.ntmps121
  go_wp2_with fail
  with_reducible refine HR.out.mono ?_
  rintro e w1 ⟨rfl, hb1⟩
  have hB := hA.trans (hb1.mono hA.size)
  go_wp2
  go_ret
  exact ⟨hB, .inl ⟨HN.out, rfl⟩⟩

set_option maxRecDepth 100000 in
set_option maxHeartbeats 4000000 in
theorem ocont_yesF (v : GlV) (w : World) (hr : v.rows w) (hf : v.mid) (ho : v.g.ok) (hn : oRight v.g = true) (hc : v.sn ≤ v.sc) : Calls Try.prog 121 #[v.val] w (RetCtF w v.g) := by
  obtain ⟨i0, hi, hz0, hz1, hz2⟩ := info_parts Try.ptsinfo
  have hA := (Below.refl w.heap.size w).alloc (Nat.le_refl _) (.cells v.cells 44)
  have hk := heap_alloc_new w (.cells v.cells 44)
  have HR := Lib.hid (oright_mid v _ (hr.below hA) hf ho)
  rw [hn] at HR
  have HN := Lib.hid hn
  obtain ⟨⟨_, _, hrise, hcnt⟩, _, _⟩ := oRight_parts hn
  have HSeg : Hid (∀ i, i < v.g.es.length → segF v.g.es i < segT v.g.es i ∧ segT v.g.es i ≤ v.g.ps.length) := fun i hi => seg_bounds ho.es hrise hcnt hi
  have HE : Hid (v.g.es.length = v.en) := hr.es.len
  have HS : Hid (v.g.ps.length = v.sn) := hr.ps.len
  have Hre := Lib.hid hr.es
  have Hrs := Lib.hid hr.ps
  have HEs := Lib.hid ho.es
  have HPs := Lib.hid ho.ps
  obtain ⟨f0, f1, f2⟩ := hf
  clear hr ho hn hrise hcnt
  unfold GlV.val at *
  unfold GlV.cells at *
  obtain ⟨⟨x0, x1, x2, x3, es, pr, ps⟩, EA, en, ec, PA, pn, pc, SA, sn, sc⟩ := v
  simp only at *
  obtain ⟨b0, b1, b2, b3, b4, b5, b6⟩ := cells7 hk
  go_enter Try.func121, Try.ntmps121
  go_wp2_with fail
  with_reducible refine HR.out.mono ?_
  rintro e w1 ⟨rfl, hb1⟩
  have hk1 := kept_block hk hb1
  have hB1 := hA.trans (hb1.mono hA.size)
  clear b0 b1 b2 b3 b4 b5 b6
  obtain ⟨b0, b1, b2, b3, b4, b5, b6⟩ := cells7 hk1
  clear hA hb1 hk HR
  go_wp2_with (at_make; refine wpList_make_S rfl (.tmp 13) (.tmp 13) _ rfl 51 encSl 1 encSl_len (by omega) w.heap.size i0 _ (none, 0, 0) 24 Try.underlying26 hi hz0 hz1 rfl hz2 _ _ en rfl rfl rfl rfl (by omega) (by omega) hB1.size ?_; intro w4 hown4 hg4; have hb4 := below_of_grown hg4 (Nat.le_refl _) (fun k e => by cases e); have hk4 := kept_block hk1 hb4; obtain ⟨y0, y1, y2, y3, y4, y5, y6⟩ := cells7 hk4)
  have hs : CT w w4 #[.int .i16 x0, .int .i16 x1, .int .i16 x2, .int .i16 x3, .slice EA en ec, .slice PA pn pc, .slice SA sn sc] w1.heap.size en (List.replicate en (none, 0, 0)) 0 ps es :=
    ⟨hk4, hown4, fun i hi => absurd hi (by omega), hB1.trans (hb4.mono hB1.size), by have := lt_of_block hk1; omega⟩
  clear hown4 hg4 hi hz0 hz1 hz2 hb4 hk4 y0 y1 y2 y3 y4 y5 y6 b0 b1 b2 b3 b4 b5 b6 hk1 hB1
  generalize w1.heap.size = gp at *
  go_loopw [4, 18] (fun f' i' wr => ∃ (k : Nat) (L : List Sl), k ≤ en ∧ i' = .int .i64 k ∧ f' = .int .i64 ((segF es k : Nat) : Int) ∧ CT w wr #[.int .i16 x0, .int .i16 x1, .int .i16 x2, .int .i16 x3, .slice EA en ec, .slice PA pn pc, .slice SA sn sc] gp en L k ps es) (fun _ i' _ => en - (intOf i').toNat)
  case atStart => exact ⟨0, _, Nat.zero_le _, rfl, rfl, hs⟩
  case round =>
    clear hs
    obtain ⟨k, L, hk, rfl, rfl, hs⟩ := hrel
    have hsz := hs.bel.size
    by_cases hlt : k < en
    · obtain ⟨x, hx⟩ := get_some (zs := es) (k := k) (by have := HE.out; omega)
      obtain ⟨u0, u1⟩ := HEs.out x (List.mem_of_getElem? hx)
      obtain ⟨g, off, rfl, hg, hc4⟩ := (Hre.out.below hs.bel).at (cellsOf_get (k := .u16) hx)
      have hxT : Hid (((segT es k : Nat) : Int) = x + 1) := by
        show _ = _
        unfold segT
        rw [show es.getD k 0 = x by simp [hx]]
        omega
      obtain ⟨s0, s1⟩ := HSeg.out k (by have := HE.out; omega)
      have hs1' : segT es k ≤ sn := by have := HS.out; omega
      have hpos : 0 < segT es k := by unfold segT; omega
      have c6 := hs.cell6
      -- where the points lie
      obtain ⟨p0, hp0⟩ : ∃ p0, ps[0]? = some p0 := ⟨ps[0]'(by have := HS.out; omega), List.getElem?_eq_getElem (by have := HS.out; omega)⟩
      obtain ⟨gs, os, rfl, hgs, _, _, _⟩ := atSp (Hrs.out.below hs.bel) hp0
      have hrs := RowS.dropC encSp_len (RowS.take encSp_len (Hrs.out.below hs.bel) hs1') (segF es k)
      have hokS : ∀ p ∈ (ps.take (segT es k)).drop (segF es k), (-32768 ≤ p.1 ∧ p.1 ≤ 32767) ∧ (-32768 ≤ p.2.1 ∧ p.2.1 ≤ 32767) := fun p hp => HPs.out p (List.mem_of_mem_take (List.mem_of_mem_drop hp))
      have hxn : (x + 1).toNat = segT es k := by have := hxT.out; omega
      have HP : Hid (Calls Try.prog 160 #[.slice (some ⟨gs, os + segF es k * 3, none⟩) (segT es k - segF es k) (sc - segF es k)] wr fun e w' => e = .returned (.slice (some ⟨wr.heap.size, 0, none⟩) (segT es k - segF es k) (segT es k - segF es k)) ∧ PO wr w' wr.heap.size (segT es k - segF es k) (seg ps es k)) := by
        simp only [Option.map_some, Addr.add] at hrs
        rw [show (if segF es k * 3 = 0 then (⟨gs, os, none⟩ : Addr) else ⟨gs, os + segF es k * 3, none⟩) = ⟨gs, os + segF es k * 3, none⟩ by split <;> simp [*]] at hrs
        exact optsOf_any _ _ (sc - segF es k) _ wr hrs hokS (by omega)
      have hgpw := (hs.out.from_ gp rfl).2
      have i0' : (0 : Int) ≤ ((segF es k : Nat) : Int) := by omega
      have i1 : ((segF es k : Nat) : Int) ≤ x + 1 := by have := hxT.out; omega
      have i2 : x + 1 ≤ (sc : Int) := by have := hxT.out; omega
      have i3 : x + 1 ≤ (sn : Int) := by have := hxT.out; omega
      have i4 : segF es k ≠ sc := by omega
      have i5 : sc ≠ segF es k := by omega
      have hFs := segF_succ es k
      clear hx hp0 hokS hrs
      go_wp2_with fail
      with_reducible refine HP.out.mono ?_
      rintro e w5 ⟨rfl, hpo⟩
      have hs5 := hs.below hpo.bel
      obtain ⟨t0, ht0⟩ : ∃ t0, L[k]? = some t0 := ⟨L[k]'(by have := hs.out.len; omega), List.getElem?_eq_getElem (by have := hs.out.len; omega)⟩
      obtain ⟨gg, oo, e', _, y0⟩ := atSl (hs5.out.row encSl_len) ht0
      simp only [Option.some.injEq, Addr.mk.injEq, and_true] at e'
      obtain ⟨rfl, rfl⟩ := e'
      rw [Nat.zero_add] at y0
      have yf := hs5.out.thaw
      have hty : ∃ cur, w5.heap[wr.heap.size]? = some (.cells cur 59 (0, 0)) := by
        rcases hpo.ps.shape with ⟨h, _⟩ | ⟨g, cur, h, _, _, h2, _⟩
        · cases h
        · injection h with h
          injection h with h
          exact ⟨cur, by rw [h]; exact h2⟩
      have hs6 := hs5.put hlt hgpw hty (hpo.ps.row encRp_len)
      have H6 := Lib.hid hs6
      have hFs2 : ((segF es (k + 1) : Nat) : Int) = x + 1 := by rw [hFs]; exact hxT.out
      clear hs hs5 hs6 hpo ht0 HP
      go_wp2_with fail
      go_roundw
      case rel => exact ⟨k + 1, _, by omega, by go_num, by rw [hFs2], H6.out⟩
      case measure => simp [intOf]; omega
    · obtain rfl : k = en := by omega
      have HE2 := HE.out
      go_wp2
      go_ret
      refine ⟨hs.bel, gp, L, ?_, ?_, fun i hi => ?_⟩
      · show _ = Ending.returned (.slice (some ⟨gp, 0, none⟩) es.length es.length)
        rw [HE2]
        rfl
      · rw [show (Gl.mk x0 x1 x2 x3 es pr ps).es.length = k from HE2]
        exact hs.out
      · exact hs.inn i (by have : (Gl.mk x0 x1 x2 x3 es pr ps).es.length = k := HE2; omega)

theorem ocont_yesM (v : GlV) (w : World) (hr : v.rows w) (hf : v.mid) (ho : v.g.ok) (hn : oRight v.g = true) (hc : v.sn ≤ v.sc) : Calls Try.prog 121 #[v.val] w (RetCt w v.g) :=
  (ocont_yesF v w hr hf ho hn hc).mono fun e w' h => ⟨h.1, .inr ⟨hn, by obtain ⟨_, gp, L, h1, h2, h3⟩ := h; exact ⟨gp, L, h1, h2.row encSl_len, fun i hi => by obtain ⟨q, m, a, _, _, c⟩ := h3 i hi; exact ⟨q, m, a, c⟩⟩⟩⟩

theorem ocont_no (v : GlV) (w : World) (hr : v.rows w) (hf : v.few) (ho : v.g.ok) (hn : oRight v.g = false) : Calls Try.prog 121 #[v.val] w (RetCt w v.g) := ocont_noM v w hr hf.mid ho hn

theorem ocont_yes (v : GlV) (w : World) (hr : v.rows w) (hf : v.few) (ho : v.g.ok) (hn : oRight v.g = true) (hc : v.sn ≤ v.sc) : Calls Try.prog 121 #[v.val] w (RetCt w v.g) := ocont_yesM v w hr hf.mid ho hn hc

end Go.Proofs.Ytdaeffnaoeblpaa

/- What is told of an outline fits. -/
namespace Go.Proofs.Ytdaeffnaoeblpaa
open Go.RowKit
set_option linter.unusedVariables false

theorem oParse_ok {zs : List Int} (hB : Bytes zs) {g : Gl} {a : Nat} (h : oParse zs = some (g, a)) : g.ok ∧ g.es.length ≤ 1000000 ∧ g.pr.length ≤ 1000000 ∧ g.ps.length ≤ 1000000 := by
  obtain ⟨s, hg, he, rfl, rfl⟩ := oParse_inv h
  have hg2 := hg
  rw [oTold_eq hg he]
  obtain ⟨h1, h2, h3, h4⟩ := hg
  unfold oPk at h4
  simp only [Bool.and_eq_true] at h4
  have hl : s.fl.length = cntE (oEs zs (n2at zs 0).toNat) := by
    unfold oFs at h3
    exact (fAll_some _ _ _ (Nat.sub_le _ _) (Nat.zero_le _) h3).1
  have hc := cntE_le (oEs_bd hB (n2at zs 0).toNat)
  have hz := n2at_lt hB 0
  have hsg : ∀ i, -32768 ≤ sgn (n2at zs i) ∧ sgn (n2at zs i) ≤ 32767 := fun i => sgn_bd (n2at_lt hB i).1 (n2at_lt hB i).2
  refine ⟨⟨?_, oEs_bd hB _, ?_, ?_⟩, ?_, ?_, ?_⟩
  · intro x hx
    simp only [Gl.box, oGl, List.mem_cons, List.not_mem_nil, or_false] at hx
    rcases hx with rfl | rfl | rfl | rfl <;> exact hsg _
  · intro x hx
    exact hB x (List.mem_of_mem_drop (List.mem_of_mem_take hx))
  · intro p hp
    simp only [oGl, oPs, List.mem_map, List.mem_range] at hp
    obtain ⟨i, hi, rfl⟩ := hp
    exact ⟨pkOk_at h4.1 (by omega), pkOk_at h4.2 (by omega)⟩
  · show (oEs zs _).length ≤ _
    rw [oEs_len]
    omega
  · show ((zs.drop _).take _).length ≤ _
    rw [List.length_take]
    have : oSz zs (n2at zs 0).toNat < 65536 := by
      unfold oSz
      have := n2at_lt hB (10 + 2 * (n2at zs 0).toNat)
      omega
    omega
  · show (oPs zs s _).length ≤ _
    rw [oPs_len]
    omega

end Go.Proofs.Ytdaeffnaoeblpaa

/- flat: what a glyph's bytes tell: the program's read, as a contract over this seat's translation. -/
namespace Go.Proofs.Ytdaeffnaoeblpaa
open Go.RowKit
set_option linter.unusedVariables false
set_option linter.unusedSimpArgs false

theorem cIs_n2v {zs : List Int} (hB : Bytes zs) : cIs zs = decide (32767 < n2v zs 0) := by
  match zs, hB with
  | [], _ => decide
  | [x], hB =>
    have e : n2at [x] 0 = 0 := rfl
    show decide (sgn (n2at [x] 0) < 0) = decide (32767 < (0 : Int))
    rw [e]
    decide
  | x :: y :: r, hB =>
    have h0 := hB x (by simp)
    have h1 := hB y (by simp)
    have e : n2at [x, y] 0 = 256 * x + y := by
      show be [x, y] = _
      simp [be]
      omega
    show decide (sgn (n2at [x, y] 0) < 0) = decide (32767 < 256 * x + y)
    rw [e]
    unfold sgn
    by_cases h : 32767 < 256 * x + y
    · rw [if_pos h, decide_eq_true h, decide_eq_true (by omega)]
    · rw [if_neg h, decide_eq_false h, decide_eq_false (by omega)]

theorem Try.shapesize : (Try.prog.info? 128).map (·.size) = some 2 := by kernel_rfl

def sh0 : Array Value := #[.slice none 0 0, .slice none 0 0]
/-- What read tells of no bytes, and of the bytes of a glyph that is made of parts. -/
def RetReadP (w : World) (zs : List Int) (e : Ending) (w' : World) : Prop :=
  Below w.heap.size w w' ∧ ((cOk zs && fillB (zs.drop (cgEnd zs 2))) = false → ∃ DA d dc TA t tc, e = .returned (.tuple #[.agg #[.slice DA d dc, .slice TA t tc], .bool false])) ∧
    ((cOk zs && fillB (zs.drop (cgEnd zs 2))) = true → ∃ TA t tc, e = .returned (.tuple #[.agg #[.slice none 0 0, .slice TA t tc], .bool true]) ∧ RowS encPt 8 w' TA t (cgRd zs 2).ps ∧ t ≤ 201 ∧ (∀ p ∈ (cgRd zs 2).ps, p.ok) ∧ (∀ g, blockOf TA = some g → ∃ cur t', w'.heap[g]? = some (.cells cur t' (0, 0)) ∧ (t' = 46 ∨ t' = 5)))

theorem cells2 {w : World} {b : Nat} {t : TypeId} {x0 x1 : Value} (h : w.heap[b]? = some (.cells #[x0, x1] t (0, 0))) : w.cell? ⟨b, 0, none⟩ = some x0 ∧ w.cell? ⟨b, 1, none⟩ = some x1 :=
  ⟨cell_of_row _ _ 0 _ _ _ h, cell_of_row _ _ 1 _ _ _ h⟩

set_option maxRecDepth 1000000 in
set_option maxHeartbeats 2000000 in
theorem fread_none (A : Option Addr) (c : Nat) (w : World) : Calls Try.prog 70 #[.slice A 0 c] w fun e w' => e = .returned (.tuple #[.agg sh0, .bool true]) ∧ Below w.heap.size w w' := by
  have hA := (Below.refl w.heap.size w).alloc (Nat.le_refl _) (.cells sh0 128)
  have hk := heap_alloc_new w (.cells sh0 128)
  unfold sh0 at *
  go_enter Try.func70, Try.ntmps70
  go_upto_region 1 with fail
  generalize w.alloc _ = V at *
  obtain ⟨c0, c1⟩ := cells2 hk
  have fz := thawed hk
  have hk2 := set_block (set_block hk 0 (.slice none 0 0)) 1 (.slice none 0 0)
  simp only [List.setIfInBounds_toArray, List.set_cons_zero, List.set_cons_succ] at hk2
  have hb2 := (hA.setCell (p := ⟨w.heap.size, 0, none⟩) (Nat.le_refl _) (.slice none 0 0)).setCell (p := ⟨w.heap.size, 1, none⟩) (Nat.le_refl _) (.slice none 0 0)
  have HK2 := Lib.hid hk2
  have HB2 := Lib.hid hb2
  clear hk2 hb2 hA
  go_wp2
  exact bodyPost_ret (v := .tuple #[.agg #[.slice none 0 0, .slice none 0 0], .bool true]) (results_two2 Try.results70 _ _ w.heap.size 128 _ (0, 0) _ rfl rfl HK2.out Try.underlying128 rfl Try.shapesize) rfl ⟨rfl, HB2.out⟩

theorem RowS.keepF {α : Type} {enc : α → List Value} {k : Nat} {w w' : World} {A : Option Addr} {n : Nat} {l : List α} (hk : ∀ x, (enc x).length = k) (hk0 : 0 < k) (h : RowS enc k w A n l) (hs : w.heap.size ≤ w'.heap.size) (first : ∀ x, ∃ q y, (enc x)[0]? = some (.int q y))
    (hkp : ∀ g o q y, w.cell? ⟨g, o, none⟩ = some (.int q y) → w'.heap[g]? = w.heap[g]?) : RowS enc k w' A n l := by
  cases l with
  | nil =>
    have hn : n = 0 := h.1.symm
    subst hn
    refine ⟨rfl, ?_⟩
    rw [Nat.zero_mul]
    exact ⟨rfl, fun h => absurd h (by omega)⟩
  | cons x r =>
    obtain ⟨g, off, e, hg, hc⟩ := h.at hk hk0 (j := 0) (x := x) rfl
    refine h.keep hs (fun g' e' hg' => ?_)
    rw [e] at e'
    simp [blockOf] at e'
    subst e'
    obtain ⟨q, y, hx⟩ := first x
    exact hkp _ _ q y (hc 0 _ hx)

set_option maxRecDepth 1000000 in
set_option maxHeartbeats 4000000 in
theorem fread_parts (A : Option Addr) (n c : Nat) (zs : List Int) (w : World) (hr : Row w A n (cellsOf .u8 zs)) (hB : Bytes zs) (hn : n ≤ 68747) (hc : n ≤ c) (hn0 : n ≠ 0) (hi : cIs zs = true) : Calls Try.prog 70 #[.slice A n c] w (RetReadP w zs) := by
  have hl : zs.length = n := by have := hr.len; simpa [cellsOf] using this
  have HL := Lib.hid hl
  have HR := Lib.hid hr
  have HB := Lib.hid hB
  have hA := (Below.refl w.heap.size w).alloc (Nat.le_refl _) (.cells sh0 128)
  have hk := heap_alloc_new w (.cells sh0 128)
  have HI := Lib.hid (cis_any A n c zs (w.alloc (.cells sh0 128)) (hr.below hA) hB (by omega) hc)
  rw [hi] at HI
  have hn1 : ¬ ((n : Int) = 0) := by omega
  clear hr hB hl hi
  unfold sh0 at *
  go_enter Try.func70, Try.ntmps70
  go_wp2_with fail
  generalize w.alloc _ = V at *
  with_reducible refine HI.out.mono ?_
  rintro e w1 ⟨rfl, hb1⟩
  have hk1 := kept_block hk hb1
  have hbw1 := hA.trans (hb1.mono hA.size)
  have HP := Lib.hid (cparse_anyC A n c zs w1 (HR.out.below hbw1) HB.out hn hc)
  clear HI hk hA hb1
  go_wp2_with fail
  with_reducible refine HP.out.mono ?_
  rintro e w2 ⟨hb2, hway⟩
  have hk2 := kept_block hk1 hb2
  have hbw2 := hbw1.trans (hb2.mono hbw1.size)
  clear HP hk1 hb2 hbw1
  rcases hway with ⟨hno, rfl⟩ | ⟨hok, v, rfl, hvr, hvg, hvo, hvq, hva⟩
  · have hA3 := (Below.refl w2.heap.size w2).alloc (Nat.le_refl _) (.cells #[.int .i16 0, .int .i16 0, .int .i16 0, .int .i16 0, .slice none 0 0, .slice none 0 0] 49)
    have hkg := heap_alloc_new w2 (.cells #[.int .i16 0, .int .i16 0, .int .i16 0, .int .i16 0, .slice none 0 0, .slice none 0 0] 49)
    have hk3 := kept_block hk2 hA3
    have hbw3 := hbw2.trans (hA3.mono hbw2.size)
    have hlt2 := lt_of_block hk2
    have HRet : Hid (∀ DA d dc TA t tc W, Below w.heap.size w W → RetReadP w zs (.returned (.tuple #[.agg #[.slice DA d dc, .slice TA t tc], .bool false])) W) := fun DA d dc TA t tc W h => ⟨h, fun _ => ⟨DA, d, dc, TA, t, tc, rfl⟩, fun h2 => by rw [hno] at h2; cases h2⟩
    clear hno
    unfold cg0 CgV.val CgV.cells
    simp only
    go_upto_region 5 with fail
    generalize w2.alloc _ = w4 at *
    generalize w2.heap.size = bg at *
    have hk5 := kept_block hk3 (Below.refl w4.heap.size w4).drew
    have hkg5 := kept_block hkg (Below.refl w4.heap.size w4).drew
    have hbw5 := hbw3.drew
    clear hk2 hk3 hkg hbw2 hbw3 hA3
    obtain ⟨V0, hV0⟩ : ∃ V0, w4.drew = V0 := ⟨_, rfl⟩
    rw [hV0] at hk5 hkg5 hbw5
    obtain ⟨c0, c1⟩ := cells2 hk5
    have fz := thawed hk5
    obtain ⟨g0, g1, g2, g3, g4, g5⟩ := cells6 hkg5
    obtain ⟨V1, hV1⟩ : ∃ V1, (V0.setCell ⟨w.heap.size, 0, none⟩ (.slice none 0 0)).setCell ⟨w.heap.size, 1, none⟩ (.slice none 0 0) = V1 := ⟨_, rfl⟩
    have hk6 := set_block (set_block hk5 0 (.slice none 0 0)) 1 (.slice none 0 0)
    simp only [List.setIfInBounds_toArray, List.set_cons_zero, List.set_cons_succ] at hk6
    have hb6 := (hbw5.setCell (p := ⟨w.heap.size, 0, none⟩) (Nat.le_refl _) (.slice none 0 0)).setCell (p := ⟨w.heap.size, 1, none⟩) (Nat.le_refl _) (.slice none 0 0)
    have hkg6 := ((Below.heap_setCell _ ⟨w.heap.size, 1, none⟩ (.slice none 0 0) bg (by show bg ≠ w.heap.size; omega)).trans (Below.heap_setCell V0 ⟨w.heap.size, 0, none⟩ (.slice none 0 0) bg (by show bg ≠ w.heap.size; omega))).trans hkg5
    rw [hV1] at hk6 hb6 hkg6
    obtain ⟨p0, p1, p2, p3, p4, p5⟩ := cells6 hkg6
    have HK6 := Lib.hid hk6
    have HB6 := Lib.hid hb6
    clear hk6 hb6 hkg6 hkg5 hbw5 hk5
    have hS : V0 = V0 ∨ V0 = V1 := Or.inl rfl
    refine regT_start 12 (fun W => W = V0 ∨ W = V1) (by kernel_rfl) ?_
    rw [hV0]
    refine regT_take (i := 0) (d := some 22) (v := ?_) [] hS rfl rfl (by kernel_rfl) (by kernel_rfl) (by kernel_rfl) (by kernel_rfl) (by kernel_rfl) (by decide) (fun _ _ _ h => h) (Or.inl ⟨by rfl, ?_⟩) ?_
    rotate_left
    · intro w' hx; rcases hx with rfl | rfl <;> ( (go_simp <;> with_reducible rfl))
    simp only [Act.put, List.setIfInBounds_toArray, List.set_cons_zero, List.set_cons_succ]
    refine regT_take (i := 1) (d := some 23) (v := ?_) [] hS rfl rfl (by kernel_rfl) (by kernel_rfl) (by kernel_rfl) (by kernel_rfl) (by kernel_rfl) (by decide) (fun _ _ _ h => h) (Or.inl ⟨by rfl, ?_⟩) ?_
    rotate_left
    · intro w' hx; rcases hx with rfl | rfl <;> ( (go_simp <;> with_reducible rfl))
    simp only [Act.put, List.setIfInBounds_toArray, List.set_cons_zero, List.set_cons_succ]
    refine regT_take (i := 2) (d := some 24) (v := ?_) [] hS rfl rfl (by kernel_rfl) (by kernel_rfl) (by kernel_rfl) (by kernel_rfl) (by kernel_rfl) (by decide) (fun _ _ _ h => h) (Or.inl ⟨by rfl, ?_⟩) ?_
    rotate_left
    · intro w' hx; rcases hx with rfl | rfl <;> ( (go_simp <;> with_reducible rfl))
    simp only [Act.put, List.setIfInBounds_toArray, List.set_cons_zero, List.set_cons_succ]
    refine regT_take (i := 3) (d := some 25) (v := ?_) [] hS rfl rfl (by kernel_rfl) (by kernel_rfl) (by kernel_rfl) (by kernel_rfl) (by kernel_rfl) (by decide) (fun _ _ _ h => h) (Or.inl ⟨by rfl, ?_⟩) ?_
    rotate_left
    · intro w' hx; rcases hx with rfl | rfl <;> ( (go_simp <;> with_reducible rfl))
    simp only [Act.put, List.setIfInBounds_toArray, List.set_cons_zero, List.set_cons_succ]
    refine regT_take (i := 4) (d := some 26) (v := ?_) [] hS rfl rfl (by kernel_rfl) (by kernel_rfl) (by kernel_rfl) (by kernel_rfl) (by kernel_rfl) (by decide) (fun _ _ _ h => h) (Or.inl ⟨by rfl, ?_⟩) ?_
    rotate_left
    · intro w' hx; rcases hx with rfl | rfl <;> ( (go_simp <;> with_reducible rfl))
    simp only [Act.put, List.setIfInBounds_toArray, List.set_cons_zero, List.set_cons_succ]
    refine regT_take (i := 5) (d := some 27) (v := ?_) [] hS rfl rfl (by kernel_rfl) (by kernel_rfl) (by kernel_rfl) (by kernel_rfl) (by kernel_rfl) (by decide) (fun _ _ _ h => h) (Or.inl ⟨by rfl, ?_⟩) ?_
    rotate_left
    · intro w' hx; rcases hx with rfl | rfl <;> ( (go_simp <;> with_reducible rfl))
    simp only [Act.put, List.setIfInBounds_toArray, List.set_cons_zero, List.set_cons_succ]
    refine regT_take (i := 6) (d := some 28) (v := undef) [] hS rfl rfl (by kernel_rfl) (by kernel_rfl) (by kernel_rfl) (by kernel_rfl) (by kernel_rfl) (by decide) (fun _ _ _ h => h) (Or.inr ⟨by rfl, rfl⟩) ?_
    simp only [Act.put, List.setIfInBounds_toArray, List.set_cons_zero, List.set_cons_succ]
    refine regT_take (i := 7) (d := some 29) (v := undef) [] hS rfl rfl (by kernel_rfl) (by kernel_rfl) (by kernel_rfl) (by kernel_rfl) (by kernel_rfl) (by decide) (fun _ _ _ h => h) (Or.inr ⟨by rfl, rfl⟩) ?_
    simp only [Act.put, List.setIfInBounds_toArray, List.set_cons_zero, List.set_cons_succ]
    refine regT_take (i := 8) (d := some 30) (v := undef) [] hS rfl rfl (by kernel_rfl) (by kernel_rfl) (by kernel_rfl) (by kernel_rfl) (by kernel_rfl) (by decide) (fun _ _ _ h => h) (Or.inr ⟨by rfl, rfl⟩) ?_
    simp only [Act.put, List.setIfInBounds_toArray, List.set_cons_zero, List.set_cons_succ]
    refine regT_take (i := 9) (d := some 31) (v := undef) [] hS rfl rfl (by kernel_rfl) (by kernel_rfl) (by kernel_rfl) (by kernel_rfl) (by kernel_rfl) (by decide) (fun _ _ _ h => h) (Or.inr ⟨by rfl, rfl⟩) ?_
    simp only [Act.put, List.setIfInBounds_toArray, List.set_cons_zero, List.set_cons_succ]
    refine regT_take (i := 10) (d := some 32) (v := ?_) [] hS rfl rfl (by kernel_rfl) (by kernel_rfl) (by kernel_rfl) (by kernel_rfl) (by kernel_rfl) (by decide) (fun _ _ _ h => h) (Or.inl ⟨by rfl, ?_⟩) ?_
    rotate_left
    · intro w' hx; rcases hx with rfl | rfl <;> ( (go_simp <;> with_reducible rfl))
    simp only [Act.put, List.setIfInBounds_toArray, List.set_cons_zero, List.set_cons_succ]
    refine regT_one 11 _ (by kernel_rfl) rfl ?_
    intro K hK
    go_simp
    refine hK.out _ V1 (fun _ => Or.inr rfl) ?_
    clear hK K
    refine regT_one 12 _ (by kernel_rfl) rfl ?_
    intro K hK
    go_simp
    refine hK.out _ _ (fun h => absurd h (by decide)) ?_
    clear hK K
    refine regT_done (by kernel_rfl) ?_ _
    clear c0 c1 fz g0 g1 g2 g3 g4 g5 p0 p1 p2 p3 p4 p5 hV0 hV1 hS
    go_wp2
    exact bodyPost_ret (v := .tuple #[.agg #[.slice none 0 0, .slice none 0 0], .bool false]) (results_two2 Try.results70 _ _ w.heap.size 128 _ (0, 0) _ rfl rfl HK6.out Try.underlying128 rfl Try.shapesize) rfl (HRet.out _ _ _ _ _ _ _ HB6.out)
  · obtain ⟨m, hm⟩ : ∃ m, cgEnd zs 2 = m := ⟨_, rfl⟩
    have hmn : m ≤ n := by
      have h := hok
      unfold cOk at h
      simp only [Bool.and_eq_true, decide_eq_true_eq] at h
      rw [← hm, ← HL.out]
      exact h.1.2
    have hmz : (0 : Int) ≤ (m : Int) := by omega
    have hmi : (m : Int) ≤ (n : Int) := by omega
    have hmc : (m : Int) ≤ (c : Int) := by omega
    obtain ⟨⟨y0, y1, y2, y3, ps, pt⟩, QA, q, qc, PA, pn, pc⟩ := v
    simp only at hvg hvo hvq
    have hA3 := (Below.refl w2.heap.size w2).alloc (Nat.le_refl _) (.cells #[.int .i16 y0, .int .i16 y1, .int .i16 y2, .int .i16 y3, .slice QA q qc, .slice PA pn pc] 49)
    have hkg := heap_alloc_new w2 (.cells #[.int .i16 y0, .int .i16 y1, .int .i16 y2, .int .i16 y3, .slice QA q qc, .slice PA pn pc] 49)
    have hk3 := kept_block hk2 hA3
    have hbw3 := hbw2.trans (hA3.mono hbw2.size)
    have hlt2 := lt_of_block hk2
    have HRet : Hid (∀ b, fillB (zs.drop m) = b → ∀ W, Below w.heap.size w W → RowS encPt 8 W QA q ps → (∀ g, blockOf QA = some g → ∃ cur t, W.heap[g]? = some (.cells cur t (0, 0)) ∧ (t = 46 ∨ t = 5)) → RetReadP w zs (.returned (.tuple #[.agg #[.slice none 0 0, .slice QA q qc], .bool b])) W) := fun b hb W h h2 h4 => by
      have hps : ps = (cgRd zs 2).ps := by rw [← hvg]
      refine ⟨h, fun h3 => ?_, fun h3 => ?_⟩
      · rw [hok, hm, hb] at h3
        obtain rfl : b = false := h3
        exact ⟨_, _, _, _, _, _, rfl⟩
      · rw [hok, hm, hb] at h3
        obtain rfl : b = true := h3
        exact ⟨QA, q, qc, rfl, by rw [← hps]; exact h2, hvq, by rw [← hps]; exact hvo.ps, h4⟩
    rw [hm]
    unfold CgV.val CgV.cells
    simp only
    have hvr3 := hvr.ps.below hA3
    have hva3 : ∀ g, blockOf QA = some g → ∃ cur t, (w2.alloc (.cells #[.int .i16 y0, .int .i16 y1, .int .i16 y2, .int .i16 y3, .slice QA q qc, .slice PA pn pc] 49)).heap[g]? = some (.cells cur t (0, 0)) ∧ (t = 46 ∨ t = 5) := fun g hg => by
      obtain ⟨cur, t, hc, ht⟩ := hva g (.inl hg)
      exact ⟨cur, t, kept_block hc hA3, ht.2⟩
    clear hva
    go_upto_region 5 with fail
    generalize w2.alloc _ = w4 at *
    generalize w2.heap.size = bg at *
    have hk5 := kept_block hk3 (Below.refl w4.heap.size w4).drew
    have hkg5 := kept_block hkg (Below.refl w4.heap.size w4).drew
    have hbw5 := hbw3.drew
    have hr5 := HR.out.below hbw5
    clear hk2 hk3 hkg hbw2 hbw3
    obtain ⟨V0, hV0⟩ : ∃ V0, w4.drew = V0 := ⟨_, rfl⟩
    rw [hV0] at hk5 hkg5 hbw5 hr5
    obtain ⟨c0, c1⟩ := cells2 hk5
    have fz := thawed hk5
    obtain ⟨g0, g1, g2, g3, g4, g5⟩ := cells6 hkg5
    obtain ⟨V1, hV1⟩ : ∃ V1, (V0.setCell ⟨w.heap.size, 0, none⟩ (.slice none 0 0)).setCell ⟨w.heap.size, 1, none⟩ (.slice QA q qc) = V1 := ⟨_, rfl⟩
    have hk6 := set_block (set_block hk5 0 (.slice none 0 0)) 1 (.slice QA q qc)
    simp only [List.setIfInBounds_toArray, List.set_cons_zero, List.set_cons_succ] at hk6
    have hb6 := (hbw5.setCell (p := ⟨w.heap.size, 0, none⟩) (Nat.le_refl _) (.slice none 0 0)).setCell (p := ⟨w.heap.size, 1, none⟩) (Nat.le_refl _) (.slice QA q qc)
    have hkg6 := ((Below.heap_setCell _ ⟨w.heap.size, 1, none⟩ (.slice QA q qc) bg (by show bg ≠ w.heap.size; omega)).trans (Below.heap_setCell V0 ⟨w.heap.size, 0, none⟩ (.slice none 0 0) bg (by show bg ≠ w.heap.size; omega))).trans hkg5
    rw [hV1] at hk6 hb6 hkg6
    obtain ⟨p0, p1, p2, p3, p4, p5⟩ := cells6 hkg6
    have HPr : Hid (RowS encPt 8 V1 QA q ps) := by
      have h0 : RowS encPt 8 V0 QA q ps := by rw [← hV0]; exact hvr3.below (Below.refl _ _).drew
      refine RowS.keepF encPt_len (by omega) h0 (by rw [← hV1]; simp [World.setCell]) (fun p => ⟨_, _, rfl⟩) ?_
      intro g o qk y hcell
      have hne : g ≠ w.heap.size := fun h => by
        subst h
        unfold World.cell? at hcell
        simp only [hk5] at hcell
        rcases o with _ | _ | o <;> simp at hcell
      rw [← hV1]
      exact (Below.heap_setCell _ ⟨w.heap.size, 1, none⟩ _ g hne).trans (Below.heap_setCell V0 ⟨w.heap.size, 0, none⟩ _ g hne)
    have HAp : Hid (∀ g, blockOf QA = some g → ∃ cur t, V1.heap[g]? = some (.cells cur t (0, 0)) ∧ (t = 46 ∨ t = 5)) := by
      refine Lib.hid fun g hg => ?_
      obtain ⟨cur, t, hc, ht⟩ := hva3 g hg
      have hc0 : V0.heap[g]? = some (.cells cur t (0, 0)) := by rw [← hV0]; exact hc
      have hne : g ≠ w.heap.size := by
        rintro rfl
        rw [hk5] at hc0
        simp at hc0
        rcases ht with rfl | rfl <;> exact absurd hc0.2 (by decide)
      refine ⟨cur, t, ?_, ht⟩
      rw [← hV1]
      exact ((Below.heap_setCell _ ⟨w.heap.size, 1, none⟩ _ g hne).trans (Below.heap_setCell V0 ⟨w.heap.size, 0, none⟩ _ g hne)).trans hc0
    clear hva3
    have HK6 := Lib.hid hk6
    have HB6 := Lib.hid hb6
    clear hk6 hb6 hkg6 hkg5 hbw5 hk5
    have hS : V0 = V0 ∨ V0 = V1 := Or.inl rfl
    by_cases hcm : c = m
    · obtain rfl : n = m := by omega
      subst hcm
      have hr6 : Row V0 A 0 (cellsOf .u8 (zs.drop c)) := by
        rw [List.drop_of_length_le (by have := HL.out; omega)]
        exact ⟨rfl, fun h => absurd h (by omega)⟩
      have HNo := Lib.hid (ffill_any A 0 0 (zs.drop c) V0 hr6 (by omega))
      clear hr6 hr5
      refine regT_start 12 (fun W => W = V0 ∨ W = V1) (by kernel_rfl) ?_
      rw [hV0]
      refine regT_take (i := 0) (d := some 22) (v := ?_) [] hS rfl rfl (by kernel_rfl) (by kernel_rfl) (by kernel_rfl) (by kernel_rfl) (by kernel_rfl) (by decide) (fun _ _ _ h => h) (Or.inl ⟨by rfl, ?_⟩) ?_
      rotate_left
      · intro w' hx; rcases hx with rfl | rfl <;> ( (go_simp <;> with_reducible rfl))
      simp only [Act.put, List.setIfInBounds_toArray, List.set_cons_zero, List.set_cons_succ]
      refine regT_take (i := 1) (d := some 23) (v := ?_) [] hS rfl rfl (by kernel_rfl) (by kernel_rfl) (by kernel_rfl) (by kernel_rfl) (by kernel_rfl) (by decide) (fun _ _ _ h => h) (Or.inl ⟨by rfl, ?_⟩) ?_
      rotate_left
      · intro w' hx; rcases hx with rfl | rfl <;> ( (go_simp <;> with_reducible rfl))
      simp only [Act.put, List.setIfInBounds_toArray, List.set_cons_zero, List.set_cons_succ]
      refine regT_take (i := 2) (d := some 24) (v := ?_) [] hS rfl rfl (by kernel_rfl) (by kernel_rfl) (by kernel_rfl) (by kernel_rfl) (by kernel_rfl) (by decide) (fun _ _ _ h => h) (Or.inl ⟨by rfl, ?_⟩) ?_
      rotate_left
      · intro w' hx; rcases hx with rfl | rfl <;> ( (go_simp <;> with_reducible rfl))
      simp only [Act.put, List.setIfInBounds_toArray, List.set_cons_zero, List.set_cons_succ]
      refine regT_take (i := 3) (d := some 25) (v := ?_) [] hS rfl rfl (by kernel_rfl) (by kernel_rfl) (by kernel_rfl) (by kernel_rfl) (by kernel_rfl) (by decide) (fun _ _ _ h => h) (Or.inl ⟨by rfl, ?_⟩) ?_
      rotate_left
      · intro w' hx; rcases hx with rfl | rfl <;> ( (go_simp <;> with_reducible rfl))
      simp only [Act.put, List.setIfInBounds_toArray, List.set_cons_zero, List.set_cons_succ]
      refine regT_take (i := 4) (d := some 26) (v := ?_) [] hS rfl rfl (by kernel_rfl) (by kernel_rfl) (by kernel_rfl) (by kernel_rfl) (by kernel_rfl) (by decide) (fun _ _ _ h => h) (Or.inl ⟨by rfl, ?_⟩) ?_
      rotate_left
      · intro w' hx; rcases hx with rfl | rfl <;> ( (go_simp <;> with_reducible rfl))
      simp only [Act.put, List.setIfInBounds_toArray, List.set_cons_zero, List.set_cons_succ]
      refine regT_take (i := 5) (d := some 27) (v := ?_) [] hS rfl rfl (by kernel_rfl) (by kernel_rfl) (by kernel_rfl) (by kernel_rfl) (by kernel_rfl) (by decide) (fun _ _ _ h => h) (Or.inl ⟨by rfl, ?_⟩) ?_
      rotate_left
      · intro w' hx; rcases hx with rfl | rfl <;> ( (go_simp <;> with_reducible rfl))
      simp only [Act.put, List.setIfInBounds_toArray, List.set_cons_zero, List.set_cons_succ]
      refine regT_take (i := 6) (d := some 28) (v := ?_) [] hS rfl rfl (by kernel_rfl) (by kernel_rfl) (by kernel_rfl) (by kernel_rfl) (by kernel_rfl) (by decide) (fun _ _ _ h => h) (Or.inl ⟨by rfl, ?_⟩) ?_
      rotate_left
      · intro w' hx; rcases hx with rfl | rfl <;> ( (go_simp <;> with_reducible rfl))
      simp only [Act.put, List.setIfInBounds_toArray, List.set_cons_zero, List.set_cons_succ]
      refine regT_take (i := 7) (d := some 29) (v := ?_) [] hS rfl rfl (by kernel_rfl) (by kernel_rfl) (by kernel_rfl) (by kernel_rfl) (by kernel_rfl) (by decide) (fun _ _ _ h => h) (Or.inl ⟨by rfl, ?_⟩) ?_
      rotate_left
      · intro w' hx; rcases hx with rfl | rfl <;> ( (go_simp <;> with_reducible rfl))
      simp only [Act.put, List.setIfInBounds_toArray, List.set_cons_zero, List.set_cons_succ]
      refine regT_take (i := 8) (d := some 30) (v := ?_) [] hS rfl rfl (by kernel_rfl) (by kernel_rfl) (by kernel_rfl) (by kernel_rfl) (by kernel_rfl) (by decide) (fun _ _ _ h => h) (Or.inl ⟨by rfl, ?_⟩) ?_
      rotate_left
      · intro w' hx; rcases hx with rfl | rfl <;> ( (go_simp <;> with_reducible rfl))
      simp only [Act.put, List.setIfInBounds_toArray, List.set_cons_zero, List.set_cons_succ]
      refine regT_one 9 _ (by kernel_rfl) rfl ?_
      intro K hK
      go_simp
      refine HNo.out.mono ?_
      rintro e W ⟨rfl, rfl⟩
      refine hK.out _ _ (fun _ => Or.inl rfl) ?_
      clear hK K
      refine regT_take (i := 10) (d := some 32) (v := ?_) [] hS rfl rfl (by kernel_rfl) (by kernel_rfl) (by kernel_rfl) (by kernel_rfl) (by kernel_rfl) (by decide) (fun _ _ _ h => h) (Or.inl ⟨by rfl, ?_⟩) ?_
      rotate_left
      · intro w' hx; rcases hx with rfl | rfl <;> ( (go_simp <;> with_reducible rfl))
      simp only [Act.put, List.setIfInBounds_toArray, List.set_cons_zero, List.set_cons_succ]
      refine regT_one 11 _ (by kernel_rfl) rfl ?_
      intro K hK
      go_simp
      refine hK.out _ V1 (fun _ => Or.inr rfl) ?_
      clear hK K
      refine regT_one 12 _ (by kernel_rfl) rfl ?_
      intro K hK
      go_simp
      refine hK.out _ _ (fun h => absurd h (by decide)) ?_
      clear hK K
      refine regT_done (by kernel_rfl) ?_ _
      clear c0 c1 fz g0 g1 g2 g3 g4 g5 p0 p1 p2 p3 p4 p5 hV0 hV1 hS
      obtain ⟨fl, hfl⟩ : ∃ fl, fillB (zs.drop c) = fl := ⟨_, rfl⟩
      rw [hfl]
      have HFin := Lib.hid (HRet.out fl hfl V1 HB6.out HPr.out HAp.out)
      clear HNo hfl
      go_wp2
      exact bodyPost_ret (v := .tuple #[.agg #[.slice none 0 0, .slice QA q qc], .bool fl]) (results_two2 Try.results70 _ _ w.heap.size 128 _ (0, 0) _ rfl rfl HK6.out Try.underlying128 rfl Try.shapesize) rfl HFin.out
    · have hcm2 : ¬ m = c := fun h => hcm h.symm
      have HNo := Lib.hid (ffill_any (A.map (·.add m)) (n - m) (c - m) (zs.drop m) V0 (row_dropF hr5 m) (by omega))
      clear hr5
      refine regT_start 12 (fun W => W = V0 ∨ W = V1) (by kernel_rfl) ?_
      rw [hV0]
      refine regT_take (i := 0) (d := some 22) (v := ?_) [] hS rfl rfl (by kernel_rfl) (by kernel_rfl) (by kernel_rfl) (by kernel_rfl) (by kernel_rfl) (by decide) (fun _ _ _ h => h) (Or.inl ⟨by rfl, ?_⟩) ?_
      rotate_left
      · intro w' hx; rcases hx with rfl | rfl <;> ( (go_simp <;> with_reducible rfl))
      simp only [Act.put, List.setIfInBounds_toArray, List.set_cons_zero, List.set_cons_succ]
      refine regT_take (i := 1) (d := some 23) (v := ?_) [] hS rfl rfl (by kernel_rfl) (by kernel_rfl) (by kernel_rfl) (by kernel_rfl) (by kernel_rfl) (by decide) (fun _ _ _ h => h) (Or.inl ⟨by rfl, ?_⟩) ?_
      rotate_left
      · intro w' hx; rcases hx with rfl | rfl <;> ( (go_simp <;> with_reducible rfl))
      simp only [Act.put, List.setIfInBounds_toArray, List.set_cons_zero, List.set_cons_succ]
      refine regT_take (i := 2) (d := some 24) (v := ?_) [] hS rfl rfl (by kernel_rfl) (by kernel_rfl) (by kernel_rfl) (by kernel_rfl) (by kernel_rfl) (by decide) (fun _ _ _ h => h) (Or.inl ⟨by rfl, ?_⟩) ?_
      rotate_left
      · intro w' hx; rcases hx with rfl | rfl <;> ( (go_simp <;> with_reducible rfl))
      simp only [Act.put, List.setIfInBounds_toArray, List.set_cons_zero, List.set_cons_succ]
      refine regT_take (i := 3) (d := some 25) (v := ?_) [] hS rfl rfl (by kernel_rfl) (by kernel_rfl) (by kernel_rfl) (by kernel_rfl) (by kernel_rfl) (by decide) (fun _ _ _ h => h) (Or.inl ⟨by rfl, ?_⟩) ?_
      rotate_left
      · intro w' hx; rcases hx with rfl | rfl <;> ( (go_simp <;> with_reducible rfl))
      simp only [Act.put, List.setIfInBounds_toArray, List.set_cons_zero, List.set_cons_succ]
      refine regT_take (i := 4) (d := some 26) (v := ?_) [] hS rfl rfl (by kernel_rfl) (by kernel_rfl) (by kernel_rfl) (by kernel_rfl) (by kernel_rfl) (by decide) (fun _ _ _ h => h) (Or.inl ⟨by rfl, ?_⟩) ?_
      rotate_left
      · intro w' hx; rcases hx with rfl | rfl <;> ( (go_simp <;> with_reducible rfl))
      simp only [Act.put, List.setIfInBounds_toArray, List.set_cons_zero, List.set_cons_succ]
      refine regT_take (i := 5) (d := some 27) (v := ?_) [] hS rfl rfl (by kernel_rfl) (by kernel_rfl) (by kernel_rfl) (by kernel_rfl) (by kernel_rfl) (by decide) (fun _ _ _ h => h) (Or.inl ⟨by rfl, ?_⟩) ?_
      rotate_left
      · intro w' hx; rcases hx with rfl | rfl <;> ( (go_simp <;> with_reducible rfl))
      simp only [Act.put, List.setIfInBounds_toArray, List.set_cons_zero, List.set_cons_succ]
      refine regT_take (i := 6) (d := some 28) (v := ?_) [] hS rfl rfl (by kernel_rfl) (by kernel_rfl) (by kernel_rfl) (by kernel_rfl) (by kernel_rfl) (by decide) (fun _ _ _ h => h) (Or.inl ⟨by rfl, ?_⟩) ?_
      rotate_left
      · intro w' hx; rcases hx with rfl | rfl <;> ( (go_simp <;> with_reducible rfl))
      simp only [Act.put, List.setIfInBounds_toArray, List.set_cons_zero, List.set_cons_succ]
      refine regT_take (i := 7) (d := some 29) (v := ?_) [] hS rfl rfl (by kernel_rfl) (by kernel_rfl) (by kernel_rfl) (by kernel_rfl) (by kernel_rfl) (by decide) (fun _ _ _ h => h) (Or.inl ⟨by rfl, ?_⟩) ?_
      rotate_left
      · intro w' hx; rcases hx with rfl | rfl <;> ( (go_simp <;> with_reducible rfl))
      simp only [Act.put, List.setIfInBounds_toArray, List.set_cons_zero, List.set_cons_succ]
      refine regT_take (i := 8) (d := some 30) (v := ?_) [] hS rfl rfl (by kernel_rfl) (by kernel_rfl) (by kernel_rfl) (by kernel_rfl) (by kernel_rfl) (by decide) (fun _ _ _ h => h) (Or.inl ⟨by rfl, ?_⟩) ?_
      rotate_left
      · intro w' hx; rcases hx with rfl | rfl <;> ( (go_simp <;> with_reducible rfl))
      simp only [Act.put, List.setIfInBounds_toArray, List.set_cons_zero, List.set_cons_succ]
      refine regT_one 9 _ (by kernel_rfl) rfl ?_
      intro K hK
      go_simp
      refine HNo.out.mono ?_
      rintro e W ⟨rfl, rfl⟩
      refine hK.out _ _ (fun _ => Or.inl rfl) ?_
      clear hK K
      refine regT_take (i := 10) (d := some 32) (v := ?_) [] hS rfl rfl (by kernel_rfl) (by kernel_rfl) (by kernel_rfl) (by kernel_rfl) (by kernel_rfl) (by decide) (fun _ _ _ h => h) (Or.inl ⟨by rfl, ?_⟩) ?_
      rotate_left
      · intro w' hx; rcases hx with rfl | rfl <;> ( (go_simp <;> with_reducible rfl))
      simp only [Act.put, List.setIfInBounds_toArray, List.set_cons_zero, List.set_cons_succ]
      refine regT_one 11 _ (by kernel_rfl) rfl ?_
      intro K hK
      go_simp
      refine hK.out _ V1 (fun _ => Or.inr rfl) ?_
      clear hK K
      refine regT_one 12 _ (by kernel_rfl) rfl ?_
      intro K hK
      go_simp
      refine hK.out _ _ (fun h => absurd h (by decide)) ?_
      clear hK K
      refine regT_done (by kernel_rfl) ?_ _
      clear c0 c1 fz g0 g1 g2 g3 g4 g5 p0 p1 p2 p3 p4 p5 hV0 hV1 hS
      obtain ⟨fl, hfl⟩ : ∃ fl, fillB (zs.drop m) = fl := ⟨_, rfl⟩
      rw [hfl]
      have HFin := Lib.hid (HRet.out fl hfl V1 HB6.out HPr.out HAp.out)
      clear HNo hfl
      go_wp2
      exact bodyPost_ret (v := .tuple #[.agg #[.slice none 0 0, .slice QA q qc], .bool fl]) (results_two2 Try.results70 _ _ w.heap.size 128 _ (0, 0) _ rfl rfl HK6.out Try.underlying128 rfl Try.shapesize) rfl HFin.out

end Go.Proofs.Ytdaeffnaoeblpaa

/- What dot.All answers, as a contract over this seat's translation. -/
namespace Go.Proofs.Ytdaeffnaoeblpaa
open Go.RowKit
set_option linter.unusedVariables false

/-- A point: where it is, and whether it is on the curve. -/
abbrev PtD := Int × Int × Bool
def encPd (p : PtD) : List Value := [.int .i64 p.1, .int .i64 p.2.1, .bool p.2.2]
theorem encPd_len (p : PtD) : (encPd p).length = 3 := rfl
theorem encPd_one (p : PtD) : ∀ u ∈ encPd p, u.oneCell' = true := by intro u hu; simp [encPd] at hu; rcases hu with rfl | rfl | rfl <;> rfl
theorem Try.ptinfoD : (Try.prog.info? 59).map (fun i => (i.zero, i.size, i.bytes)) = some (some (.agg #[.int .i64 0, .int .i64 0, .bool false]), 3, 24) := by kernel_rfl

/-- Not too far out. -/
def Near (n : Int) : Prop := -70368744177664 ≤ n ∧ n ≤ 70368744177664
def NearP (p : PtD) : Prop := Near p.1 ∧ Near p.2.1

/-- A point, moved. -/
def moveP (a b c d dx dy : Int) (p : PtD) : PtD := (rnd (a * p.1 + c * p.2.1) + dx, rnd (b * p.1 + d * p.2.1) + dy, p.2.2)

/-- How the result looks behind k rounds. -/
def allK (a b c d dx dy : Int) (l : List PtD) (k : Nat) : List PtD := (l.take k).map (moveP a b c d dx dy) ++ List.replicate (l.length - k) (0, 0, false)

theorem allK_len (a b c d dx dy : Int) (l : List PtD) (k : Nat) (hk : k ≤ l.length) : (allK a b c d dx dy l k).length = l.length := by simp [allK]; omega
theorem allK_set (a b c d dx dy : Int) (l : List PtD) (k : Nat) (p : PtD) (hp : l[k]? = some p) : (allK a b c d dx dy l k).set k (moveP a b c d dx dy p) = allK a b c d dx dy l (k + 1) := by
  have hk : k < l.length := (List.getElem?_eq_some_iff.1 hp).1
  unfold allK
  rw [show l.length - k = (l.length - (k + 1)) + 1 by omega, List.replicate_succ, List.set_append_right _ _ (by simp; omega), List.length_map, List.length_take, Nat.min_eq_left (by omega), Nat.sub_self, List.set_cons_zero, List.take_add_one, hp]
  simp

theorem rnd_bd (a c x y : Int) (a0 : -32768 ≤ a) (a1 : a ≤ 32767) (c0 : -32768 ≤ c) (c1 : c ≤ 32767) (hx : Near x) (hy : Near y) : -562949953421312 ≤ rnd (a * x + c * y) ∧ rnd (a * x + c * y) ≤ 562949953421312 := by
  have := mul_bd a x a0 a1 hx.1 hx.2
  have := mul_bd c y c0 c1 hy.1 hy.2
  unfold rnd
  omega

set_option maxRecDepth 100000 in
set_option maxHeartbeats 2000000 in
theorem all_any (A : Option Addr) (n cap : Nat) (l : List PtD) (a b c d dx dy : Int) (w : World) (hr : RowS encPd 3 w A n l) (hn : n ≤ 1000000000000) (hl : ∀ p ∈ l, NearP p) (a0 : -32768 ≤ a) (a1 : a ≤ 32767) (b0 : -32768 ≤ b) (b1 : b ≤ 32767) (c0 : -32768 ≤ c) (c1 : c ≤ 32767) (d0 : -32768 ≤ d) (d1 : d ≤ 32767)
    (hdx : Near dx) (hdy : Near dy) : Calls Try.prog 106 #[.slice A n cap, mxV a b c d, .int .i64 dx, .int .i64 dy] w (RetS 59 encPd 3 w (l.map (moveP a b c d dx dy))) := by
  obtain ⟨i0, hi, hz0, hz1, hz2⟩ := info_parts Try.ptinfoD
  obtain ⟨u0, u1⟩ := hdx
  obtain ⟨v0, v1⟩ := hdy
  have Hn := Lib.hid hr.len
  have HL := Lib.hid hl
  clear hl
  go_enter Try.func106, Try.ntmps106
  go_wp2_with (at_make; refine wpList_make_S rfl (.tmp 13) (.tmp 13) _ rfl 59 encPd 3 encPd_len (by omega) w.heap.size i0 _ (0, 0, false) 24 Try.underlying51 hi hz0 hz1 rfl hz2 _ _ n rfl rfl rfl rfl (by omega) (by omega) (by simp) ?_; intro w1 hown1 hg1)
  have hb1 : Below w.heap.size w w1 := ((Below.refl _ w).alloc (Nat.le_refl _) _).grown hg1 (by simp) (fun k e => by cases e)
  have hmx : w1.heap[w.heap.size]? = some (.cells #[.int .i16 a, .int .i16 b, .int .i16 c, .int .i16 d] 38 (0, 0)) := (hg1.block w.heap.size (by simp) (by simp)).trans (heap_alloc_new w _)
  simp only [show (w.alloc (.cells #[.int .i16 a, .int .i16 b, .int .i16 c, .int .i16 d] 38)).heap.size = w.heap.size + 1 by simp] at *
  clear hg1
  rw [show List.replicate n ((0, 0, false) : PtD) = allK a b c d dx dy l 0 by simp [allK, Hn.out]] at hown1
  go_loopw [17] (fun i wr => ∃ k : Nat, k ≤ n ∧ i = .int .i64 k ∧ OwnS 59 encPd 3 wr w.heap.size (some ⟨w.heap.size + 1, 0, none⟩) n n (allK a b c d dx dy l k) ∧ wr.heap[w.heap.size]? = some (.cells #[.int .i16 a, .int .i16 b, .int .i16 c, .int .i16 d] 38 (0, 0)) ∧ Below w.heap.size w wr) (fun i _ => n - (intOf i).toNat)
  case atStart => exact ⟨0, Nat.zero_le _, rfl, hown1, hmx, hb1⟩
  case round =>
    clear hown1 hmx hb1
    obtain ⟨k, hk, rfl, hown, hmx, hbel⟩ := hrel
    by_cases hlt : k < n
    · obtain ⟨p, hp⟩ : ∃ p, l[k]? = some p := ⟨l[k]'(by have := Hn.out; omega), List.getElem?_eq_getElem (by have := Hn.out; omega)⟩
      obtain ⟨g, off, rfl, hg, hc⟩ := (hr.below hbel).at encPd_len (by omega) hp
      have hq0 : wr.cell? ⟨g, off + k * 3, none⟩ = some (.int .i64 p.1) := hc 0 _ rfl
      have hq1 : wr.cell? ⟨g, off + k * 3 + 1, none⟩ = some (.int .i64 p.2.1) := hc 1 _ rfl
      have hq2 : wr.cell? ⟨g, off + k * 3 + 2, none⟩ = some (.bool p.2.2) := hc 2 _ rfl
      have Hp := Lib.hid hp
      obtain ⟨⟨x0, x1⟩, ⟨y0, y1⟩⟩ := HL.out p (List.mem_of_getElem? hp)
      obtain ⟨x, y, on⟩ := p
      simp only at hq0 hq1 hq2 x0 x1 y0 y1
      clear hp hc
      have m0 : wr.cell? ⟨w.heap.size, 0, none⟩ = some (.int .i16 a) := cell_of_row wr _ 0 _ _ _ hmx
      have m1 : wr.cell? ⟨w.heap.size, 1, none⟩ = some (.int .i16 b) := cell_of_row wr _ 1 _ _ _ hmx
      have m2 : wr.cell? ⟨w.heap.size, 2, none⟩ = some (.int .i16 c) := cell_of_row wr _ 2 _ _ _ hmx
      have m3 : wr.cell? ⟨w.heap.size, 3, none⟩ = some (.int .i16 d) := cell_of_row wr _ 3 _ _ _ hmx
      have Hmx := Lib.hid hmx
      clear hmx
      have hsz := hbel.size
      have hlm : w.heap.size < wr.heap.size := lt_of_block Hmx.out
      go_wp2_with fail
      refine (apply_any a b c d x y on _ a0 a1 b0 b1 c0 c1 d0 d1 x0 x1 y0 y1).mono ?_
      rintro e w2 ⟨rfl, hb2⟩
      obtain ⟨g1, g2⟩ := rnd_bd a c x y a0 a1 c0 c1 ⟨x0, x1⟩ ⟨y0, y1⟩
      obtain ⟨g3, g4⟩ := rnd_bd b d x y b0 b1 d0 d1 ⟨x0, x1⟩ ⟨y0, y1⟩
      go_wp2_with fail
      refine (move_any _ _ on dx dy _ (by omega) (by omega) (by omega) (by omega) (by omega) (by omega) (by omega) (by omega)).mono ?_
      rintro e w3 ⟨rfl, hb3⟩
      have hA : Below wr.heap.size wr (wr.alloc (.cells #[.int .i64 x, .int .i64 y, .bool on] 59)) := (Below.refl _ _).alloc (Nat.le_refl _) _
      have hb : Below wr.heap.size wr w3 := hA.trans ((hb2.trans (hb3.mono hb2.size)).mono hA.size)
      have hown3 := hown.below hb
      have hmx3 := (hb.block _ hlm).trans Hmx.out
      have hbel3 := hbel.trans (hb.mono hsz)
      clear hA hb hb2 hb3 hown hbel m0 m1 m2 m3 hq0 hq1 hq2 Hmx
      obtain ⟨z, hz⟩ : ∃ z, (allK a b c d dx dy l k)[k]? = some z := ⟨_, List.getElem?_eq_getElem (by rw [allK_len _ _ _ _ _ _ _ _ (by have := Hn.out; omega)]; have := Hn.out; omega)⟩
      obtain ⟨g', off', e', hg', hc'⟩ := (hown3.row encPd_len).at encPd_len (by omega) hz
      simp only [Option.some.injEq, Addr.mk.injEq, and_true] at e'
      obtain ⟨rfl, rfl⟩ := e'
      have r0 : w3.cell? ⟨w.heap.size + 1, k * 3, none⟩ = some (.int .i64 z.1) := by have := hc' 0 _ rfl; rwa [Nat.zero_add] at this
      have r1 : w3.cell? ⟨w.heap.size + 1, k * 3 + 1, none⟩ = some (.int .i64 z.2.1) := by have := hc' 1 _ rfl; rwa [Nat.zero_add] at this
      have r2 : w3.cell? ⟨w.heap.size + 1, k * 3 + 2, none⟩ = some (.bool z.2.2) := by have := hc' 2 _ rfl; rwa [Nat.zero_add] at this
      clear hc' hz
      have f0 := hown3.thaw
      have hst := ownS_store encPd_len hown3 hlt (moveP a b c d dx dy (x, y, on))
      rw [allK_set _ _ _ _ _ _ _ _ _ Hp.out] at hst
      have hst' := (setCells_block (g := w.heap.size + 1) (q := w.heap.size) (by omega) (encPd (moveP a b c d dx dy (x, y, on))) w3 (k * 3)).trans hmx3
      have hst'' := setCells_below (g := w.heap.size + 1) (by omega) (encPd (moveP a b c d dx dy (x, y, on))) w3 (k * 3) hbel3
      have S1 := Lib.hid hst
      have S2 := Lib.hid hst'
      have S3 := Lib.hid hst''
      clear hst hst' hst'' hown3 hmx3 hbel3
      go_wp2
      go_roundw
      case rel => exact ⟨k + 1, by omega, by go_num, S1.out, S2.out, S3.out⟩
      case measure => simp [intOf]; omega
    · have hE : allK a b c d dx dy l k = l.map (moveP a b c d dx dy) := by
        have := Hn.out
        unfold allK
        rw [List.take_of_length_le (by omega), show l.length - k = 0 by omega]
        simp
      rw [hE] at hown
      clear hE hmx
      go_wp2
      go_ret
      exact ⟨_, _, _, rfl, hown, hbel⟩

end Go.Proofs.Ytdaeffnaoeblpaa

/- flat: what glyphs tell, one made of another, as plain functions. -/
namespace Go.Proofs.Ytdaeffnaoeblpaa
open Go.RowKit
set_option linter.unusedVariables false
set_option linter.unusedSimpArgs false

/-- An outline that is told may be. -/
theorem pk_fit {zs : List Int} (hB : Bytes zs) (sh pl : Int) (fl : List Int) (a i : Nat) : -32768 ≤ (pkAt zs sh pl fl a (i + 1)).2 - (pkAt zs sh pl fl a i).2 ∧ (pkAt zs sh pl fl a (i + 1)).2 - (pkAt zs sh pl fl a i).2 ≤ 32767 := by
  have h : (pkAt zs sh pl fl a (i + 1)).2 = (pkAt zs sh pl fl a i).2 + cv zs sh pl (fl.getD i 0) (pkAt zs sh pl fl a i).1 := rfl
  rw [h]
  have h1 := n1at_lt hB (pkAt zs sh pl fl a i).1
  have h2 := n2at_lt hB (pkAt zs sh pl fl a i).1
  have h3 := sgn_bd h2.1 h2.2
  unfold cv
  split
  · split <;> omega
  · split
    · omega
    · omega

theorem fit_pks {zs : List Int} (hB : Bytes zs) (sh pl : Int) (fl : List Int) (a n : Nat) (xs : List Int) (hx : xs = (List.range n).map fun i => (pkAt zs sh pl fl a (i + 1)).2) : fitL (chs xs) = true := by
  subst hx
  unfold fitL
  rw [List.all_eq_true]
  intro d hd
  unfold chs chK at hd
  simp only [List.mem_map, List.mem_range, List.length_map, List.length_range] at hd
  obtain ⟨i, hi, rfl⟩ := hd
  have key := pk_fit hB sh pl fl a i
  have g1 : ((List.range n).map fun i => (pkAt zs sh pl fl a (i + 1)).2).getD i 0 = (pkAt zs sh pl fl a (i + 1)).2 := by simp [hi]
  refine fitsB_of ?_ ?_
  all_goals
    unfold chA
    rw [g1]
    cases i with
    | zero =>
      have h0 : (pkAt zs sh pl fl a 0).2 = 0 := rfl
      rw [h0] at key
      simp only [if_pos]
      omega
    | succ i =>
      have g2 : ((List.range n).map fun i => (pkAt zs sh pl fl a (i + 1)).2).getD (i + 1 - 1) 0 = (pkAt zs sh pl fl a (i + 1)).2 := by simp [show i < n by omega]
      rw [g2, if_neg (by omega)]
      omega

theorem oParse_right {zs : List Int} (hB : Bytes zs) {g : Gl} {a : Nat} (h : oParse zs = some (g, a)) : oRight g = true := by
  obtain ⟨s, hg, he, rfl, rfl⟩ := oParse_inv h
  rw [oTold_eq hg he]
  obtain ⟨h1, h2, h3, h4⟩ := hg
  have hl : s.fl.length = cntE (oEs zs (n2at zs 0).toNat) := by
    unfold oFs at h3
    exact (fAll_some _ _ _ (Nat.sub_le _ _) (Nat.zero_le _) h3).1
  have hz := n2at_lt hB (10 + 2 * (n2at zs 0).toNat)
  unfold oRight oGl
  simp only [Bool.and_eq_true, decide_eq_true_eq]
  refine ⟨⟨⟨⟨⟨?_, ?_⟩, ?_⟩, ?_⟩, ?_⟩, ?_⟩
  · rw [oEs_len]; omega
  · rw [List.length_take]; unfold oSz; omega
  · rw [oEs_len]; exact h2
  · rw [oPs_len]; exact hl
  · exact fit_pks hB 2 16 s.fl s.at_ s.fl.length _ (by unfold xsOf oPs; rw [List.map_map]; rfl)
  · exact fit_pks hB 4 32 s.fl (oXe zs s) s.fl.length _ (by unfold ysOf oPs; rw [List.map_map]; rfl)

/-- The contours of an outline. -/
def ctsG (g : Gl) : List (List Sp) := if oRight g then (List.range g.es.length).map (seg g.ps g.es) else []
/-- What a glyph's bytes tell: contours of its own, and the parts that it is made of. -/
def shZ (zs : List Int) : Option (List (List Sp) × List Pt) :=
  if zs.length = 0 then some ([], []) else if cIs zs then (if cOk zs && fillB (zs.drop (cgEnd zs 2)) then some ([], (cgRd zs 2).ps) else none) else
    match oParse zs with
    | some (g, a) => if fillB (zs.drop a) then some (ctsG g, []) else none
    | none => none

/-- How many points there are. -/
def ptsN (cs : List (List Sp)) : Nat := (cs.map List.length).sum
theorem ptsN_nil : ptsN [] = 0 := rfl
theorem ptsN_append (a b : List (List Sp)) : ptsN (a ++ b) = ptsN a + ptsN b := by simp [ptsN]
theorem ptsN_take {cs : List (List Sp)} {k : Nat} {c : List Sp} (h : cs[k]? = some c) : ptsN (cs.take (k + 1)) = ptsN (cs.take k) + c.length := by
  rw [List.take_add_one, h, ptsN_append]
  rfl
theorem ptsN_le {cs : List (List Sp)} (k : Nat) : ptsN (cs.take k) ≤ ptsN cs := by
  have h : ptsN (cs.take k ++ cs.drop k) = ptsN cs := by rw [List.take_append_drop]
  rw [ptsN_append] at h
  omega
theorem seg_len {ps : List Sp} {es : List Int} {i : Nat} (h1 : segF es i < segT es i) (h2 : segT es i ≤ ps.length) : (seg ps es i).length = segT es i - segF es i := by
  unfold seg
  rw [List.length_drop, List.length_take]
  omega
theorem ptsN_segs {ps : List Sp} {es : List Int} : ∀ n, (∀ i, i < n → segF es i < segT es i ∧ segT es i ≤ ps.length) → ptsN ((List.range n).map (seg ps es)) = segF es n
  | 0, _ => rfl
  | n + 1, h => by
    rw [List.range_succ, List.map_append, ptsN_append, ptsN_segs n (fun i hi => h i (by omega)), segF_succ]
    obtain ⟨a, b⟩ := h n (by omega)
    show segF es n + ((seg ps es n).length + 0) = _
    rw [seg_len a b]
    omega
theorem ctsG_len {g : Gl} (hr : oRight g = true) : (ctsG g).length = g.es.length := by unfold ctsG; rw [if_pos hr]; simp
theorem ctsG_get {g : Gl} (hr : oRight g = true) {i : Nat} (hi : i < g.es.length) : (ctsG g)[i]? = some (seg g.ps g.es i) := by unfold ctsG; rw [if_pos hr]; simp [hi]
theorem ctsG_pts {g : Gl} (ho : g.ok) (hr : oRight g = true) : ptsN (ctsG g) = g.ps.length := by
  obtain ⟨⟨_, _, hrise, hcnt⟩, _, _⟩ := oRight_parts hr
  unfold ctsG
  rw [if_pos hr, ptsN_segs _ (fun i hi => seg_bounds ho.es hrise hcnt hi), hcnt]
  unfold segF cntE
  rfl

/-- A contour, moved as a part asks. -/
def mvC (p : Pt) (c : List Sp) : List Sp := c.map (moveP p.xx p.xy p.yx p.yy p.x p.y)
/-- What a walk tells: the error, the contours; how many glyphs it has met, how many points. -/
abbrev VR := Int × List (List Sp) × Nat × Nat
def partsZ (f : Int → Nat → Nat → VR) : List Pt → List (List Sp) → Nat → Nat → VR
  | [], acc, m, q => (0, acc, m, q)
  | p :: ps, acc, m, q => if (f p.i m q).1 = 0 then partsZ f ps (acc ++ (f p.i m q).2.1.map (mvC p)) (f p.i m q).2.2.1 (f p.i m q).2.2.2 else ((f p.i m q).1, [], (f p.i m q).2.2.1, (f p.i m q).2.2.2)
def stepZ (f : Int → Nat → Nat → VR) (m q : Nat) : Option (List (List Sp) × List Pt) → VR
  | none => (2, [], m, q)
  | some (cs, ps) => if 20000 < q + ptsN cs then (9, [], m, q + ptsN cs) else partsZ f ps cs m (q + ptsN cs)
def visitZ (L : List (List Int)) : Nat → List Int → Int → Nat → Nat → VR
  | 0, _, _, m, q => (7, [], m, q)
  | k + 1, way, id, m, q =>
    if id < 0 ∨ (L.length : Int) ≤ id then (6, [], m, q)
    else if way.contains id then (8, [], m, q)
    else if 16 < way.length then (7, [], m, q)
    else if m = 20000 then (9, [], m, q)
    else stepZ (visitZ L k (way ++ [id])) (m + 1) q (shZ (L.getD id.toNat []))
/-- A glyph's contours; the error. -/
def flatZ (L : List (List Int)) (id : Int) : VR := visitZ L 18 [] id 0 0

/-- What a walk tells is in order: the counts have not gone down, and of an error there are no contours. -/
structure VOk (m q : Nat) (r : VR) : Prop where
  no : r.1 ≠ 0 → r.2.1 = []
  mo : m ≤ r.2.2.1
  m2 : m ≤ 20000 → r.2.2.1 ≤ 20000
  q2 : q ≤ 20000 → r.1 = 0 → r.2.2.2 ≤ 20000
  len : r.2.1.length ≤ 32767 * (r.2.2.1 - m)

theorem shZ_len {zs : List Int} {cs : List (List Sp)} {ps : List Pt} (h : shZ zs = some (cs, ps)) : cs.length ≤ 32767 := by
  unfold shZ at h
  split at h
  · cases h; simp
  split at h
  · split at h
    · cases h; simp
    · cases h
  · split at h
    · rename_i g a hp
      split at h
      · cases h
        unfold ctsG
        split
        · rename_i hr
          have := (oRight_parts hr).1.1
          simpa using this
        · simp
      · cases h
    · cases h
/-- The same of parts, of which some are there already. -/
structure POk (acc : List (List Sp)) (m q : Nat) (r : VR) : Prop where
  no : r.1 ≠ 0 → r.2.1 = []
  mo : m ≤ r.2.2.1
  m2 : m ≤ 20000 → r.2.2.1 ≤ 20000
  q2 : q ≤ 20000 → r.1 = 0 → r.2.2.2 ≤ 20000
  len : r.2.1.length ≤ acc.length + 32767 * (r.2.2.1 - m)
theorem partsZ_ok {f : Int → Nat → Nat → VR} (hf : ∀ i m q, VOk m q (f i m q)) : ∀ (ps : List Pt) (acc : List (List Sp)) (m q : Nat), POk acc m q (partsZ f ps acc m q)
  | [], acc, m, q => ⟨fun h => absurd rfl h, Nat.le_refl _, fun h => h, fun h _ => h, by show acc.length ≤ _; omega⟩
  | p :: ps, acc, m, q => by
    have h := hf p.i m q
    unfold partsZ
    split
    · rename_i h0
      have h2 := partsZ_ok hf ps (acc ++ (f p.i m q).2.1.map (mvC p)) (f p.i m q).2.2.1 (f p.i m q).2.2.2
      refine ⟨h2.no, Nat.le_trans h.mo h2.mo, fun hm => h2.m2 (h.m2 hm), fun hq => h2.q2 (h.q2 hq h0), ?_⟩
      have h3 := h2.len
      have h4 := h.len
      have h5 := h.mo
      have h6 := h2.mo
      rw [List.length_append, List.length_map] at h3
      omega
    · rename_i h0
      exact ⟨fun _ => rfl, h.mo, h.m2, fun _ h1 => absurd h1 h0, Nat.zero_le _⟩
theorem visitZ_ok (L : List (List Int)) : ∀ (k : Nat) (way : List Int) (id : Int) (m q : Nat), VOk m q (visitZ L k way id m q)
  | 0, _, _, m, q => ⟨fun _ => rfl, Nat.le_refl _, fun h => h, fun h _ => h, Nat.zero_le _⟩
  | k + 1, way, id, m, q => by
    unfold visitZ
    split
    · exact ⟨fun _ => rfl, Nat.le_refl _, fun h => h, fun h _ => h, Nat.zero_le _⟩
    split
    · exact ⟨fun _ => rfl, Nat.le_refl _, fun h => h, fun h _ => h, Nat.zero_le _⟩
    split
    · exact ⟨fun _ => rfl, Nat.le_refl _, fun h => h, fun h _ => h, Nat.zero_le _⟩
    split
    · exact ⟨fun _ => rfl, Nat.le_refl _, fun h => h, fun h _ => h, Nat.zero_le _⟩
    rename_i _ _ _ hm
    cases hs : shZ (L.getD id.toNat []) with
    | none => exact ⟨fun _ => rfl, by show m ≤ m + 1; omega, fun h => by show m + 1 ≤ _; omega, fun _ h => absurd h (by simp [stepZ]), Nat.zero_le _⟩
    | some z =>
      obtain ⟨cs, ps⟩ := z
      have hl := shZ_len hs
      unfold stepZ
      simp only
      split
      · exact ⟨fun _ => rfl, by show m ≤ m + 1; omega, fun h => by show m + 1 ≤ _; omega, fun _ h => absurd h (by simp [stepZ]), Nat.zero_le _⟩
      · have h2 := partsZ_ok (visitZ_ok L k (way ++ [id])) ps cs (m + 1) (q + ptsN cs)
        refine ⟨h2.no, by have := h2.mo; omega, fun h => h2.m2 (by omega), fun h => h2.q2 (by omega), ?_⟩
        have h3 := h2.len
        have h4 := h2.mo
        omega

/-- How far points may stand out, so deep. -/
def nB : Nat → Int
  | 0 => 32768
  | k + 1 => 4 * nB k + 32769
def inB (b : Int) (p : Sp) : Prop := (-b ≤ p.1 ∧ p.1 ≤ b) ∧ (-b ≤ p.2.1 ∧ p.2.1 ≤ b)
def inC (b : Int) (cs : List (List Sp)) : Prop := ∀ c ∈ cs, c.length ≤ 1000000 ∧ ∀ p ∈ c, inB b p
theorem nB_mono (k : Nat) : 32768 ≤ nB k ∧ nB k ≤ nB (k + 1) := by
  induction k with
  | zero => exact ⟨by decide, by decide⟩
  | succ k ih =>
    have h : nB (k + 1) = 4 * nB k + 32769 := rfl
    have h2 : nB (k + 1 + 1) = 4 * nB (k + 1) + 32769 := rfl
    omega
theorem inC_le {a b : Int} {cs : List (List Sp)} (h : inC a cs) (hab : a ≤ b) : inC b cs := fun c hc => ⟨(h c hc).1, fun p hp => by
  obtain ⟨⟨h1, h2⟩, h3, h4⟩ := (h c hc).2 p hp
  exact ⟨⟨by omega, by omega⟩, by omega, by omega⟩⟩
theorem mul_in (a x b : Int) (a0 : -32768 ≤ a) (a1 : a ≤ 32767) (x0 : -b ≤ x) (x1 : x ≤ b) : -(32768 * b) ≤ a * x ∧ a * x ≤ 32768 * b := by
  have h1 : a.natAbs ≤ 32768 := by omega
  have h2 : x.natAbs ≤ b.toNat := by omega
  have h3 : (a * x).natAbs ≤ 32768 * b.toNat := by
    rw [Int.natAbs_mul]
    exact Nat.mul_le_mul h1 h2
  omega
theorem moveP_in {p : Pt} (hp : p.ok) {k : Nat} {s : Sp} (h : inB (nB k) s) : inB (nB (k + 1)) (moveP p.xx p.xy p.yx p.yy p.x p.y s) := by
  obtain ⟨⟨h1, h2⟩, h3, h4⟩ := h
  have b1 := mul_in p.xx s.1 (nB k) hp.xx.1 hp.xx.2 h1 h2
  have b2 := mul_in p.yx s.2.1 (nB k) hp.yx.1 hp.yx.2 h3 h4
  have b3 := mul_in p.xy s.1 (nB k) hp.xy.1 hp.xy.2 h1 h2
  have b4 := mul_in p.yy s.2.1 (nB k) hp.yy.1 hp.yy.2 h3 h4
  have hx := hp.x
  have hy := hp.y
  have hn : nB (k + 1) = 4 * nB k + 32769 := rfl
  have hm := (nB_mono k).1
  unfold moveP inB rnd
  simp only
  rw [hn]
  refine ⟨⟨?_, ?_⟩, ?_, ?_⟩ <;> omega
theorem inC_move {p : Pt} (hp : p.ok) {k : Nat} {cs : List (List Sp)} (h : inC (nB k) cs) : inC (nB (k + 1)) (cs.map (mvC p)) := by
  intro c hc
  obtain ⟨c0, hc0, rfl⟩ := List.mem_map.1 hc
  refine ⟨by unfold mvC; rw [List.length_map]; exact (h c0 hc0).1, fun s hs => ?_⟩
  obtain ⟨s0, hs0, rfl⟩ := List.mem_map.1 hs
  exact moveP_in hp ((h c0 hc0).2 s0 hs0)
theorem inC_append {b : Int} {x y : List (List Sp)} (hx : inC b x) (hy : inC b y) : inC b (x ++ y) := fun c hc => by
  rcases List.mem_append.1 hc with h | h
  · exact hx c h
  · exact hy c h
theorem inC_nil (b : Int) : inC b [] := fun c hc => by cases hc

theorem partsZ_in {f : Int → Nat → Nat → VR} {k : Nat} (hf : ∀ i m q, inC (nB k) (f i m q).2.1) : ∀ (ps : List Pt) (acc : List (List Sp)) (m q : Nat), (∀ p ∈ ps, p.ok) → inC (nB (k + 1)) acc → inC (nB (k + 1)) (partsZ f ps acc m q).2.1
  | [], acc, m, q, _, ha => ha
  | p :: ps, acc, m, q, ho, ha => by
    unfold partsZ
    split
    · exact partsZ_in hf ps _ _ _ (fun x hx => ho x (by simp [hx])) (inC_append ha (inC_move (ho p (by simp)) (hf _ _ _)))
    · exact inC_nil _

theorem seg_in {ps : List Sp} {es : List Int} {b : Int} (hl : ps.length ≤ 1000000) (h : ∀ p ∈ ps, inB b p) (n : Nat) : inC b ((List.range n).map (seg ps es)) := by
  intro c hc
  obtain ⟨i, _, rfl⟩ := List.mem_map.1 hc
  refine ⟨?_, fun p hp => h p (List.mem_of_mem_take (List.mem_of_mem_drop hp))⟩
  unfold seg
  rw [List.length_drop, List.length_take]
  omega
theorem shZ_in {zs : List Int} (hB : Bytes zs) {cs : List (List Sp)} {ps : List Pt} (h : shZ zs = some (cs, ps)) : inC (nB 0) cs := by
  unfold shZ at h
  split at h
  · cases h; exact inC_nil _
  split at h
  · split at h
    · cases h; exact inC_nil _
    · cases h
  · split at h
    · rename_i g a hp
      split at h
      · cases h
        unfold ctsG
        rw [if_pos (oParse_right hB hp)]
        exact seg_in (oParse_ok hB hp).2.2.2 (fun p hp2 => by
          obtain ⟨⟨u0, u1⟩, u2, u3⟩ := (oParse_ok hB hp).1.ps p hp2
          unfold inB nB
          exact ⟨⟨by omega, by omega⟩, by omega, by omega⟩) _
      · cases h
    · cases h

theorem pLoop_ok {zs : List Int} (hB : Bytes zs) : ∀ (n : Nat) (s : PS), (∀ p ∈ s.ps, p.ok) → ∀ p ∈ (pLoop zs n s).ps, p.ok
  | 0, s, h => h
  | n + 1, s, h => by
    unfold pLoop
    split
    · refine pLoop_ok hB n _ fun p hp => ?_
      simp only [pNext, List.mem_append, List.mem_singleton] at hp
      rcases hp with hp | rfl
      · exact h p hp
      · exact rdP_ok hB _ _
    · exact h
theorem shZ_ok {zs : List Int} (hB : Bytes zs) {cs : List (List Sp)} {ps : List Pt} (h : shZ zs = some (cs, ps)) : ∀ p ∈ ps, p.ok := by
  unfold shZ at h
  split at h
  · cases h; intro p hp; cases hp
  split at h
  · split at h
    · cases h
      exact pLoop_ok hB 201 _ (fun p hp => by cases hp)
    · cases h
  · split at h
    · split at h
      · cases h; intro p hp; cases hp
      · cases h
    · cases h
/-- Bytes alone. -/
def ptsOk (L : List (List Int)) : Prop := ∀ z ∈ L, Bytes z
theorem getD_ok {L : List (List Int)} (h : ptsOk L) {id : Int} (h0 : 0 ≤ id) (h1 : id < (L.length : Int)) : Bytes (L.getD id.toNat []) ∧ ∀ cs ps, shZ (L.getD id.toNat []) = some (cs, ps) → ∀ p ∈ ps, p.ok := by
  have hl : id.toNat < L.length := by omega
  have hB : Bytes (L.getD id.toNat []) := by
    rw [List.getD_eq_getElem?_getD, List.getElem?_eq_getElem hl]
    exact h _ (List.getElem_mem hl)
  exact ⟨hB, fun cs ps hs => shZ_ok hB hs⟩

theorem visitZ_in {L : List (List Int)} (hL : ptsOk L) : ∀ (k : Nat) (way : List Int) (id : Int) (m q : Nat), way.length + (k + 2) = 18 → inC (nB k) (visitZ L (k + 2) way id m q).2.1 := by
  intro k
  induction k with
  | zero =>
    intro way id m q hw
    unfold visitZ
    split
    · exact inC_nil _
    split
    · exact inC_nil _
    split
    · exact inC_nil _
    split
    · exact inC_nil _
    rename_i hid _ _ _
    obtain ⟨hB, hP⟩ := getD_ok hL (id := id) (by omega) (by omega)
    cases hs : shZ (L.getD id.toNat []) with
    | none => exact inC_nil _
    | some z =>
      obtain ⟨cs, ps⟩ := z
      unfold stepZ
      simp only
      split
      · exact inC_nil _
      · have hcs := shZ_in hB hs
        have hv : ∀ i m q, (visitZ L 1 (way ++ [id]) i m q).1 ≠ 0 := by
          intro i m q
          unfold visitZ
          split
          · simp
          split
          · simp
          rw [if_pos (by simp; omega)]
          simp
        cases ps with
        | nil => exact hcs
        | cons p ps =>
          unfold partsZ
          rw [if_neg (hv _ _ _)]
          exact inC_nil _
  | succ k ih =>
    intro way id m q hw
    unfold visitZ
    split
    · exact inC_nil _
    split
    · exact inC_nil _
    split
    · exact inC_nil _
    split
    · exact inC_nil _
    rename_i hid _ _ _
    obtain ⟨hB, hP⟩ := getD_ok hL (id := id) (by omega) (by omega)
    cases hs : shZ (L.getD id.toNat []) with
    | none => exact inC_nil _
    | some z =>
      obtain ⟨cs, ps⟩ := z
      unfold stepZ
      simp only
      split
      · exact inC_nil _
      · have h0 : nB 0 ≤ nB (k + 1) := by have := (nB_mono (k + 1)).1; show (32768 : Int) ≤ _; exact this
        exact partsZ_in (fun i m q => ih (way ++ [id]) i m q (by simp; omega)) ps cs _ _ (hP _ _ hs) (inC_le (shZ_in hB hs) h0)

end Go.Proofs.Ytdaeffnaoeblpaa
