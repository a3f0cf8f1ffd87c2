/- What the laws of this seat lean on: SimQ SimR SimS SimT SimW2 SimE JoinN SimE2. -/
import Derived.Laws.Rows
import Derived.Laws.Tables
import Derived.StillTailTactics
import Derived.Laws.StructEq
import Derived.Test.YtlcnonhebppeiaaBase1
import Derived.Test.YtlcnonhebppeiaaBase2
import Derived.Test.YtlcnonhebppeiaaBase3

/- simple: readFlags, as a contract over this seat's translation. -/
namespace Go.Proofs.Ytlcnonhebppeiaa
open Go.RowKit
set_option linter.unusedVariables false

def slLenP : Value → Nat
  | .slice _ n _ => n
  | _ => 0

/-- A Reader, and a fresh row of bytes beside it. -/
structure LF (w wr : World) (B b : Nat) (zs : List Int) (i : Nat) (A : Option Addr) (n c : Nat) (xs : List Int) : Prop where
  rd : RdQ wr B b zs i
  far : Far wr b w.heap.size
  own : OwnB wr w.heap.size A n c xs
  gr : w.grownBy wr (some b)
  lt : b < w.heap.size
section
variable {w wr w' : World} {B b : Nat} {zs : List Int} {i j : Nat} {A A2 : Option Addr} {n n2 c c2 : Nat} {xs ys : List Int}
theorem LF.ask (h : LF w wr B b zs i A n c xs) (hr : RdQ w' B b zs j) (hg : wr.grownBy w' (some b)) (hf : Fars wr w' b) : LF w w' B b zs j A n c xs :=
  ⟨hr, hf _ h.far, h.own.grown hg (fun g e he => by have := (h.own.from_ g e).1; have := h.lt; cases he; omega), grown_trans h.gr hg, h.lt⟩
theorem LF.app (h : LF w wr B b zs i A n c xs) (ho : OwnB w' w.heap.size A2 n2 c2 ys) (hg : wr.grownBy w' (blockOf A)) : LF w w' B b zs i A2 n2 c2 ys := by
  have hlt := h.lt
  have hs := h.gr.size
  have hk : ∀ g, g < wr.heap.size → g < w.heap.size → w'.heap[g]? = wr.heap[g]? := fun g hg1 hg2 => hg.block g hg1 (fun e => by have := (h.own.from_ g e.symm).1; omega)
  refine ⟨h.rd.keepF h.far hg.size (fun g h1 h2 => hk g h1 (by rcases h2 with rfl | h2; exact hlt; exact h2)), h.far.keep (hk b (by omega) hlt), ho, ⟨hg.os.trans h.gr.os, hg.tape.trans h.gr.tape, hg.output.trans h.gr.output, Nat.le_trans hs hg.size, fun k hkl hne => (hk k (by omega) hkl).trans (h.gr.block k hkl hne)⟩, hlt⟩
theorem LF.alloc (h : LF w wr B b zs i A n c xs) (o : Obj) : LF w (wr.alloc o) B b zs i A n c xs := by
  have hA := (Below.refl wr.heap.size wr).alloc (Nat.le_refl _) o
  have hlt := h.lt
  have hs := h.gr.size
  exact ⟨h.rd.below hA, h.far.keep (hA.block b (by omega)), h.own.below hA, grown_trans h.gr (grown_of_below hA _), h.lt⟩
end

/-- What telling flags leaves. -/
def RetFl (w : World) (B b : Nat) (zs : List Int) (n i : Nat) (e : Ending) (w' : World) : Prop :=
  w.grownBy w' (some b) ∧ ((fAll zs n ⟨[], i⟩ = none ∧ e = .returned (.tuple #[.slice none 0 0, .bool false]) ∧ ∃ j, RdQ w' B b zs j)
    ∨ (∃ s A c, fAll zs n ⟨[], i⟩ = some s ∧ e = .returned (.tuple #[.slice A n c, .bool true]) ∧ OwnB w' w.heap.size A n c s.fl ∧ RdQ w' B b zs s.at_))

theorem fNext_bytes {zs : List Int} (hB : Bytes zs) {s : FS} (h : Bytes s.fl) : Bytes (fNext zs s).fl := by
  intro x hx
  simp only [fNext, List.mem_append, List.mem_replicate] at hx
  rcases hx with hx | ⟨_, rfl⟩
  · exact h x hx
  · exact n1at_lt hB _

set_option maxRecDepth 100000 in
set_option maxHeartbeats 4000000 in
theorem oflags_any (n : Nat) {w : World} {B b : Nat} {zs : List Int} {i : Nat} (h : RdQ w B b zs i) (hB : Bytes zs) (hl : zs.length ≤ 1000000) (hn : n ≤ 1000000) :
    Calls Try.prog 104 #[.pointer (some ⟨b, 0, none⟩), .int .i64 n] w (RetFl w B b zs n i) := by
  obtain ⟨i0, hi, hz0, hz1, hz2⟩ := info_parts Try.u8info
  have HB := Lib.hid hB
  have hlt0 := h.lt
  have hf0 := farQ_size h
  clear hB
  go_enter Try.func104, Try.ntmps104
  go_wp2_with (at_make; refine wpList_make_ints rfl (.const (.int .i64 0)) (.tmp 9) _ rfl 5 .u8 w.heap.size i0 1 Try.underlying25 hi hz0 hz1 hz2 _ _ 0 n rfl rfl (by omega) (by omega) (by omega) (by omega) (by omega) (Nat.le_refl _) ?_; intro w1 hown1 hg1)
  have hs : LF w w1 B b zs i (some ⟨w.heap.size, 0, none⟩) 0 n [] :=
    ⟨h.keep hg1.size (fun q hq _ _ => hg1.block q hq (by simp)), hf0.keep (hg1.block b hlt0 (by simp)), hown1, grown_of_below (below_of_grown hg1 (Nat.le_refl _) (fun k e => by cases e)) _, hlt0⟩
  clear hown1 hg1 h hlt0 hf0
  generalize hgA : (some ⟨w.heap.size, 0, none⟩ : Option Addr) = A0 at hs ⊢
  clear hgA
  go_loopw [6] (fun v wr => ∃ (s : FS) (A : Option Addr) (n1 c1 : Nat), v = .slice A n1 c1 ∧ n1 ≤ n ∧ Hid (fAll zs n s = fAll zs n ⟨[], i⟩) ∧ LF w wr B b zs s.at_ A n1 c1 s.fl) (fun v _ => n - slLenP v)
  case atStart => exact ⟨⟨[], i⟩, A0, 0, n, rfl, Nat.zero_le _, Lib.hid rfl, hs⟩
  case round =>
    clear hs
    obtain ⟨s, A, n1, c1, rfl, hn1, HR, hs⟩ := hrel
    have Hsl := Lib.hid hs.own.len
    by_cases hlt : n1 < n
    · have hlt' : s.fl.length < n := by have := Hsl.out; omega
      have HU := Lib.hid (rdqF_u8 hs.rd HB.out (by omega))
      obtain ⟨f0, f1⟩ := n1at_lt HB.out s.at_
      have HN1 : Hid (fOk zs n s = true → fAll zs n (fNext zs s) = fAll zs n ⟨[], i⟩) := fun hk => by rw [← HR.out]; exact (fAll_step hlt' hk).symm
      have HN0 : Hid (fOk zs n s = false → fAll zs n ⟨[], i⟩ = none) := fun hk => by rw [← HR.out]; exact fAll_not hlt' hk
      have HOk : Hid (fOk zs n s = (!fb (n1at zs s.at_) 128 && decide (n1 + 1 + fMore zs s.at_ ≤ n))) := by show _ = _; unfold fOk; rw [Hsl.out]
      have HNf : Hid ((fNext zs s).fl = s.fl ++ List.replicate (fMore zs s.at_ + 1) (n1at zs s.at_)) := rfl
      have HNa : Hid ((fNext zs s).at_ = s.at_ + fSize zs s.at_) := rfl
      have HU2 : Hid (∀ (W : World) , RdQ W B b zs (s.at_ + 1) → Calls Try.prog 106 #[.pointer (some ⟨b, 0, none⟩)] W fun e w' => RetQ W B b (.int .u8 (n1at zs (s.at_ + 1))) zs (s.at_ + 1 + 1) e w' ∧ Fars W w' b) := fun W hW => rdqF_u8 hW HB.out (by omega)
      obtain ⟨g0, g1⟩ := n1at_lt HB.out (s.at_ + 1)
      have hM0 : Hid (fb (n1at zs s.at_) 8 = false → fMore zs s.at_ = 0 ∧ fSize zs s.at_ = 1) := fun h => by unfold fMore fSize; rw [h]; exact ⟨rfl, rfl⟩
      have hM1 : Hid (fb (n1at zs s.at_) 8 = true → fMore zs s.at_ = (n1at zs (s.at_ + 1)).toNat ∧ fSize zs s.at_ = 2) := fun h => by unfold fMore fSize; rw [h]; exact ⟨rfl, rfl⟩
      have e8 := and8 f0 f1
      have e128 := and128 f0 f1
      clear HR hlt'
      generalize n1at zs s.at_ = f at *
      generalize n1at zs (s.at_ + 1) = x at *
      generalize fMore zs s.at_ = M at *
      generalize fSize zs s.at_ = Z at *
      go_wp2_with fail
      refine HU.out.mono ?_
      rintro e w2 ⟨⟨rfl, h2, g2⟩, hf2⟩
      have hs2 := hs.ask h2 g2 hf2
      clear hs h2 g2 hf2 HU
      cases hb8 : fb f 8 with
      | false =>
        obtain ⟨rfl, rfl⟩ := hM0.out hb8
        rw [hb8] at e8
        clear hM0 hM1 HU2 hb8
        by_cases h128 : fb f 128 = true
        · have HNo := Lib.hid (HN0.out (by rw [HOk.out, h128]; rfl))
          rw [h128] at e128
          clear HN1 HN0 HOk h128
          go_wp2
          go_ret2
          exact ⟨hs2.gr, .inl ⟨HNo.out, rfl, _, hs2.rd⟩⟩
        · rw [Bool.not_eq_true] at h128
          rw [h128] at e128
          by_cases hfit : n1 + 1 + 0 ≤ n
          · have hk : fOk zs n s = true := by rw [HOk.out, h128, decide_eq_true hfit]; rfl
            have HNx := Lib.hid (HN1.out hk)
            clear HN1 HN0 HOk h128 hk
            go_wp2
            go_loopw [6, 37] (fun v j wr => ∃ (k : Nat) (A2 : Option Addr) (c2 : Nat), k ≤ 0 + 1 ∧ j = .int .i64 k ∧ v = .slice A2 (n1 + k) c2 ∧ LF w wr B b zs (s.at_ + 1) A2 (n1 + k) c2 (s.fl ++ List.replicate k f)) (fun _ j _ => 0 + 1 - (intOf j).toNat)
            case atStart => exact ⟨0, A, c1, Nat.zero_le _, rfl, rfl, by simpa using hs2⟩
            case round =>
              clear hs2 e8 e128
              obtain ⟨k, A2, c2, hk, rfl, rfl, hs⟩ := hrel
              have hB2 : w.heap.size ≤ wr.heap.size := hs.gr.size
              by_cases hlt2 : k < 0 + 1
              · have HRe : Hid (List.replicate k f ++ [f] = List.replicate (k + 1) f) := by show _ = _; rw [List.replicate_succ']
                go_wp2_with (at_builtin; refine wpList_append_row rfl (.tmp 39) (.tmp 41) _ rfl 5 .u8 w.heap.size i0 1 Try.underlying25 hi hz0 hz1 hz2 A2 (n1 + k) c2 _ rfl (hs.own.alloc _) (some ⟨wr.heap.size, 0, none⟩) 1 1 [f] rfl (row_one _ _ _ _) (by omega) (by omega) (by simp; omega) ?_)
                intro A3 c3 w5 ho5 hg5
                have hs5 := (hs.alloc _).app ho5 hg5
                rw [HRe.out] at hs5
                clear hs ho5 hg5
                go_wp2
                go_roundw
                case rel => exact ⟨k + 1, A3, c3, by omega, by go_num, rfl, hs5⟩
                case measure => simp [intOf]; omega
              · obtain rfl : k = 0 + 1 := by omega
                rw [← HNf.out, ← HNa.out] at hs
                go_wp2
                go_roundw
                case rel => exact ⟨fNext zs s, A2, n1 + (0 + 1), c2, rfl, by omega, HNx, hs⟩
                case measure => simp [slLenP]; omega
          · exact absurd hfit (by omega)
      | true =>
        obtain ⟨hM, rfl⟩ := hM1.out hb8
        rw [hb8] at e8
        have HMx : Hid ((M : Int) = x) := by show _ = _; rw [hM]; omega
        clear hM0 hM1 hb8 hM
        have HU3 := Lib.hid (HU2.out w2 hs2.rd)
        clear HU2
        go_wp2_with fail
        refine HU3.out.mono ?_
        rintro e w3 ⟨⟨rfl, h3, g3⟩, hf3⟩
        have hs3 := hs2.ask h3 g3 hf3
        rw [← HMx.out]
        rw [← HMx.out] at g0 g1
        clear hs2 h3 g3 hf3 HU3 HMx
        by_cases h128 : fb f 128 = true
        · have HNo := Lib.hid (HN0.out (by rw [HOk.out, h128]; rfl))
          rw [h128] at e128
          clear HN1 HN0 HOk h128
          go_wp2
          go_ret2
          exact ⟨hs3.gr, .inl ⟨HNo.out, rfl, _, hs3.rd⟩⟩
        · rw [Bool.not_eq_true] at h128
          rw [h128] at e128
          by_cases hfit : n1 + 1 + M ≤ n
          · have hk : fOk zs n s = true := by rw [HOk.out, h128, decide_eq_true hfit]; rfl
            have HNx := Lib.hid (HN1.out hk)
            clear HN1 HN0 HOk h128 hk
            go_wp2
            go_loopw [6, 37] (fun v j wr => ∃ (k : Nat) (A2 : Option Addr) (c2 : Nat), k ≤ M + 1 ∧ j = .int .i64 k ∧ v = .slice A2 (n1 + k) c2 ∧ LF w wr B b zs (s.at_ + 2) A2 (n1 + k) c2 (s.fl ++ List.replicate k f)) (fun _ j _ => M + 1 - (intOf j).toNat)
            case atStart => exact ⟨0, A, c1, Nat.zero_le _, rfl, rfl, by simpa using hs3⟩
            case round =>
              clear hs3 e8 e128
              obtain ⟨k, A2, c2, hk, rfl, rfl, hs⟩ := hrel
              have hB2 : w.heap.size ≤ wr.heap.size := hs.gr.size
              by_cases hlt2 : k < M + 1
              · have HRe : Hid (List.replicate k f ++ [f] = List.replicate (k + 1) f) := by show _ = _; rw [List.replicate_succ']
                go_wp2_with (at_builtin; refine wpList_append_row rfl (.tmp 39) (.tmp 41) _ rfl 5 .u8 w.heap.size i0 1 Try.underlying25 hi hz0 hz1 hz2 A2 (n1 + k) c2 _ rfl (hs.own.alloc _) (some ⟨wr.heap.size, 0, none⟩) 1 1 [f] rfl (row_one _ _ _ _) (by omega) (by omega) (by simp; omega) ?_)
                intro A3 c3 w5 ho5 hg5
                have hs5 := (hs.alloc _).app ho5 hg5
                rw [HRe.out] at hs5
                clear hs ho5 hg5
                go_wp2
                go_roundw
                case rel => exact ⟨k + 1, A3, c3, by omega, by go_num, rfl, hs5⟩
                case measure => simp [intOf]; omega
              · obtain rfl : k = M + 1 := by omega
                rw [← HNf.out, ← HNa.out] at hs
                go_wp2
                go_roundw
                case rel => exact ⟨fNext zs s, A2, n1 + (M + 1), c2, rfl, by omega, HNx, hs⟩
                case measure => simp [slLenP]; omega
          · have HNo := Lib.hid (HN0.out (by rw [HOk.out, h128, decide_eq_false hfit]; rfl))
            clear HN1 HN0 HOk h128
            go_wp2
            go_ret2
            exact ⟨hs3.gr, .inl ⟨HNo.out, rfl, _, hs3.rd⟩⟩
    · obtain rfl : n1 = n := by omega
      have HR2 : Hid (fAll zs n1 ⟨[], i⟩ = some s) := by show _ = _; rw [← HR.out]; exact fAll_done (by have := Hsl.out; omega)
      go_wp2
      go_ret2
      exact ⟨hs.gr, .inr ⟨s, A, c1, HR2.out, rfl, hs.own, hs.rd⟩⟩

end Go.Proofs.Ytlcnonhebppeiaa

/- simple: readPoints, as a contract over this seat's translation. -/
namespace Go.Proofs.Ytlcnonhebppeiaa
open Go.RowKit
set_option linter.unusedVariables false

theorem fAll_bytes {zs : List Int} (hB : Bytes zs) {n : Nat} : ∀ (k : Nat) (s t : FS), n - s.fl.length ≤ k → Bytes s.fl → fAll zs n s = some t → Bytes t.fl := by
  intro k
  induction k with
  | zero =>
    intro s t h hs ht
    rw [fAll_done (by omega)] at ht
    cases ht
    exact hs
  | succ k ih =>
    intro s t h hs ht
    by_cases hl : s.fl.length < n
    · cases hk : fOk zs n s with
      | false => rw [fAll_not hl hk] at ht; cases ht
      | true =>
        rw [fAll_step hl hk] at ht
        have hz := fNext_len zs s
        exact ih (fNext zs s) t (by omega) (fNext_bytes hB hs) ht
    · rw [fAll_done (by omega)] at ht
      cases ht
      exact hs

/-- What telling points leaves. -/
def RetPts (w : World) (B b : Nat) (zs : List Int) (n i : Nat) (e : Ending) (w' : World) : Prop :=
  w.grownBy w' (some b) ∧ (((∀ s, fAll zs n ⟨[], i⟩ = some s → oPk zs s = false) ∧ e = .returned (.tuple #[.slice none 0 0, .bool false]) ∧ ∃ j, RdQ w' B b zs j)
    ∨ (∃ s A c, fAll zs n ⟨[], i⟩ = some s ∧ oPk zs s = true ∧ e = .returned (.tuple #[.slice A n c, .bool true]) ∧ OwnS 60 encSp 3 w' w.heap.size A n c (oPs zs s n) ∧ RdQ w' B b zs (oEnd zs s)))

/-- A Reader, rows of flags and of places, and a fresh row of points. -/
structure LY (w wr : World) (B b : Nat) (zs : List Int) (i n : Nat) (FA : Option Addr) (fc : Nat) (fl : List Int) (gx : Nat) (xs : List Int) (gy : Nat) (ys : List Int) (gp : Nat) (l : List Sp) : Prop where
  rd : RdQ wr B b zs i
  gr : w.grownBy wr (some b)
  fl : OwnB wr w.heap.size FA n fc fl
  xs : Own 22 .i16 wr w.heap.size (some ⟨gx, 0, none⟩) n n xs
  ys : Own 22 .i16 wr w.heap.size (some ⟨gy, 0, none⟩) n n ys
  ps : OwnS 60 encSp 3 wr w.heap.size (some ⟨gp, 0, none⟩) n n l
  ne : gp ≠ b
theorem ownS_block {α : Type} {t : TypeId} {enc : α → List Value} {k : Nat} {w : World} {B g n c : Nat} {l : List α} (h : OwnS t enc k w B (some ⟨g, 0, none⟩) n c l) : ∃ cur, w.heap[g]? = some (.cells cur t (0, 0)) := by
  rcases h.shape with ⟨e, _⟩ | ⟨g', cur, e, _, _, hh, _⟩
  · cases e
  · simp only [Option.some.injEq, Addr.mk.injEq, and_true] at e
    subst e
    exact ⟨cur, hh⟩
theorem own_neS {t t' : TypeId} {k : IntKind} {w : World} {B g n c : Nat} {A : Option Addr} {zs : List Int} {cur : Array Value} (h : Own t k w B A n c zs) (h' : w.heap[g]? = some (.cells cur t' (0, 0))) (ht : t ≠ t') : ∀ q, blockOf A = some q → q ≠ g := by
  intro q hq
  rintro rfl
  rcases h.shape with ⟨rfl, _⟩ | ⟨g', cur, rfl, _, _, hh, _⟩
  · simp [blockOf] at hq
  · simp [blockOf] at hq
    subst hq
    rw [hh] at h'
    simp at h'
    exact ht h'.2
theorem LY.set {w wr : World} {B b : Nat} {zs : List Int} {i n : Nat} {FA : Option Addr} {fc : Nat} {fl : List Int} {gx : Nat} {xs : List Int} {gy : Nat} {ys : List Int} {gp : Nat} {l : List Sp} (h : LY w wr B b zs i n FA fc fl gx xs gy ys gp l) (k : Nat) (hk : k < n) (x : Sp) :
    LY w (setCells wr gp (k * 3) (encSp x)) B b zs i n FA fc fl gx xs gy ys gp (l.set k x) := by
  obtain ⟨cur, hc⟩ := ownS_block h.ps
  have hg := (h.ps.from_ gp rfl).1
  have hne := h.ne
  refine ⟨h.rd.keep (by rw [setCells_size]; exact Nat.le_refl _) (fun g hg _ ho => setCells_block (by
      rintro rfl
      rcases ho with e | ⟨cur', hc'⟩
      · exact hne e
      · rw [hc] at hc'
        simp at hc') _ _ _), ⟨?_, ?_, ?_, by rw [setCells_size]; exact h.gr.size, fun q hq hn => (setCells_block (by omega) _ _ _).trans (h.gr.block q hq hn)⟩,
    h.fl.keep (fun q e => setCells_block (own_neS h.fl hc (by decide) q e) _ _ _), h.xs.keep (fun q e => setCells_block (own_neS h.xs hc (by decide) q e) _ _ _), h.ys.keep (fun q e => setCells_block (own_neS h.ys hc (by decide) q e) _ _ _), ownS_store encSp_len h.ps hk x, hne⟩
  · exact h.gr.os
  · exact h.gr.tape
  · exact h.gr.output
theorem LY.drew {w wr : World} {B b : Nat} {zs : List Int} {i n : Nat} {FA : Option Addr} {fc : Nat} {fl : List Int} {gx : Nat} {xs : List Int} {gy : Nat} {ys : List Int} {gp : Nat} {l : List Sp} (h : LY w wr B b zs i n FA fc fl gx xs gy ys gp l) : LY w wr.drew B b zs i n FA fc fl gx xs gy ys gp l :=
  ⟨h.rd.drew, ⟨h.gr.os, h.gr.tape, h.gr.output, h.gr.size, h.gr.block⟩, h.fl, h.xs, h.ys, h.ps.drew, h.ne⟩

set_option maxRecDepth 100000 in
set_option maxHeartbeats 4000000 in
theorem opoints_any (n : Nat) {w : World} {B b : Nat} {zs : List Int} {i : Nat} (h : RdQ w B b zs i) (hB : Bytes zs) (hl : zs.length ≤ 1000000) (hn : n ≤ 1000000) :
    Calls Try.prog 97 #[.pointer (some ⟨b, 0, none⟩), .int .i64 n] w (RetPts w B b zs n i) := by
  obtain ⟨i0, hi, hz0, hz1, hz2⟩ := info_parts Try.spinfo
  have HB := Lib.hid hB
  have hlt0 := h.lt
  have HF := Lib.hid (oflags_any n h hB hl hn)
  have hBB := fun t => fAll_bytes hB n ⟨[], i⟩ t (Nat.sub_le _ _) (fun x hx => by cases hx)
  have HBB := Lib.hid hBB
  clear hB hBB h
  go_enter Try.func97, Try.ntmps97
  go_wp2_with fail
  with_reducible refine HF.out.mono ?_
  rintro e w1 ⟨hg1, ⟨hno, rfl, hrd⟩ | ⟨s, FA, fc, hyes, rfl, hfl, hrd⟩⟩
  · have HNo := Lib.hid hno
    have HRd := Lib.hid hrd
    clear hno HF HBB hrd
    go_wp2
    go_ret2
    exact ⟨hg1, .inl ⟨(fun s hs => by rw [HNo.out] at hs; cases hs), rfl, HRd.out⟩⟩
  · have HY := Lib.hid hyes
    have hsb := HBB.out s hyes
    have hlen := hfl.len
    have HPk : Hid (∀ b1 b2, pkOk zs 2 16 s.fl s.at_ n = b1 → pkOk zs 4 32 s.fl (oXe zs s) n = b2 → oPk zs s = (b1 && b2)) := fun b1 b2 h1 h2 => by unfold oPk; rw [hlen, h1, h2]
    have HXe : Hid (oXe zs s = (pkAt zs 2 16 s.fl s.at_ n).1) := by show _ = _; unfold oXe; rw [hlen]
    have HEn : Hid (oEnd zs s = (pkAt zs 4 32 s.fl (oXe zs s) n).1) := by show _ = _; unfold oEnd; rw [hlen]
    have hs1 := hg1.size
    have HX := Lib.hid (oplaces_any 2 16 (fun f a b => and2 a b) (fun f a b => and16 a b) FA n fc s.fl hrd HB.out hl hfl.row hsb hn (fun _ e => by have := (hfl.from_ b e).1; omega))
    have Hsb := Lib.hid hsb
    have Hlen := Lib.hid hlen
    clear hyes HF HBB hrd hsb hlen
    go_wp2_with fail
    with_reducible refine HX.out.mono ?_
    rintro e w2 ⟨hg2, ⟨hno, rfl, j, hrd⟩ | ⟨hxk, gx, rfl, hxs, hrd⟩⟩
    · have hfl2 := hfl.grown hg2 (fun g e he => by have := (hfl.from_ g e).1; cases he; omega)
      have hs2 := hg2.size
      have HY2 := Lib.hid (oplaces_any 4 32 (fun f a b => and4 a b) (fun f a b => and32 a b) FA n fc s.fl hrd HB.out hl hfl2.row Hsb.out hn (fun _ e => by have := (hfl2.from_ b e).1; omega))
      have HNo : Hid (∀ t, fAll zs n ⟨[], i⟩ = some t → oPk zs t = false) := fun t ht => by
        rw [HY.out] at ht
        cases ht
        rw [HPk.out _ _ hno rfl]
        rfl
      clear hno HX hfl hfl2 hrd HPk
      go_wp2_with fail
      with_reducible refine HY2.out.mono ?_
      rintro e w3 ⟨hg3, ⟨hno, rfl, j, hrd⟩ | ⟨hyk, gy, rfl, hys, hrd⟩⟩
      · have HRd := Lib.hid hrd
        have HG := Lib.hid (grown_trans (grown_trans hg1 hg2) hg3)
        clear hno HY2 hrd hg1 hg2 hg3
        go_wp2
        go_ret2
        exact ⟨HG.out, .inl ⟨HNo.out, rfl, _, HRd.out⟩⟩
      · have HRd := Lib.hid hrd
        have HG := Lib.hid (grown_trans (grown_trans hg1 hg2) hg3)
        clear hyk hys HY2 hrd hg1 hg2 hg3
        go_wp2
        go_ret2
        exact ⟨HG.out, .inl ⟨HNo.out, rfl, _, HRd.out⟩⟩
    · rw [← HXe.out] at hrd
      have hfl2 := hfl.grown hg2 (fun g e he => by have := (hfl.from_ g e).1; cases he; omega)
      have hs2 := hg2.size
      have HY2 := Lib.hid (oplaces_any 4 32 (fun f a b => and4 a b) (fun f a b => and32 a b) FA n fc s.fl hrd HB.out hl hfl2.row Hsb.out hn (fun _ e => by have := (hfl2.from_ b e).1; omega))
      have Hxk := Lib.hid hxk
      clear HX hfl hrd hxk
      go_wp2_with fail
      with_reducible refine HY2.out.mono ?_
      rintro e w3 ⟨hg3, ⟨hno, rfl, j, hrd⟩ | ⟨hyk, gy, rfl, hys, hrd⟩⟩
      · have HNo : Hid (∀ t, fAll zs n ⟨[], i⟩ = some t → oPk zs t = false) := fun t ht => by
          rw [HY.out] at ht
          cases ht
          rw [HPk.out _ _ Hxk.out hno]
          rfl
        have HRd := Lib.hid hrd
        have HG := Lib.hid (grown_trans (grown_trans hg1 hg2) hg3)
        clear hno HY2 hrd hg1 hg2 hg3 hxs hfl2
        go_wp2
        go_ret2
        exact ⟨HG.out, .inl ⟨HNo.out, rfl, _, HRd.out⟩⟩
      · rw [← HEn.out] at hrd
        have HOk : Hid (oPk zs s = true) := by show _ = _; rw [HPk.out _ _ Hxk.out hyk]; rfl
        have hfl3 := hfl2.grown hg3 (fun g e he => by have := (hfl2.from_ g e).1; cases he; omega)
        have hxs3 := (hxs.grown hg3 (fun g e he => by have := (hxs.from_ g e).1; cases he; omega)).mono (B' := w.heap.size) (by omega)
        have hys3 := hys.mono (B' := w.heap.size) (by omega)
        have hs3 := hg3.size
        have HG := grown_trans (grown_trans hg1 hg2) hg3
        clear hyk HY2 hg1 hg2 hg3 hxs hys hfl2
        go_wp2_with (at_make; refine wpList_make_S rfl (.tmp 41) (.tmp 41) _ rfl 60 encSp 3 encSp_len (by omega) w.heap.size i0 _ (0, 0, false) 6 Try.underlying24 hi hz0 hz1 rfl hz2 _ _ n rfl rfl rfl rfl (by omega) (by omega) (by omega) ?_; intro w4 hown4 hg4)
        have hb4 := below_of_grown hg4 (Nat.le_refl _) (fun k e => by cases e)
        have hs : LY w w4 B b zs (oEnd zs s) n FA fc s.fl gx (pkVs zs 2 16 s.fl s.at_ n) gy (pkVs zs 4 32 s.fl (oXe zs s) n) w3.heap.size (oPs zs s 0 ++ List.replicate (n - 0) (0, 0, false)) :=
          ⟨hrd.below hb4, grown_trans HG (grown_of_below hb4 _), hfl3.below hb4, hxs3.below hb4, hys3.below hb4, hown4, by omega⟩
        clear hrd hb4 HG hfl3 hxs3 hys3 hown4 hg4 hi hz0 hz1 hz2 hs1 hs2 hs3
        generalize w3.heap.size = gp at *
        go_loopw [45] (fun i' wr => ∃ k : Nat, k ≤ n ∧ i' = .int .i64 k ∧ LY w wr B b zs (oEnd zs s) n FA fc s.fl gx (pkVs zs 2 16 s.fl s.at_ n) gy (pkVs zs 4 32 s.fl (oXe zs s) n) gp (oPs zs s k ++ List.replicate (n - k) (0, 0, false))) (fun i' _ => n - (intOf i').toNat)
        case atStart => exact ⟨0, Nat.zero_le _, rfl, hs⟩
        case round =>
          clear hs
          obtain ⟨k, hk, rfl, hs⟩ := hrel
          by_cases hlt : k < n
          · obtain ⟨f, hf⟩ := get_some (zs := s.fl) (k := k) (by have := Hlen.out; omega)
            obtain ⟨f0, f1⟩ := Hsb.out f (List.mem_of_getElem? hf)
            have hfd : s.fl.getD k 0 = f := by simp [hf]
            have HST := Lib.hid (oPs_set zs s k n hlt)
            rw [hfd] at HST
            obtain ⟨g, off, eFA, hg, hc⟩ := hs.fl.row.at (cellsOf_get (k := .u8) hf)
            obtain ⟨gx', ox, eX, _, hqx⟩ := hs.xs.row.at (cellsOf_get (k := .i16) (pkVs_get zs 2 16 s.fl s.at_ hlt))
            obtain ⟨gy', oy, eY, _, hqy⟩ := hs.ys.row.at (cellsOf_get (k := .i16) (pkVs_get zs 4 32 s.fl (oXe zs s) hlt))
            simp only [Option.some.injEq, Addr.mk.injEq, and_true] at eX eY
            obtain ⟨rfl, rfl⟩ := eX
            obtain ⟨rfl, rfl⟩ := eY
            rw [Nat.zero_add] at hqx hqy
            obtain ⟨z, hz⟩ : ∃ z, (oPs zs s k ++ List.replicate (n - k) ((0, 0, false) : Sp))[k]? = some z := ⟨_, List.getElem?_eq_getElem (by simp [oPs_len]; omega)⟩
            obtain ⟨gg, off', e', _, r0, r1, r2⟩ := atSp (hs.ps.row encSp_len) hz
            simp only [Option.some.injEq, Addr.mk.injEq, and_true] at e'
            obtain ⟨rfl, rfl⟩ := e'
            rw [Nat.zero_add] at r0 r1 r2
            have fz := hs.ps.thaw
            have e1 := and1 f0 f1
            have hs4 := (hs.drew.set k hlt ((pkAt zs 2 16 s.fl s.at_ (k + 1)).2, (pkAt zs 4 32 s.fl (oXe zs s) (k + 1)).2, fb f 1))
            rw [HST.out] at hs4
            have H4 := Lib.hid hs4
            unfold encSp setCells setCells setCells setCells at H4
            subst eFA
            clear hs4 hs hf hfd hz HST
            generalize (pkAt zs 2 16 s.fl s.at_ (k + 1)).2 = px at *
            generalize (pkAt zs 4 32 s.fl (oXe zs s) (k + 1)).2 = py at *
            generalize fb f 1 = po at *
            go_wp2_with fail
            go_region
            all_goals
              go_wp2
              go_roundw
              case rel => exact ⟨k + 1, by omega, by go_num, H4.out⟩
              case measure => simp [intOf]; omega
          · obtain rfl : k = n := by omega
            have hp := hs.ps
            rw [Nat.sub_self, List.replicate_zero, List.append_nil] at hp
            go_wp2
            go_ret2
            exact ⟨hs.gr, .inr ⟨s, _, k, HY.out, HOk.out, rfl, hp, hs.rd⟩⟩

end Go.Proofs.Ytlcnonhebppeiaa

/- simple: read and Parse, as contracts over this seat's translation. -/
namespace Go.Proofs.Ytlcnonhebppeiaa
open Go.RowKit
set_option linter.unusedVariables false

def glZ : Array Value := #[.int .i16 0, .int .i16 0, .int .i16 0, .int .i16 0, .slice none 0 0, .slice none 0 0, .slice none 0 0]
theorem Try.glsize : (Try.prog.info? 29).map (·.size) = some 7 := by kernel_rfl
theorem glSize {cs : Array Value} (h : cs.size = 7) : (Try.prog.info? 29).map (·.size) = some cs.size := by rw [h]; exact Try.glsize
theorem Try.u16info : (Try.prog.info? 54).map (fun i => (i.zero, i.size, i.bytes)) = some (some (.int .u16 0), 1, 2) := by kernel_rfl

theorem gl7 (x0 x1 x2 x3 : Int) (EA PA SA : Option Addr) (en ec pn pc sn sc : Nat) : (Try.prog.info? 29).map (·.size) = some (#[Value.int .i16 x0, .int .i16 x1, .int .i16 x2, .int .i16 x3, .slice EA en ec, .slice PA pn pc, .slice SA sn sc]).size ∧ (#[Value.int .i16 0, .int .i16 0, .int .i16 0, .int .i16 0, .slice none 0 0, .slice none 0 0, .slice none 0 0]).size = (#[Value.int .i16 x0, .int .i16 x1, .int .i16 x2, .int .i16 x3, .slice EA en ec, .slice PA pn pc, .slice SA sn sc]).size ∧ (#[Value.int .i16 x0, .int .i16 x1, .int .i16 x2, .int .i16 x3, .slice EA en ec, .slice PA pn pc, .slice SA sn sc].all (·.oneCell')) = true :=
  ⟨Try.glsize, rfl, by rw [← Array.all_toList]; rfl⟩

/-- A Reader, the result's block, and a block of an outline under way. -/
structure RG (w wr : World) (B b : Nat) (zs : List Int) (i bx : Nat) (cs : Array Value) : Prop where
  rd : RdQ wr B b zs i
  gr : w.grownBy wr (some b)
  out : wr.heap[w.heap.size]? = some (.cells glZ 29 (0, 0))
  box : wr.heap[bx]? = some (.cells cs 29 (0, 0))
  lb : b < w.heap.size
  lx : w.heap.size < bx
section
variable {w wr w' : World} {B b : Nat} {zs : List Int} {i j bx : Nat} {cs : Array Value}
theorem RG.ask (h : RG w wr B b zs i bx cs) (hr : RdQ w' B b zs j) (hg : wr.grownBy w' (some b)) : RG w w' B b zs j bx cs := by
  have h1 := h.lb
  have h2 := h.lx
  exact ⟨hr, grown_trans h.gr hg, (hg.block _ (lt_of_block h.out) (by intro e; cases e; omega)).trans h.out, (hg.block _ (lt_of_block h.box) (by intro e; cases e; omega)).trans h.box, h1, h2⟩
theorem RG.set (h : RG w wr B b zs i bx cs) (q : Nat) (v : Value) : RG w (wr.setCell ⟨bx, q, none⟩ v) B b zs i bx (cs.setIfInBounds q v) := by
  have h1 := h.lb
  have h2 := h.lx
  exact ⟨rdq_other h.rd h.box (by decide) (by omega) q v, grown_new (by omega) q v h.gr, (Below.heap_setCell wr _ v _ (show w.heap.size ≠ bx by omega)).trans h.out, set_block h.box q v, h1, h2⟩
theorem RG.below (h : RG w wr B b zs i bx cs) (hb : Below wr.heap.size wr w') : RG w w' B b zs i bx cs :=
  ⟨h.rd.below hb, grown_trans h.gr (grown_of_below hb _), kept_block h.out hb, kept_block h.box hb, h.lb, h.lx⟩
theorem RG.drew (h : RG w wr B b zs i bx cs) : RG w wr.drew B b zs i bx cs := h.below (Below.refl _ _).drew
theorem RG.cell (h : RG w wr B b zs i bx cs) (q : Nat) (v : Value) (hq : cs[q]? = some v) : wr.cell? ⟨bx, q, none⟩ = some v := (cell_of_row wr _ q _ _ _ h.box).trans hq
theorem RG.thaw (h : RG w wr B b zs i bx cs) (o : Nat) : wr.frozen? ⟨bx, o, none⟩ = false := thawed h.box o
/-- A store into what lies behind, of another kind. -/
theorem RG.other (h : RG w wr B b zs i bx cs) {g t : Nat} {cur : Array Value} (hc : wr.heap[g]? = some (.cells cur t (0, 0))) (h8 : t ≠ 5) (hgl : t ≠ 29) (hw : w.heap.size ≤ g) (q : Nat) (v : Value) : RG w (wr.setCell ⟨g, q, none⟩ v) B b zs i bx cs := by
  have h1 := h.lb
  have e1 : w.heap.size ≠ g := by
    rintro rfl
    have := h.out
    rw [hc] at this
    simp at this
    exact hgl this.2
  have e2 : bx ≠ g := by
    rintro rfl
    have := h.box
    rw [hc] at this
    simp at this
    exact hgl this.2
  exact ⟨rdq_other h.rd hc h8 (by omega) q v, grown_new hw q v h.gr, (Below.heap_setCell wr _ v _ e1).trans h.out, (Below.heap_setCell wr _ v _ e2).trans h.box, h1, h.lx⟩
end

/-- The Box so far. -/
def bxAt (zs : List Int) (k j : Nat) : Int := if j < k then sgn (n2at zs (2 + 2 * j)) else 0
def bxC (zs : List Int) (k : Nat) : Array Value := #[.int .i16 (bxAt zs k 0), .int .i16 (bxAt zs k 1), .int .i16 (bxAt zs k 2), .int .i16 (bxAt zs k 3), .slice none 0 0, .slice none 0 0, .slice none 0 0]
theorem bxC_set (zs : List Int) {k : Nat} (h : k < 4) : (bxC zs k).setIfInBounds k (.int .i16 (sgn (n2at zs (2 + 2 * k)))) = bxC zs (k + 1) := by
  match k, h with
  | 0, _ => simp [bxC, bxAt]
  | 1, _ => simp [bxC, bxAt]
  | 2, _ => simp [bxC, bxAt]
  | 3, _ => simp [bxC, bxAt]
theorem bxC_get (zs : List Int) {k : Nat} (h : k < 4) : (bxC zs k)[k]? = some (.int .i16 0) := by
  match k, h with
  | 0, _ => simp [bxC, bxAt]
  | 1, _ => simp [bxC, bxAt]
  | 2, _ => simp [bxC, bxAt]
  | 3, _ => simp [bxC, bxAt]
theorem bxC_0 (zs : List Int) : bxC zs 0 = glZ := by simp [bxC, bxAt, glZ]
theorem bxC_4 (zs : List Int) : bxC zs 4 = #[.int .i16 (sgn (n2at zs 2)), .int .i16 (sgn (n2at zs 4)), .int .i16 (sgn (n2at zs 6)), .int .i16 (sgn (n2at zs 8)), .slice none 0 0, .slice none 0 0, .slice none 0 0] := by simp [bxC, bxAt]

/-- 'make([]T, n)' for numbers, n of two bytes with a sign. -/
theorem wpList_make_ints16 {P : Program} {w : World} {ops : Array Oper} {rest : List Oper} {o : Oper} {a : Act} {Q : Exit → Act → World → Prop} (hg : o.guard = none) (l c : Operand) (T : TypeId) (hop : o.op = Op.makeSlice T l c)
    (t : TypeId) (k : IntKind) (B : Nat) (i : TypeInfo) (b : Nat) (h1 : P.underlying T = some (.slice t)) (h2 : P.info? t = some i) (h3 : i.zero = some (.int k 0)) (h4 : i.size = 1) (h5 : i.bytes = b)
    (L C : Int) (n m : Nat) (hl : a.eval l = .int .i16 L) (hc : a.eval c = .int .i16 C) (hL : L = (n : Int)) (hC : C = (m : Int)) (hnm : n ≤ m) (b2 : b * m ≤ 281474976710656) (b3 : m ≤ 9223372036854775807) (b4 : B ≤ w.heap.size)
    (hK : ∀ w', Own t k w' B (some ⟨w.heap.size, 0, none⟩) n m (List.replicate n 0) → w.grownBy w' none → wpList P ops Q rest (a.put o.dst (.slice (some ⟨w.heap.size, 0, none⟩) n m)) w') : wpList P ops Q (o :: rest) a w := by
  refine wpList_plain hg fun K hK' => ?_
  subst hL hC h5
  have hb' : (i.bytes : Int) * (m : Int) ≤ 281474976710656 := by
    have h : ((i.bytes * m : Nat) : Int) ≤ 281474976710656 := by omega
    rwa [Int.natCast_mul] at h
  have hr := run_make (P := P) w T t i (.int k 0) h1 h2 h3 .i16 .i16 n m (by omega) (by omega) hb' (by omega)
  simp only [Int.toNat_natCast, h4, Nat.mul_one] at hr
  unfold Oper.wp
  simp [execOp, hop, hl, hc, hr, Result.andThen]
  refine hK' _ _ (hK _ ?_ (World.grownBy_alloc w _ none))
  refine ⟨by rw [cellsOf_length, List.length_replicate]; omega, .inr ⟨w.heap.size, m, _, rfl, b4, heap_alloc_new w _, hnm, by simp only [maxLen]; omega, by rw [size_madeCells, Nat.mul_one], ?_⟩⟩
  rw [Nat.mul_one]
  apply List.ext_getElem?
  intro j
  by_cases hj : j < n
  · simp [madeCells, cellsOf, hj, Nat.mod_one, Value.cells, show j < m by omega]
  · simp [List.getElem?_take, hj, cellsOf]

/-- An outline is read. -/
def oGood (zs : List Int) (s : FS) : Prop := n2at zs 0 ≤ 32767 ∧ riseN (oEs zs (n2at zs 0).toNat) (n2at zs 0).toNat = true ∧ oFs zs (n2at zs 0).toNat = some s ∧ oPk zs s = true
def oTold (zs : List Int) (s : FS) : Gl := ⟨sgn (n2at zs 2), sgn (n2at zs 4), sgn (n2at zs 6), sgn (n2at zs 8), oEs zs (n2at zs 0).toNat, told (zs.drop (12 + 2 * (n2at zs 0).toNat)) (oSz zs (n2at zs 0).toNat), oPs zs s (cntE (oEs zs (n2at zs 0).toNat))⟩

def glV0 : GlV := ⟨⟨0, 0, 0, 0, [], [], []⟩, none, 0, 0, none, 0, 0, none, 0, 0⟩

/-- The lists of an outline lie in blocks of other kinds. -/
def GlV.apart (w : World) (v : GlV) : Prop := ∀ g, (blockOf v.EA = some g ∨ blockOf v.PA = some g ∨ blockOf v.SA = some g) → ∃ cur t, w.heap[g]? = some (.cells cur t (0, 0)) ∧ t ≠ 29
theorem GlV.apart.below {w w' : World} {v : GlV} (h : v.apart w) (hb : Below w.heap.size w w') : v.apart w' := fun g hg => by
  obtain ⟨cur, t, hc, ht⟩ := h g hg
  exact ⟨cur, t, kept_block hc hb, ht⟩
theorem GlV.apart.ne {w : World} {v : GlV} (h : v.apart w) {q : Nat} {cs : Array Value} (hq : w.heap[q]? = some (.cells cs 29 (0, 0))) {g : Nat} (hg : blockOf v.EA = some g ∨ blockOf v.PA = some g ∨ blockOf v.SA = some g) : g ≠ q := by
  rintro rfl
  obtain ⟨cur, t, hc, ht⟩ := h g hg
  rw [hq] at hc
  simp at hc
  exact ht hc.2.symm
theorem GlV.rows.row {w : World} {v : GlV} (h : v.rows w) (ha : v.apart w) {q : Nat} {cs : Array Value} (hq : w.heap[q]? = some (.cells cs 29 (0, 0))) (cs' : Array Value) : v.rows (w.setRow q cs') :=
  ⟨h.es.keep (by simp) (fun g e _ => setRow_other _ _ _ _ (ha.ne hq (.inl e))), h.pr.keep (by simp) (fun g e _ => setRow_other _ _ _ _ (ha.ne hq (.inr (.inl e)))), h.ps.keep (by simp) (fun g e _ => setRow_other _ _ _ _ (ha.ne hq (.inr (.inr e))))⟩

/-- What read leaves. -/
def RetRead (w : World) (B b : Nat) (zs : List Int) (e : Ending) (w' : World) : Prop :=
  w.grownBy w' (some b) ∧ (((∀ s, ¬ oGood zs s) ∧ ∃ (v : GlV) (j : Nat), e = .returned (.tuple #[v.val, .bool false]) ∧ RdQ w' B b zs j)
    ∨ (∃ s v, oGood zs s ∧ e = .returned (.tuple #[v.val, .bool true]) ∧ GlV.rows w' v ∧ GlV.apart w' v ∧ v.g = oTold zs s ∧ RdQ w' B b zs (oEnd zs s)))

/-- The same with the Ends' row. -/
structure RE (w wr : World) (B b : Nat) (zs : List Int) (i bx : Nat) (cs : Array Value) (gp n : Nat) (xs : List Int) : Prop where
  g : RG w wr B b zs i bx cs
  own : Own 54 .u16 wr w.heap.size (some ⟨gp, 0, none⟩) n n xs
section
variable {w wr w' : World} {B b : Nat} {zs : List Int} {i j bx gp n : Nat} {cs : Array Value} {xs : List Int}
theorem RE.ask (h : RE w wr B b zs i bx cs gp n xs) (hr : RdQ w' B b zs j) (hg : wr.grownBy w' (some b)) : RE w w' B b zs j bx cs gp n xs :=
  ⟨h.g.ask hr hg, h.own.grown hg (fun q e he => by have := (h.own.from_ q e).1; have := h.g.lb; cases he; omega)⟩
theorem RE.below (h : RE w wr B b zs i bx cs gp n xs) (hb : Below wr.heap.size wr w') : RE w w' B b zs i bx cs gp n xs := ⟨h.g.below hb, h.own.below hb⟩
theorem RE.drew (h : RE w wr B b zs i bx cs gp n xs) : RE w wr.drew B b zs i bx cs gp n xs := h.below (Below.refl _ _).drew
theorem RE.set (h : RE w wr B b zs i bx cs gp n xs) (q : Nat) (v : Value) : RE w (wr.setCell ⟨bx, q, none⟩ v) B b zs i bx (cs.setIfInBounds q v) gp n xs :=
  ⟨h.g.set q v, h.own.keep (fun g e => Below.heap_setCell wr _ v _ (own_neS h.own h.g.box (by decide) g e))⟩
theorem RE.setE (h : RE w wr B b zs i bx cs gp n xs) (q : Nat) (x : Int) : RE w (wr.setCell ⟨gp, q, none⟩ (.int .u16 x)) B b zs i bx cs gp n (xs.set q x) := by
  obtain ⟨cur, hc⟩ := h.own.block
  exact ⟨h.g.other hc (by decide) (by decide) (h.own.from_ gp rfl).1 q _, h.own.set q x⟩
theorem RE.cellE (h : RE w wr B b zs i bx cs gp n xs) {k : Nat} {z : Int} (hz : xs[k]? = some z) : wr.cell? ⟨gp, k, none⟩ = some (.int .u16 z) := by
  obtain ⟨gg, off, e', _, hc⟩ := h.own.row.at (cellsOf_get (k := .u16) hz)
  simp only [Option.some.injEq, Addr.mk.injEq, and_true] at e'
  obtain ⟨rfl, rfl⟩ := e'
  rwa [Nat.zero_add] at hc
end

/-- The result's block written whole. -/
theorem RG.row {w wr : World} {B b : Nat} {zs : List Int} {i bx : Nat} {cs : Array Value} (h : RG w wr B b zs i bx cs) (cs' : Array Value) :
    (wr.setRow w.heap.size cs').heap[w.heap.size]? = some (.cells cs' 29 (0, 0)) ∧ w.grownBy (wr.setRow w.heap.size cs') (some b) ∧ RdQ (wr.setRow w.heap.size cs') B b zs i := by
  have h1 := h.lb
  have h2 := h.out
  refine ⟨setRow_heap wr w.heap.size glZ cs' 29 (0, 0) h2, ⟨h.gr.os, h.gr.tape, h.gr.output, by simpa using h.gr.size, fun k hk hne => (setRow_other wr w.heap.size k cs' (by omega)).trans (h.gr.block k hk hne)⟩, h.rd.keep (by simp) (fun g hg _ ho => setRow_other wr w.heap.size g cs' (by
      rintro rfl
      rcases ho with e | ⟨cur, hc⟩
      · omega
      · rw [h2] at hc
        simp at hc))⟩

/-- The same with the Program's row. -/
structure RP (w wr : World) (B b : Nat) (zs : List Int) (i bx : Nat) (cs : Array Value) (gp n : Nat) (xs : List Int) (PA : Option Addr) (pn : Nat) (pr : List Int) : Prop where
  e : RE w wr B b zs i bx cs gp n xs
  pr : Row wr PA pn (cellsOf .u8 pr)
  blk : ∀ g, blockOf PA = some g → ∃ cur, wr.heap[g]? = some (.cells cur 5 (0, 0))
section
variable {w wr w' : World} {B b : Nat} {zs : List Int} {i j bx gp n pn : Nat} {cs : Array Value} {xs pr : List Int} {PA : Option Addr}
theorem RP.ask (h : RP w wr B b zs i bx cs gp n xs PA pn pr) (hr : RdQ w' B b zs j) (hg : wr.grownBy w' (some b)) : RP w w' B b zs j bx cs gp n xs PA pn pr := by
  have hne : ∀ g, blockOf PA = some g → some g ≠ some b := fun g e he => by
    cases he
    obtain ⟨cur, hc⟩ := h.blk b e
    obtain ⟨cs, h2⟩ := h.e.g.rd.block
    exact u8_ne_rd hc h2 rfl
  exact ⟨h.e.ask hr hg, h.pr.grown hg hne, fun g e => by
    obtain ⟨cur, hc⟩ := h.blk g e
    exact ⟨cur, (hg.block g (lt_of_block hc) (hne g e)).trans hc⟩⟩
theorem RP.below (h : RP w wr B b zs i bx cs gp n xs PA pn pr) (hb : Below wr.heap.size wr w') : RP w w' B b zs i bx cs gp n xs PA pn pr :=
  ⟨h.e.below hb, h.pr.below hb, fun g e => by
    obtain ⟨cur, hc⟩ := h.blk g e
    exact ⟨cur, kept_block hc hb⟩⟩
theorem RP.set (h : RP w wr B b zs i bx cs gp n xs PA pn pr) (q : Nat) (v : Value) : RP w (wr.setCell ⟨bx, q, none⟩ v) B b zs i bx (cs.setIfInBounds q v) gp n xs PA pn pr := by
  have hne : ∀ g, blockOf PA = some g → g ≠ bx := fun g e he => by
    subst he
    obtain ⟨cur, hc⟩ := h.blk g e
    have := h.e.g.box
    rw [hc] at this
    simp at this
  exact ⟨h.e.set q v, h.pr.keep (by simp [World.setCell]) (fun g e _ => Below.heap_setCell wr _ v _ (hne g e)), fun g e => by
    obtain ⟨cur, hc⟩ := h.blk g e
    exact ⟨cur, (Below.heap_setCell wr _ v _ (hne g e)).trans hc⟩⟩
end
theorem cntE_le {l : List Int} (h : ∀ x ∈ l, 0 ≤ x ∧ x < 65536) : cntE l ≤ 65536 := by
  unfold cntE
  split
  · omega
  · rename_i hl
    have := h (l.getD (l.length - 1) 0) (by rw [List.getD_eq_getElem?_getD, List.getElem?_eq_getElem (by omega)]; exact List.getElem_mem _)
    omega
theorem oEs_bd {zs : List Int} (hB : Bytes zs) (n : Nat) : ∀ x ∈ oEs zs n, 0 ≤ x ∧ x < 65536 := by
  intro x hx
  simp only [oEs, List.mem_map] at hx
  obtain ⟨i, _, rfl⟩ := hx
  exact n2at_lt hB _

set_option maxRecDepth 100000 in
set_option maxHeartbeats 4000000 in
theorem oread_any {w : World} {B b : Nat} {zs : List Int} (h : RdQ w B b zs 0) (hB : Bytes zs) (hl : zs.length ≤ 1000000) :
    Calls Try.prog 62 #[.pointer (some ⟨b, 0, none⟩)] w (RetRead w B b zs) := by
  obtain ⟨i0, hi, hz0, hz1, hz2⟩ := info_parts Try.u16info
  have HB := Lib.hid hB
  have hlt0 := h.lt
  have hA := (Below.refl w.heap.size w).alloc (Nat.le_refl _) (.cells glZ 29)
  have hk := heap_alloc_new w (.cells glZ 29)
  have hrd := h.below hA
  have hg0 := grown_of_below hA (some b)
  have H0 := Lib.hid (rdq_i16 hrd hB (by omega))
  obtain ⟨n0, n1⟩ := n2at_lt hB 0
  obtain ⟨s0, s1⟩ := sgn_bd n0 n1
  have HNo : Hid (∀ (w' : World) (v : GlV) j, (∀ s, ¬ oGood zs s) → w.grownBy w' (some b) → RdQ w' B b zs j → RetRead w B b zs (.returned (.tuple #[v.val, .bool false])) w') := fun w' v j h1 h3 h4 => ⟨h3, .inl ⟨h1, v, j, rfl, h4⟩⟩
  clear h hB hrd
  unfold glZ at hA hk H0 hg0
  go_enter Try.func62, Try.ntmps62
  go_wp2_with fail
  with_reducible refine H0.out.mono ?_
  rintro e w1 ⟨rfl, h1, g1⟩
  have hk1 := (g1.block w.heap.size (by simp) (by intro e; cases e; omega)).trans hk
  have hg1 := grown_trans hg0 g1
  clear H0 hA hg0 g1 hk
  by_cases hneg : 32767 < n2at zs 0
  · have hsn : sgn (n2at zs 0) < 0 := by unfold sgn; rw [if_pos hneg]; omega
    have HX : Hid (∀ s, ¬ oGood zs s) := fun s hs => by have := hs.1; omega
    have KR := Lib.hid (setRow_heap w1 w.heap.size glZ glZ 29 (0, 0) hk1)
    have hs1 := hg1.size
    have HG : Hid (w.grownBy (w1.setRow w.heap.size glZ) (some b)) := ⟨hg1.os, hg1.tape, hg1.output, by simpa using hs1, fun k hk hne => (setRow_other w1 w.heap.size k glZ (by omega)).trans (hg1.block k hk hne)⟩
    have HR : Hid (RdQ (w1.setRow w.heap.size glZ) B b zs 2) := h1.keep (by simp) (fun g hg _ ho => setRow_other w1 w.heap.size g glZ (by
      rintro rfl
      rcases ho with e | ⟨cur, hc⟩
      · omega
      · rw [hk1] at hc
        simp at hc))
    unfold glZ at KR HG HR
    clear hneg
    go_wp2_with (with_reducible refine wpList_store_row rfl 29 (.tmp 2) (.tmp 13) rfl w.heap.size #[.int .i16 0, .int .i16 0, .int .i16 0, .int .i16 0, .slice none 0 0, .slice none 0 0, .slice none 0 0] rfl rfl 29 #[.int .i16 0, .int .i16 0, .int .i16 0, .int .i16 0, .slice none 0 0, .slice none 0 0, .slice none 0 0] hk1 (gl7 _ _ _ _ _ _ _ _ _ _ _ _ _).1 (gl7 _ _ _ _ _ _ _ _ _ _ _ _ _).2.1 (gl7 _ _ _ _ _ _ _ _ _ _ _ _ _).2.2 ?_)
    exact bodyPost_ret (v := .tuple #[.agg glZ, .bool false]) (results_two2 Try.results62 _ _ w.heap.size 29 _ (0, 0) _ rfl rfl KR.out Try.underlying29 rfl (glSize rfl)) rfl (HNo.out _ glV0 _ HX.out HG.out HR.out)
  · obtain ⟨n, hn⟩ : ∃ n : Nat, n2at zs 0 = (n : Int) := ⟨(n2at zs 0).toNat, by omega⟩
    have hn' : sgn (n2at zs 0) = (n : Int) := by unfold sgn; rw [if_neg hneg]; exact hn
    have hnt : (n2at zs 0).toNat = n := by omega
    have Hnt := Lib.hid hnt
    have Hle : Hid (n2at zs 0 ≤ 32767) := Int.not_lt.1 hneg
    have hn3 : n ≤ 32767 := by omega
    rw [hn']
    clear hneg hn hn' hnt n0 n1 s0 s1
    have hA2 := (Below.refl w1.heap.size w1).alloc (Nat.le_refl _) (.cells glZ 29)
    have hs1 := hg1.size
    have hs : RG w (w1.alloc (.cells glZ 29)) B b zs (2 + 2 * 0) w1.heap.size (bxC zs 0) := by
      rw [bxC_0]
      exact ⟨h1.below hA2, grown_trans hg1 (grown_of_below hA2 _), kept_block hk1 hA2, heap_alloc_new w1 _, hlt0, lt_of_block hk1⟩
    clear h1 hg1 hk1 hA2
    unfold glZ at hs
    go_wp2
    generalize w1.alloc _ = V1 at *
    generalize w1.heap.size = bx at *
    go_loopw [14] (fun i' wr => ∃ k : Nat, k ≤ 4 ∧ i' = .int .i64 k ∧ RG w wr B b zs (2 + 2 * k) bx (bxC zs k)) (fun i' _ => 4 - (intOf i').toNat)
    case atStart => exact ⟨0, Nat.zero_le _, rfl, hs⟩
    case round =>
      clear hs
      obtain ⟨k, hk, rfl, hs⟩ := hrel
      by_cases hlt : k < 4
      · have HI := Lib.hid (rdq_i16 hs.rd HB.out (by omega))
        have HC := Lib.hid (bxC_set zs hlt)
        have HCg := Lib.hid (bxC_get zs hlt)
        go_wp2_with fail
        with_reducible refine HI.out.mono ?_
        rintro e w2 ⟨rfl, h2, g2⟩
        have hs2 := hs.ask h2 g2
        have c0 := hs2.cell k _ HCg.out
        have f0 := hs2.thaw k
        have hs3 := hs2.set k (.int .i16 (sgn (n2at zs (2 + 2 * k))))
        rw [HC.out, show 2 + 2 * k + 2 = 2 + 2 * (k + 1) by omega] at hs3
        have H3 := Lib.hid hs3
        have ik0 : (0 : Int) ≤ (k : Int) := by omega
        have ik1 : (k : Int) < 4 := by omega
        clear hs h2 g2 hs2 hs3 HI HC HCg
        go_wp2
        go_roundw
        case rel => exact ⟨k + 1, by omega, by go_num, H3.out⟩
        case measure => simp [intOf]; omega
      · obtain rfl : k = 4 := by omega
        rw [bxC_4] at hs
        have HT : Hid (∀ s, oTold zs s = ⟨sgn (n2at zs 2), sgn (n2at zs 4), sgn (n2at zs 6), sgn (n2at zs 8), oEs zs n, told (zs.drop (12 + 2 * n)) (oSz zs n), oPs zs s (cntE (oEs zs n))⟩) := fun s => by unfold oTold; rw [Hnt.out]
        generalize sgn (n2at zs 2) = X0 at *
        generalize sgn (n2at zs 4) = X1 at *
        generalize sgn (n2at zs 6) = X2 at *
        generalize sgn (n2at zs 8) = X3 at *
        go_wp2_with (at_make; refine wpList_make_ints16 rfl (.tmp 23) (.tmp 23) _ rfl 54 .u16 w.heap.size i0 2 Try.underlying27 hi hz0 hz1 hz2 _ _ n n rfl rfl rfl rfl (by omega) (by omega) (by omega) hs.gr.size ?_; intro w2 hown2 hg2; have hb2 := below_of_grown hg2 (Nat.le_refl _) (fun k e => by cases e); have hs2 := hs.below hb2; have c4 := hs2.cell 4 _ rfl; have f4 := hs2.thaw 4)
        have hs3 : RE w (w2.setCell ⟨bx, 4, none⟩ (.slice (some ⟨wr.heap.size, 0, none⟩) n n)) B b zs (10 + 2 * 0) bx #[.int .i16 X0, .int .i16 X1, .int .i16 X2, .int .i16 X3, .slice (some ⟨wr.heap.size, 0, none⟩) n n, .slice none 0 0, .slice none 0 0] wr.heap.size n (oEs zs 0 ++ List.replicate (n - 0) 0) :=
          (RE.mk hs2 hown2 : RE w w2 B b zs 10 bx _ wr.heap.size n (List.replicate n 0)).set 4 _
        clear hs hs2 hown2 hg2 hb2 c4 f4 hi hz0 hz1 hz2 hlt hk
        generalize wr.heap.size = gp at *
        generalize w2.setCell ⟨bx, 4, none⟩ (.slice (some ⟨gp, 0, none⟩) n n) = V2 at *
        go_loopw [29] (fun i' wr => ∃ k : Nat, k ≤ n ∧ i' = .int .i64 k ∧ RE w wr B b zs (10 + 2 * k) bx #[.int .i16 X0, .int .i16 X1, .int .i16 X2, .int .i16 X3, .slice (some ⟨gp, 0, none⟩) n n, .slice none 0 0, .slice none 0 0] gp n (oEs zs k ++ List.replicate (n - k) 0)) (fun i' _ => n - (intOf i').toNat)
        case atStart => exact ⟨0, Nat.zero_le _, rfl, hs3⟩
        case round =>
          clear hs3
          obtain ⟨k, hk, rfl, hs⟩ := hrel
          by_cases hlt : k < n
          · obtain ⟨z, hz⟩ : ∃ z, (oEs zs k ++ List.replicate (n - k) 0)[k]? = some z := ⟨_, List.getElem?_eq_getElem (by simp [oEs_len]; omega)⟩
            have HZ := Lib.hid hz
            have HST := Lib.hid (oEs_set zs k n hlt)
            have HI : Hid (∀ W, RdQ W B b zs (10 + 2 * k) → Calls Try.prog 82 #[.pointer (some ⟨b, 0, none⟩)] W (RetQ W B b (.int .u16 (n2at zs (10 + 2 * k))) zs (10 + 2 * k + 2))) := fun W h => rdq_u16 h HB.out (by omega)
            have i0' : (0 : Int) ≤ (k : Int) := by omega
            have i1' : (k : Int) < (n : Int) := by omega
            clear hz
            replace hs := hs.drew
            go_upto_region 14 with fail
            go_region_held3 (fun w' => w'.cell? ⟨bx, 4, none⟩ = some (.slice (some ⟨gp, 0, none⟩) n n))
              (first | exact hs.g.cell 4 _ rfl | exact (hs.setE k (n2at zs (10 + 2 * k))).g.cell 4 _ rfl)
              (((go_at_call 82; (with_reducible refine (HI.out _ hs.g.rd).mono ?_); rintro e w3 ⟨rfl, h3, g3⟩; replace hs := hs.ask h3 g3; have q0 := hs.cellE HZ.out; have f0 := hs.own.thaw k; clear h3 g3)))
            have hs4 := hs.setE k (n2at zs (10 + 2 * k))
            rw [HST.out, show 10 + 2 * k + 2 = 10 + 2 * (k + 1) by omega] at hs4
            have H4 := Lib.hid hs4
            clear hs hs4 HI HST HZ
            go_wp2
            go_roundw
            case rel => exact ⟨k + 1, by omega, by go_num, H4.out⟩
            case measure => simp [intOf]; omega
          · obtain rfl : k = n := by omega
            rw [Nat.sub_self, List.replicate_zero, List.append_nil] at hs
            clear hs1 hlt0 hk
            have c4 := hs.g.cell 4 _ rfl
            have HRi := Lib.hid (orise_any (some ⟨gp, 0, none⟩) k k (oEs zs k) wr hs.own.row (by omega))
            go_wp2_with fail
            clear hlt
            with_reducible refine HRi.out.mono ?_
            rintro e w5 ⟨rfl, rfl⟩
            clear HRi c4
            cases hri : riseN (oEs zs k) k with
            | false =>
              have HX : Hid (∀ s, ¬ oGood zs s) := fun s h2 => by have := h2.2.1; rw [Hnt.out, hri] at this; cases this
              obtain ⟨KR, HG, HR⟩ := hs.g.row glZ
              have hout := hs.g.out
              have KR' := Lib.hid KR
              have HG' := Lib.hid HG
              have HR' := Lib.hid HR
              unfold glZ at KR' HG' HR' hout
              clear KR HG HR hs hri HT
              go_wp2_with (with_reducible refine wpList_store_row rfl 29 (.tmp 2) (.tmp 43) rfl w.heap.size #[.int .i16 0, .int .i16 0, .int .i16 0, .int .i16 0, .slice none 0 0, .slice none 0 0, .slice none 0 0] rfl rfl 29 #[.int .i16 0, .int .i16 0, .int .i16 0, .int .i16 0, .slice none 0 0, .slice none 0 0, .slice none 0 0] hout (gl7 _ _ _ _ _ _ _ _ _ _ _ _ _).1 (gl7 _ _ _ _ _ _ _ _ _ _ _ _ _).2.1 (gl7 _ _ _ _ _ _ _ _ _ _ _ _ _).2.2 ?_)
              exact bodyPost_ret (v := .tuple #[.agg glZ, .bool false]) (results_two2 Try.results62 _ _ w.heap.size 29 _ (0, 0) _ rfl rfl KR'.out Try.underlying29 rfl (glSize rfl)) rfl (HNo.out _ glV0 _ HX.out HG'.out HR'.out)
            | true =>
              have HGood : Hid (∀ s, oFs zs k = some s → oPk zs s = true → oGood zs s) := fun s h1 h2 => ⟨Hle.out, by rw [Hnt.out]; exact hri, by rw [Hnt.out]; exact h1, h2⟩
              have HBad : Hid (∀ s, oGood zs s → oFs zs k = some s ∧ oPk zs s = true) := fun s h => by have := h.2.2; rw [Hnt.out] at this; exact this
              have hsz : n2at zs (10 + 2 * k) = ((oSz zs k : Nat) : Int) := by unfold oSz; have := (n2at_lt HB.out (10 + 2 * k)).1; omega
              have HU := Lib.hid (rdq_u16 hs.g.rd HB.out (by omega))
              rw [hsz] at HU
              have hsl : oSz zs k < 65536 := by have := (n2at_lt HB.out (10 + 2 * k)).2; omega
              clear hsz hri
              go_wp2_with fail
              with_reducible refine HU.out.mono ?_
              rintro e w6 ⟨rfl, h6, g6⟩
              have hs6 := hs.ask h6 g6
              rw [show 10 + 2 * k + 2 = 12 + 2 * k by omega] at hs6
              have HTk := Lib.hid (rdq_takeAny hs6.g.rd (by omega) (oSz zs k))
              clear hs h6 g6 HU
              go_wp2_with fail
              with_reducible refine HTk.out.mono ?_
              rintro e w7 ⟨PA, pn, pc, rfl, hpr, hblk, h7, g7⟩
              have hs7 : RP w w7 B b zs (oA zs k) bx #[.int .i16 X0, .int .i16 X1, .int .i16 X2, .int .i16 X3, .slice (some ⟨gp, 0, none⟩) k k, .slice none 0 0, .slice none 0 0] gp k (oEs zs k) PA pn (told (zs.drop (12 + 2 * k)) (oSz zs k)) := ⟨hs6.ask h7 g7, hpr, fun g e => (hblk g e).2⟩
              obtain ⟨b0, b1, b2, b3, b4, b5, b6⟩ := cells7 hs7.e.g.box
              have f5 := hs7.e.g.thaw 5
              have hs8 := hs7.set 5 (.slice PA pn pc)
              clear hs6 hs7 hpr hblk h7 g7 HTk
              have hs9 : RP w (w7.setCell ⟨bx, 5, none⟩ (.slice PA pn pc)) B b zs (oA zs k) bx #[.int .i16 X0, .int .i16 X1, .int .i16 X2, .int .i16 X3, .slice (some ⟨gp, 0, none⟩) k k, .slice PA pn pc, .slice none 0 0] gp k (oEs zs k) PA pn (told (zs.drop (12 + 2 * k)) (oSz zs k)) := hs8
              clear hs8
              generalize told (zs.drop (12 + 2 * k)) (oSz zs k) = pr at *
              have hrs : GlV.rows (w7.setCell ⟨bx, 5, none⟩ (.slice PA pn pc)) ⟨⟨X0, X1, X2, X3, oEs zs k, pr, []⟩, some ⟨gp, 0, none⟩, k, k, PA, pn, pc, none, 0, 0⟩ := ⟨hs9.e.own.row, hs9.pr, RowS.empty _ _⟩
              have HCt : Hid (Calls Try.prog 56 #[.agg #[.int .i16 X0, .int .i16 X1, .int .i16 X2, .int .i16 X3, .slice (some ⟨gp, 0, none⟩) k k, .slice PA pn pc, .slice none 0 0]] (w7.setCell ⟨bx, 5, none⟩ (.slice PA pn pc)) (Ret (w7.setCell ⟨bx, 5, none⟩ (.slice PA pn pc)) (.int .i64 (cntE (oEs zs k) : Nat)))) := ocount_any _ _ hrs (by show k ≤ 1000000; omega) (oEs_bd HB.out k)
              have hcn := cntE_le (oEs_bd HB.out k)
              clear hrs
              go_wp2_with fail
              clear b0 b1 b2 b3 b4 b5 b6 f5
              generalize w7.setCell ⟨bx, 5, none⟩ (.slice PA pn pc) = V3 at *
              with_reducible refine HCt.out.mono ?_
              rintro e w8 ⟨rfl, hb8⟩
              have hs10 := hs9.below hb8
              have HPt := Lib.hid (opoints_any (cntE (oEs zs k)) hs10.e.g.rd HB.out hl (by omega))
              clear hs9 hb8 HCt
              go_wp2_with fail
              with_reducible refine HPt.out.mono ?_
              rintro e w9 ⟨hg9, ⟨hno, rfl, j, hrd⟩ | ⟨s, SA, sc, hyes, hpk, rfl, hps, hrd⟩⟩
              · have HX : Hid (∀ s, ¬ oGood zs s) := fun s h2 => by
                  have h3 := HBad.out s h2
                  rw [hno s h3.1] at h3
                  cases h3.2
                have hs11 := hs10.ask hrd hg9
                obtain ⟨b0, b1, b2, b3, b4, b5, b6⟩ := cells7 hs11.e.g.box
                have f6 := hs11.e.g.thaw 6
                have hs12 : RP w (w9.setCell ⟨bx, 6, none⟩ (.slice none 0 0)) B b zs j bx #[.int .i16 X0, .int .i16 X1, .int .i16 X2, .int .i16 X3, .slice (some ⟨gp, 0, none⟩) k k, .slice PA pn pc, .slice none 0 0] gp k (oEs zs k) PA pn pr := hs11.set 6 (.slice none 0 0)
                obtain ⟨KR, HG, HR⟩ := hs12.e.g.row #[.int .i16 X0, .int .i16 X1, .int .i16 X2, .int .i16 X3, .slice (some ⟨gp, 0, none⟩) k k, .slice PA pn pc, .slice none 0 0]
                have KR' := Lib.hid KR
                have HG' := Lib.hid HG
                have HR' := Lib.hid HR
                have hout := hs12.e.g.out
                unfold glZ at hout
                clear hno hrd hg9 hs10 hs11 hs12 KR HG HR HPt HGood HBad HT
                go_wp2_with (with_reducible refine wpList_store_row rfl 29 (.tmp 2) (.tmp 58) rfl w.heap.size #[.int .i16 X0, .int .i16 X1, .int .i16 X2, .int .i16 X3, .slice (some ⟨gp, 0, none⟩) k k, .slice PA pn pc, .slice none 0 0] rfl rfl 29 #[.int .i16 0, .int .i16 0, .int .i16 0, .int .i16 0, .slice none 0 0, .slice none 0 0, .slice none 0 0] hout (gl7 _ _ _ _ _ _ _ _ _ _ _ _ _).1 (gl7 _ _ _ _ _ _ _ _ _ _ _ _ _).2.1 (gl7 _ _ _ _ _ _ _ _ _ _ _ _ _).2.2 ?_)
                exact bodyPost_ret (v := .tuple #[.agg #[.int .i16 X0, .int .i16 X1, .int .i16 X2, .int .i16 X3, .slice (some ⟨gp, 0, none⟩) k k, .slice PA pn pc, .slice none 0 0], .bool false]) (results_two2 Try.results62 _ _ w.heap.size 29 _ (0, 0) _ rfl rfl KR'.out Try.underlying29 rfl (glSize rfl)) rfl (HNo.out _ ⟨⟨X0, X1, X2, X3, [], [], []⟩, some ⟨gp, 0, none⟩, k, k, PA, pn, pc, none, 0, 0⟩ _ HX.out HG'.out HR'.out)
              · have HGd := Lib.hid (HGood.out s hyes hpk)
                have hs11 := hs10.ask hrd hg9
                obtain ⟨b0, b1, b2, b3, b4, b5, b6⟩ := cells7 hs11.e.g.box
                have f6 := hs11.e.g.thaw 6
                have hs12 : RP w (w9.setCell ⟨bx, 6, none⟩ (.slice SA (cntE (oEs zs k)) sc)) B b zs (oEnd zs s) bx #[.int .i16 X0, .int .i16 X1, .int .i16 X2, .int .i16 X3, .slice (some ⟨gp, 0, none⟩) k k, .slice PA pn pc, .slice SA (cntE (oEs zs k)) sc] gp k (oEs zs k) PA pn pr := hs11.set 6 _
                have hbxs : w.heap.size ≤ w8.heap.size := hs10.e.g.gr.size
                have hps2 : OwnS 60 encSp 3 (w9.setCell ⟨bx, 6, none⟩ (.slice SA (cntE (oEs zs k)) sc)) w.heap.size SA (cntE (oEs zs k)) sc (oPs zs s (cntE (oEs zs k))) := (hps.mono hbxs).keep (fun q e => Below.heap_setCell w9 _ _ _ (by
                  rintro rfl
                  have h1 := (hps.from_ _ e).1
                  have h2 := lt_of_block hs10.e.g.box
                  omega))
                obtain ⟨KR, HG, HR⟩ := hs12.e.g.row #[.int .i16 X0, .int .i16 X1, .int .i16 X2, .int .i16 X3, .slice (some ⟨gp, 0, none⟩) k k, .slice PA pn pc, .slice SA (cntE (oEs zs k)) sc]
                have hout := hs12.e.g.out
                have hap : GlV.apart (w9.setCell ⟨bx, 6, none⟩ (.slice SA (cntE (oEs zs k)) sc)) ⟨⟨X0, X1, X2, X3, oEs zs k, pr, oPs zs s (cntE (oEs zs k))⟩, some ⟨gp, 0, none⟩, k, k, PA, pn, pc, SA, cntE (oEs zs k), sc⟩ := by
                  rintro g (e | e | e)
                  · simp [blockOf] at e
                    subst e
                    obtain ⟨cur, hc⟩ := hs12.e.own.block
                    exact ⟨cur, _, hc, by decide⟩
                  · obtain ⟨cur, hc⟩ := hs12.blk _ e
                    exact ⟨cur, _, hc, by decide⟩
                  · rcases hps2.shape with ⟨e2, _⟩ | ⟨g', cur, e2, _, _, hh, _⟩
                    · rw [e2] at e
                      simp [blockOf] at e
                    · rw [e2] at e
                      simp [blockOf] at e
                      subst e
                      exact ⟨cur, _, hh, by decide⟩
                have hrw : GlV.rows (w9.setCell ⟨bx, 6, none⟩ (.slice SA (cntE (oEs zs k)) sc)) ⟨⟨X0, X1, X2, X3, oEs zs k, pr, oPs zs s (cntE (oEs zs k))⟩, some ⟨gp, 0, none⟩, k, k, PA, pn, pc, SA, cntE (oEs zs k), sc⟩ := ⟨hs12.e.own.row, hs12.pr, hps2.row encSp_len⟩
                have HRows := Lib.hid (hrw.row hap hout #[.int .i16 X0, .int .i16 X1, .int .i16 X2, .int .i16 X3, .slice (some ⟨gp, 0, none⟩) k k, .slice PA pn pc, .slice SA (cntE (oEs zs k)) sc])
                have HAp : Hid (GlV.apart ((w9.setCell ⟨bx, 6, none⟩ (.slice SA (cntE (oEs zs k)) sc)).setRow w.heap.size #[.int .i16 X0, .int .i16 X1, .int .i16 X2, .int .i16 X3, .slice (some ⟨gp, 0, none⟩) k k, .slice PA pn pc, .slice SA (cntE (oEs zs k)) sc]) ⟨⟨X0, X1, X2, X3, oEs zs k, pr, oPs zs s (cntE (oEs zs k))⟩, some ⟨gp, 0, none⟩, k, k, PA, pn, pc, SA, cntE (oEs zs k), sc⟩) := fun g hg => by
                  obtain ⟨cur, t, hc, ht⟩ := hap g hg
                  exact ⟨cur, t, (setRow_other _ _ _ _ (hap.ne hout hg)).trans hc, ht⟩
                clear hap hrw
                have KR' := Lib.hid KR
                have HG' := Lib.hid HG
                have HR' := Lib.hid HR
                have HTs := Lib.hid (HT.out s)
                unfold glZ at hout
                clear hyes hpk hps hps2 hbxs hrd hg9 hs10 hs11 hs12 KR HG HR HPt HGood HBad HT
                generalize cntE (oEs zs k) = cn at *
                go_wp2_with (with_reducible refine wpList_store_row rfl 29 (.tmp 2) (.tmp 58) rfl w.heap.size #[.int .i16 X0, .int .i16 X1, .int .i16 X2, .int .i16 X3, .slice (some ⟨gp, 0, none⟩) k k, .slice PA pn pc, .slice SA cn sc] rfl rfl 29 #[.int .i16 0, .int .i16 0, .int .i16 0, .int .i16 0, .slice none 0 0, .slice none 0 0, .slice none 0 0] hout (gl7 _ _ _ _ _ _ _ _ _ _ _ _ _).1 (gl7 _ _ _ _ _ _ _ _ _ _ _ _ _).2.1 (gl7 _ _ _ _ _ _ _ _ _ _ _ _ _).2.2 ?_)
                exact bodyPost_ret (v := .tuple #[.agg #[.int .i16 X0, .int .i16 X1, .int .i16 X2, .int .i16 X3, .slice (some ⟨gp, 0, none⟩) k k, .slice PA pn pc, .slice SA cn sc], .bool true]) (results_two2 Try.results62 _ _ w.heap.size 29 _ (0, 0) _ rfl rfl KR'.out Try.underlying29 rfl (glSize rfl)) rfl ⟨HG'.out, .inr ⟨s, _, HGd.out, rfl, HRows.out, HAp.out, by rw [HTs.out], HR'.out⟩⟩

end Go.Proofs.Ytlcnonhebppeiaa

/- simple: Parse, as a contract over this seat's translation. -/
namespace Go.Proofs.Ytlcnonhebppeiaa
open Go.RowKit
set_option linter.unusedVariables false

theorem oTold_eq {zs : List Int} {s : FS} (h : oGood zs s) (he : oEnd zs s ≤ zs.length) : oTold zs s = oGl zs (n2at zs 0).toNat s := by
  obtain ⟨_, _, h3, _⟩ := h
  unfold oFs at h3
  obtain ⟨h4, h5⟩ := fAll_some _ _ _ (Nat.sub_le _ _) (Nat.zero_le _) h3
  have h6 := oXe_le zs s
  simp only at h5
  unfold oTold oGl told
  rw [h4, if_pos (by rw [List.length_drop]; unfold oA at h5; omega)]
theorem oParse_some {zs : List Int} {s : FS} (h : oGood zs s) (he : oEnd zs s ≤ zs.length) : oParse zs = some (oTold zs s, oEnd zs s) := by
  rw [oTold_eq h he]
  obtain ⟨h1, h2, h3, h4⟩ := h
  unfold oParse oNum
  rw [if_neg (by omega), if_pos h2, h3]
  rw [show oTake zs _ (some s) = oPut zs _ s from rfl]
  unfold oPut
  rw [h4, decide_eq_true he]
  rfl
theorem oParse_no1 {zs : List Int} (h : ∀ s, ¬ oGood zs s) : oParse zs = none := by
  unfold oParse
  split
  · rfl
  · rename_i h1
    unfold oNum
    split
    · rename_i h2
      cases h3 : oFs zs (n2at zs 0).toNat with
      | none => rfl
      | some s =>
        rw [show oTake zs _ (some s) = oPut zs _ s from rfl]
        unfold oPut
        cases h4 : oPk zs s with
        | false => rfl
        | true => exact absurd ⟨by omega, h2, h3, h4⟩ (h s)
    · rfl
theorem oParse_no2 {zs : List Int} {s : FS} (h : oGood zs s) (he : zs.length < oEnd zs s) : oParse zs = none := by
  obtain ⟨h1, h2, h3, h4⟩ := h
  unfold oParse oNum
  rw [if_neg (by omega), if_pos h2, h3]
  rw [show oTake zs _ (some s) = oPut zs _ s from rfl]
  unfold oPut
  rw [h4, decide_eq_false (by omega)]
  rfl

/-- Three results: a struct in memory, and two plain values. -/
theorem results_three {P : Program} {fn : Func} {p q r : Tmp} {ty : TypeId} (h : fn.results = #[.cell p ty, .tmp q, .tmp r]) (tmps : Array Value) (w : World) (g : Nat) (t : TypeId) (cs : Array Value) (fr : Nat × Nat) (d : TypeDesc) {v u : Value}
    (hp : tmps.getD p undef = .pointer (some ⟨g, 0, none⟩)) (hq : tmps.getD q undef = v) (hr : tmps.getD r undef = u) (hg : w.heap[g]? = some (.cells cs t fr))
    (hu : P.underlying ty = some d) (hd : (match d with | .struct _ | .array _ _ => true | _ => false) = true) (hi : (P.info? ty).map (·.size) = some cs.size) :
    (results fn tmps).run P w = .ok (.tuple #[.agg cs, v, u]) w := by
  have hp' : tmps[p]?.getD undef = .pointer (some ⟨g, 0, none⟩) := by simpa using hp
  have hq' : tmps[q]?.getD undef = v := by simpa using hq
  have hr' : tmps[r]?.getD undef = u := by simpa using hr
  simp [results, h, hp', hq', hr', asAddr, run_loadVar_row w g t ty cs fr d hg hu hd hi]

/-- What Parse leaves. -/
def RetOP (w : World) (zs : List Int) (e : Ending) (w' : World) : Prop :=
  Below w.heap.size w w' ∧ ((oParse zs = none ∧ e = .returned (.tuple #[glV0.val, .int .i64 0, .int .i64 2])) ∨
    (∃ g a v, oParse zs = some (g, a) ∧ e = .returned (.tuple #[GlV.val v, .int .i64 (a : Nat), .int .i64 0]) ∧ GlV.rows w' v ∧ v.g = g))

theorem below_rowO {w0 w : World} {B g : Nat} (hg : B ≤ g) (cs : Array Value) (h : Below B w0 w) : Below B w0 (w.setRow g cs) :=
  h.trans ⟨rfl, rfl, rfl, by simp, fun k hk => setRow_other w g k cs (by omega)⟩

set_option maxRecDepth 100000 in
set_option maxHeartbeats 4000000 in
theorem oparse_any (A : Option Addr) (n c : Nat) (zs : List Int) (w : World) (hr : Row w A n (cellsOf .u8 zs)) (hB : Bytes zs) (hn : n ≤ 100000) (hc : n ≤ c) :
    Calls Try.prog 23 #[.slice A n c] w (RetOP w zs) := by
  have hA := (Below.refl w.heap.size w).alloc (Nat.le_refl _) (.cells glZ 29)
  have hk := heap_alloc_new w (.cells glZ 29)
  have HN := Lib.hid (new_any A n c zs _ (hr.below hA) (by omega))
  have hl := hr.len
  have Hl : Hid (zs.length = n) := hl
  have HB := Lib.hid hB
  have hml : zs.length ≤ 1000000 := by omega
  clear hr hB hl
  unfold glZ at hA hk HN
  have hn1 : (n : Int) ≤ 524297 := by omega
  go_enter Try.func23, Try.ntmps23
  go_wp2_with fail
  with_reducible refine HN.out.mono ?_
  rintro e w1 ⟨b, rfl, hrd, hb1⟩
  have hk1 := kept_block hk hb1
  have hbw := hA.trans (hb1.mono hA.size)
  have hrq := RdQ.new hrd
  have hfr := hrd.from_
  have hbne : w.heap.size ≠ b := by simp at hfr; omega
  have hbb : w.heap.size ≤ b := by simp at hfr; omega
  have HR := Lib.hid (oread_any hrq HB.out hml)
  clear hk hA hb1 hrd HN hfr
  go_wp2_with fail
  with_reducible refine HR.out.mono ?_
  rintro e w2 ⟨hg2, ⟨hno, v, j, rfl, hrd⟩ | ⟨s, v, hgood, rfl, hrows, hap, hv, hrd⟩⟩
  · have hk2 := (hg2.block _ (lt_of_block hk1) (by intro e; cases e; exact hbne rfl)).trans hk1
    have hb2 := hbw.grown hg2 hbw.size (fun k e => by cases e; exact hbb)
    have HX := Lib.hid (oParse_no1 hno)
    unfold GlV.val GlV.cells
    obtain ⟨⟨x0, x1, x2, x3, es, pr, ps⟩, EA, en, ec, PA, pn, pc, SA, sn, sc⟩ := v
    simp only
    have hA3 := (Below.refl w2.heap.size w2).alloc (Nat.le_refl _) (.cells #[.int .i16 x0, .int .i16 x1, .int .i16 x2, .int .i16 x3, .slice EA en ec, .slice PA pn pc, .slice SA sn sc] 29)
    have hk3 := kept_block hk2 hA3
    have hb3 := hb2.trans (hA3.mono hb2.size)
    have hnew := heap_alloc_new w2 (.cells glZ 29)
    unfold glZ at hnew
    have KR := Lib.hid (setRow_heap _ w.heap.size _ glZ 29 (0, 0) hk3)
    have HBl := Lib.hid (below_rowO (Nat.le_refl _) glZ hb3)
    unfold glZ at KR HBl
    clear hno hrd hg2 hk1 hk2 hb2 hA3 hb3 hbw HR
    go_wp2_with (first
      | (with_reducible refine wpList_store_row rfl 29 (.tmp 6) (.tmp 17) rfl w2.heap.size #[.int .i16 x0, .int .i16 x1, .int .i16 x2, .int .i16 x3, .slice EA en ec, .slice PA pn pc, .slice SA sn sc] rfl rfl 29 #[.int .i16 0, .int .i16 0, .int .i16 0, .int .i16 0, .slice none 0 0, .slice none 0 0, .slice none 0 0] hnew (gl7 _ _ _ _ _ _ _ _ _ _ _ _ _).1 (gl7 _ _ _ _ _ _ _ _ _ _ _ _ _).2.1 (gl7 _ _ _ _ _ _ _ _ _ _ _ _ _).2.2 ?_; rw [World.setRow_alloc_new])
      | (with_reducible refine wpList_store_row rfl 29 (.tmp 2) (.tmp 25) rfl w.heap.size #[.int .i16 0, .int .i16 0, .int .i16 0, .int .i16 0, .slice none 0 0, .slice none 0 0, .slice none 0 0] rfl rfl 29 #[.int .i16 0, .int .i16 0, .int .i16 0, .int .i16 0, .slice none 0 0, .slice none 0 0, .slice none 0 0] hk3 (gl7 _ _ _ _ _ _ _ _ _ _ _ _ _).1 (gl7 _ _ _ _ _ _ _ _ _ _ _ _ _).2.1 (gl7 _ _ _ _ _ _ _ _ _ _ _ _ _).2.2 ?_))
    exact bodyPost_ret (v := .tuple #[glV0.val, .int .i64 0, .int .i64 2]) (results_three Try.results23 _ _ w.heap.size 29 _ (0, 0) _ rfl rfl rfl KR.out Try.underlying29 rfl (glSize rfl)) rfl ⟨HBl.out, .inl ⟨HX.out, rfl⟩⟩
  · have hk2 := (hg2.block _ (lt_of_block hk1) (by intro e; cases e; exact hbne rfl)).trans hk1
    have hb2 := hbw.grown hg2 hbw.size (fun k e => by cases e; exact hbb)
    have HV := Lib.hid hv
    have Hrows := Lib.hid hrows
    have Hap := Lib.hid hap
    unfold GlV.val GlV.cells
    obtain ⟨⟨x0, x1, x2, x3, es, pr, ps⟩, EA, en, ec, PA, pn, pc, SA, sn, sc⟩ := v
    simp only
    have hA3 := (Below.refl w2.heap.size w2).alloc (Nat.le_refl _) (.cells #[.int .i16 x0, .int .i16 x1, .int .i16 x2, .int .i16 x3, .slice EA en ec, .slice PA pn pc, .slice SA sn sc] 29)
    have hk3 := kept_block hk2 hA3
    have hb3 := hb2.trans (hA3.mono hb2.size)
    have hnew := heap_alloc_new w2 (.cells glZ 29)
    have hnew3 := heap_alloc_new w2 (.cells #[.int .i16 x0, .int .i16 x1, .int .i16 x2, .int .i16 x3, .slice EA en ec, .slice PA pn pc, .slice SA sn sc] 29)
    have hrows3 := Hrows.out.below hA3
    have hap3 := Hap.out.below hA3
    have HBad := Lib.hid (rdq_badB (hrd.below hA3))
    have hrd3 := hrd.below hA3
    have hne2 : w.heap.size ≠ w2.heap.size := by have := lt_of_block hk2; omega
    have hw2 : w.heap.size < w2.heap.size := lt_of_block hk2
    unfold glZ at hnew
    have KR := Lib.hid (setRow_heap _ w.heap.size _ glZ 29 (0, 0) hk3)
    have HBl := Lib.hid (below_rowO (Nat.le_refl _) glZ hb3)
    unfold glZ at KR HBl
    clear hrows hap hv hrd hg2 hk1 hk2 hb2 hA3 hbw HR
    go_wp2_with (with_reducible refine wpList_store_row rfl 29 (.tmp 6) (.tmp 17) rfl w2.heap.size #[.int .i16 x0, .int .i16 x1, .int .i16 x2, .int .i16 x3, .slice EA en ec, .slice PA pn pc, .slice SA sn sc] rfl rfl 29 #[.int .i16 0, .int .i16 0, .int .i16 0, .int .i16 0, .slice none 0 0, .slice none 0 0, .slice none 0 0] hnew (gl7 _ _ _ _ _ _ _ _ _ _ _ _ _).1 (gl7 _ _ _ _ _ _ _ _ _ _ _ _ _).2.1 (gl7 _ _ _ _ _ _ _ _ _ _ _ _ _).2.2 ?_; rw [World.setRow_alloc_new])
    with_reducible refine HBad.out.mono ?_
    rintro e w4 ⟨rfl, rfl⟩
    clear hnew
    by_cases hlen : zs.length < oEnd zs s
    · have HX := Lib.hid (oParse_no2 hgood hlen)
      rw [decide_eq_true hlen]
      clear hgood hlen HV Hrows hrows3 Hap hap3 hnew3 hrd3 HBad
      generalize w2.alloc _ = V at *
      go_wp2_with (with_reducible refine wpList_store_row rfl 29 (.tmp 2) (.tmp 25) rfl w.heap.size #[.int .i16 0, .int .i16 0, .int .i16 0, .int .i16 0, .slice none 0 0, .slice none 0 0, .slice none 0 0] rfl rfl 29 #[.int .i16 0, .int .i16 0, .int .i16 0, .int .i16 0, .slice none 0 0, .slice none 0 0, .slice none 0 0] hk3 (gl7 _ _ _ _ _ _ _ _ _ _ _ _ _).1 (gl7 _ _ _ _ _ _ _ _ _ _ _ _ _).2.1 (gl7 _ _ _ _ _ _ _ _ _ _ _ _ _).2.2 ?_)
      exact bodyPost_ret (v := .tuple #[glV0.val, .int .i64 0, .int .i64 2]) (results_three Try.results23 _ _ w.heap.size 29 _ (0, 0) _ rfl rfl rfl KR.out Try.underlying29 rfl (glSize rfl)) rfl ⟨HBl.out, .inl ⟨HX.out, rfl⟩⟩
    · have HX := Lib.hid (oParse_some hgood (by omega))
      have HAt : Hid (∀ W, RdQ W (w.alloc (.cells #[.int .i16 0, .int .i16 0, .int .i16 0, .int .i16 0, .slice none 0 0, .slice none 0 0, .slice none 0 0] 29)).heap.size b zs (oEnd zs s) → Calls Try.prog 64 #[.pointer (some ⟨b, 0, none⟩)] W fun e w' => e = .returned (.int .i64 ((oEnd zs s : Nat) : Int)) ∧ w' = W) := fun W h => (rdq_at h (by omega)).mono fun e w' ⟨h1, h2⟩ => ⟨h1, h2.symm⟩
      have HAt2 := Lib.hid (HAt.out _ hrd3.drew)
      rw [decide_eq_false hlen]
      generalize w2.alloc _ = V at *
      have hk4 : V.drew.heap[w.heap.size]? = some (.cells #[.int .i16 0, .int .i16 0, .int .i16 0, .int .i16 0, .slice none 0 0, .slice none 0 0, .slice none 0 0] 29 (0, 0)) := hk3
      have KR2 := Lib.hid (setRow_heap V.drew w.heap.size #[.int .i16 0, .int .i16 0, .int .i16 0, .int .i16 0, .slice none 0 0, .slice none 0 0, .slice none 0 0] #[.int .i16 x0, .int .i16 x1, .int .i16 x2, .int .i16 x3, .slice EA en ec, .slice PA pn pc, .slice SA sn sc] 29 (0, 0) hk4)
      have HBl2 := Lib.hid (below_rowO (Nat.le_refl _) #[.int .i16 x0, .int .i16 x1, .int .i16 x2, .int .i16 x3, .slice EA en ec, .slice PA pn pc, .slice SA sn sc] hb3.drew)
      have HRows : Hid (GlV.rows (V.drew.setRow w.heap.size #[.int .i16 x0, .int .i16 x1, .int .i16 x2, .int .i16 x3, .slice EA en ec, .slice PA pn pc, .slice SA sn sc]) ⟨⟨x0, x1, x2, x3, es, pr, ps⟩, EA, en, ec, PA, pn, pc, SA, sn, sc⟩) := GlV.rows.row (w := V.drew) ⟨hrows3.es, hrows3.pr, hrows3.ps⟩ hap3 hk4 _
      obtain ⟨b0, b1, b2, b3, b4, b5, b6⟩ := cells7 (show V.drew.heap[w2.heap.size]? = some (.cells #[.int .i16 x0, .int .i16 x1, .int .i16 x2, .int .i16 x3, .slice EA en ec, .slice PA pn pc, .slice SA sn sc] 29 (0, 0)) from hnew3)
      clear hgood hlen hk3 hb3 KR HBl hnew3 hrd3 HAt HBad Hrows hrows3 Hap hap3
      go_upto_region 5 with fail
      refine wp_region_still_tail 3 (by kernel_rfl) (by kernel_rfl) ?_
      simp only [List.take_succ_cons, List.take_zero, List.drop_succ_cons, List.drop_zero]
      repeat still_step
      still_call HAt2.out
      refine wpStill_nil ?_
      refine wpList_store_row rfl 29 (.tmp 2) (.tmp 26) rfl w.heap.size #[.int .i16 x0, .int .i16 x1, .int .i16 x2, .int .i16 x3, .slice EA en ec, .slice PA pn pc, .slice SA sn sc] rfl rfl 29 #[.int .i16 0, .int .i16 0, .int .i16 0, .int .i16 0, .slice none 0 0, .slice none 0 0, .slice none 0 0] hk4 (gl7 _ _ _ _ _ _ _ _ _ _ _ _ _).1 (gl7 _ _ _ _ _ _ _ _ _ _ _ _ _).2.1 (gl7 _ _ _ _ _ _ _ _ _ _ _ _ _).2.2 ?_
      go_wp2
      exact bodyPost_ret (v := .tuple #[.agg #[.int .i16 x0, .int .i16 x1, .int .i16 x2, .int .i16 x3, .slice EA en ec, .slice PA pn pc, .slice SA sn sc], .int .i64 (oEnd zs s : Nat), .int .i64 0]) (results_three Try.results23 _ _ w.heap.size 29 _ (0, 0) _ rfl rfl rfl KR2.out Try.underlying29 rfl (glSize rfl)) rfl ⟨HBl2.out, .inr ⟨_, _, _, HX.out, rfl, HRows.out, HV.out⟩⟩

end Go.Proofs.Ytlcnonhebppeiaa

/- The document's example of outlines. -/
namespace Go.Proofs.Ytlcnonhebppeiaa
open Go.RowKit
set_option linter.unusedVariables false

def ex12 : Gl := ⟨0, 0, 0, 0, [0], [], [(1, -1, true)]⟩
theorem ex12_ok : ex12.ok := ⟨by decide, by decide, (fun x hx => by cases hx), by decide⟩
theorem ex12_right : oRight ex12 = true := by decide
theorem ex12_B : oB ex12 = [0, 1, 0, 0, 0, 0, 0, 0, 0, 0, 0, 0, 0, 0, 23, 1, 1] := by decide

set_option maxRecDepth 100000 in
set_option maxHeartbeats 2000000 in
theorem awake12_any (w : World) : Calls Try.prog 15 #[] w (True_ w) := by
  have hA1 := (Below.refl w.heap.size w).alloc (Nat.le_refl _) (.cells #[.int .u16 0] 54)
  have hA := hA1.alloc hA1.size (.cells #[.int .i16 1, .int .i16 (-1), .bool true] 60)
  have hr : GlV.rows ((w.alloc (.cells #[.int .u16 0] 54)).alloc (.cells #[.int .i16 1, .int .i16 (-1), .bool true] 60)) ⟨ex12, some ⟨w.heap.size, 0, none⟩, 1, 1, none, 0, 0, some ⟨w.heap.size + 1, 0, none⟩, 1, 1⟩ := by
    refine ⟨(row_one w .u16 0 54).below ((Below.refl _ _).alloc (Nat.le_refl _) _), Row.empty _ _, ?_⟩
    have := rowS_vals encSp_len (w.alloc (.cells #[.int .u16 0] 54)) 60 [(1, -1, true)] #[.int .i16 1, .int .i16 (-1), .bool true] rfl 1 rfl
    rwa [show (w.alloc (.cells #[.int .u16 0] 54)).heap.size = w.heap.size + 1 by simp] at this
  have HB := Lib.hid (obytes_any _ _ hr ⟨by show (1 : Nat) ≤ 10000; omega, by show (0 : Nat) ≤ 10000; omega, by show (1 : Nat) ≤ 10000; omega⟩ ex12_ok)
  rw [show oBytes ex12 = [0, 1, 0, 0, 0, 0, 0, 0, 0, 0, 0, 0, 0, 0, 23, 1, 1] by unfold oBytes; rw [if_pos ex12_right, ex12_B]] at HB
  have HB2 : Hid (Calls Try.prog 18 #[.agg #[.int .i16 0, .int .i16 0, .int .i16 0, .int .i16 0, .slice (some ⟨w.heap.size, 0, none⟩) 1 1, .slice none 0 0, .slice (some ⟨w.heap.size + 1, 0, none⟩) 1 1]] ((w.alloc (.cells #[.int .u16 0] 54)).alloc (.cells #[.int .i16 1, .int .i16 (-1), .bool true] 60)) (RetB ((w.alloc (.cells #[.int .u16 0] 54)).alloc (.cells #[.int .i16 1, .int .i16 (-1), .bool true] 60)) [0, 1, 0, 0, 0, 0, 0, 0, 0, 0, 0, 0, 0, 0, 23, 1, 1])) := HB.out
  clear HB hr hA1
  go_enter Try.func15, Try.ntmps15
  go_wp2_with fail
  with_reducible refine HB2.out.mono ?_
  rintro e w1 ⟨A1, n1, c1, rfl, hown1, hb1⟩
  have hl1 := hown1.len
  simp only [List.length_cons, List.length_nil] at hl1
  obtain rfl : n1 = 17 := by omega
  have hcap := hown1.cap
  have hbw := hA.trans (hb1.mono hA.size)
  have hrow := hown1.row
  obtain ⟨g, off, rfl, hg, _⟩ := hrow.at (j := 0) (u := .int .u8 0) rfl
  have hrow2 : Row w1 (some ⟨g, off + 14, none⟩) 3 (cellsOf .u8 [23, 1, 1]) := by have := hrow.drop 14; rw [cellsOf_drop] at this; simpa [Addr.add_lit] using this
  have hA2 := (Below.refl w1.heap.size w1).alloc (Nat.le_refl _) (.cells #[.int .u8 23, .int .u8 1, .int .u8 1] 5)
  have HS := Lib.hid (same_any (some ⟨g, off + 14, none⟩) (some ⟨w1.heap.size, 0, none⟩) 3 (c1 - 14) 3 3 [23, 1, 1] [23, 1, 1] _ (hrow2.below hA2) (row_lit w1 .u8 5 [23, 1, 1] 3 rfl) (by omega) (by omega))
  rw [sameB_refl] at HS
  have hbw2 := hbw.trans (hA2.mono hbw.size)
  have hc14 : ¬ c1 = 14 := by omega
  clear HB2 hA hown1 hb1 hl1 hrow hrow2 hA2 hbw
  go_wp2_with fail
  refine HS.out.mono ?_
  rintro e w2 ⟨rfl, q, rfl⟩
  go_wp2
  go_ret
  exact ⟨rfl, below_drewN hbw2 q⟩

end Go.Proofs.Ytlcnonhebppeiaa

/- slices.Equal of numbers and of places; simple.Same. -/
namespace Go.Proofs.Ytlcnonhebppeiaa
open Go.RowKit
set_option linter.unusedVariables false

set_option maxHeartbeats 1000000 in
theorem equalU16_any (A B : Option Addr) (n c m d : Nat) (xs ys : List Int) (w : World) (hx : Row w A n (cellsOf .u16 xs)) (hy : Row w B m (cellsOf .u16 ys)) (hl : n ≤ 140737488355328) (hl' : m ≤ 140737488355328) :
    Calls Try.prog 68 #[.slice A n c, .slice B m d] w (Quiet w (.bool (sameB xs ys))) := by
  have Hx := Lib.hid hx.len
  have Hy := Lib.hid hy.len
  by_cases hnm : n = m
  · subst hnm
    have hne : ((n : Int) != (n : Int)) = false := by simp
    go_enter Try.func68, Try.ntmps68
    go_wp2
    clear hne
    go_loopw [13] (fun i wr => ∃ k q : Nat, k ≤ n ∧ i = .int .i64 k ∧ xs.take k = ys.take k ∧ wr = w.drewN q) (fun i _ => n - (intOf i).toNat)
    case atStart => exact ⟨0, 0, Nat.zero_le _, rfl, by simp, rfl⟩
    case round =>
      obtain ⟨k, q, hk, rfl, hp, rfl⟩ := hrel
      have Hp := Lib.hid hp
      clear hp
      by_cases hlt : k < n
      · obtain ⟨x, ex⟩ := get_some (zs := xs) (k := k) (by have := Hx.out; omega)
        obtain ⟨y, ey⟩ := get_some (zs := ys) (k := k) (by have := Hy.out; omega)
        obtain ⟨g, off, rfl, hg, hc⟩ := hx.at (cellsOf_get (k := .u16) ex)
        obtain ⟨g', off', rfl, hg', hc'⟩ := hy.at (cellsOf_get (k := .u16) ey)
        have Ex := Lib.hid ex
        have Ey := Lib.hid ey
        clear ex ey
        by_cases he : x = y
        · have hb : (x != y) = false := by simp [he]
          have He := Lib.hid he
          clear he
          go_wp2
          go_quiet (fail)
          go_wp2
          go_roundw
          case rel => exact ⟨k + 1, _, by omega, by go_num, by rw [List.take_add_one, List.take_add_one, Ex.out, Ey.out, Hp.out, He.out], by first | rfl | (rw [World.drewN_drewN])⟩
          case measure => simp [intOf]; omega
        · have hb : (x != y) = true := by simp [he]
          have He := Lib.hid he
          clear he
          go_wp2
          go_quiet (fail)
          go_wp2
          go_ret
          refine ⟨?_, _, by first | rfl | (rw [World.drewN_drewN])⟩
          have hf : sameB xs ys = false := by
            unfold sameB
            rw [decide_eq_false_iff_not]
            rintro rfl
            have e1 := Ex.out
            rw [Ey.out] at e1
            exact He.out (Option.some.inj e1).symm
          rw [hf]
          rfl
      · go_wp2
        go_ret
        refine ⟨?_, q, rfl⟩
        have hp := Hp.out
        rw [List.take_of_length_le (by have := Hx.out; omega), List.take_of_length_le (by have := Hy.out; omega)] at hp
        have hf : sameB xs ys = true := by unfold sameB; simp [hp]
        rw [hf]
        rfl
  · have hne : ((n : Int) != (m : Int)) = true := by simp; omega
    go_enter Try.func68, Try.ntmps68
    go_wp2
    go_ret
    refine ⟨?_, 0, rfl⟩
    have hf : sameB xs ys = false := by
      unfold sameB
      rw [decide_eq_false_iff_not]
      rintro rfl
      have := Hx.out
      have := Hy.out
      omega
    rw [hf]
    rfl

set_option maxHeartbeats 1000000 in
theorem equalU8_any (A B : Option Addr) (n c m d : Nat) (xs ys : List Int) (w : World) (hx : Row w A n (cellsOf .u8 xs)) (hy : Row w B m (cellsOf .u8 ys)) (hl : n ≤ 140737488355328) (hl' : m ≤ 140737488355328) :
    Calls Try.prog 69 #[.slice A n c, .slice B m d] w (Quiet w (.bool (sameB xs ys))) := by
  have Hx := Lib.hid hx.len
  have Hy := Lib.hid hy.len
  by_cases hnm : n = m
  · subst hnm
    have hne : ((n : Int) != (n : Int)) = false := by simp
    go_enter Try.func69, Try.ntmps69
    go_wp2
    clear hne
    go_loopw [13] (fun i wr => ∃ k q : Nat, k ≤ n ∧ i = .int .i64 k ∧ xs.take k = ys.take k ∧ wr = w.drewN q) (fun i _ => n - (intOf i).toNat)
    case atStart => exact ⟨0, 0, Nat.zero_le _, rfl, by simp, rfl⟩
    case round =>
      obtain ⟨k, q, hk, rfl, hp, rfl⟩ := hrel
      have Hp := Lib.hid hp
      clear hp
      by_cases hlt : k < n
      · obtain ⟨x, ex⟩ := get_some (zs := xs) (k := k) (by have := Hx.out; omega)
        obtain ⟨y, ey⟩ := get_some (zs := ys) (k := k) (by have := Hy.out; omega)
        obtain ⟨g, off, rfl, hg, hc⟩ := hx.at (cellsOf_get (k := .u8) ex)
        obtain ⟨g', off', rfl, hg', hc'⟩ := hy.at (cellsOf_get (k := .u8) ey)
        have Ex := Lib.hid ex
        have Ey := Lib.hid ey
        clear ex ey
        by_cases he : x = y
        · have hb : (x != y) = false := by simp [he]
          have He := Lib.hid he
          clear he
          go_wp2
          go_quiet (fail)
          go_wp2
          go_roundw
          case rel => exact ⟨k + 1, _, by omega, by go_num, by rw [List.take_add_one, List.take_add_one, Ex.out, Ey.out, Hp.out, He.out], by first | rfl | (rw [World.drewN_drewN])⟩
          case measure => simp [intOf]; omega
        · have hb : (x != y) = true := by simp [he]
          have He := Lib.hid he
          clear he
          go_wp2
          go_quiet (fail)
          go_wp2
          go_ret
          refine ⟨?_, _, by first | rfl | (rw [World.drewN_drewN])⟩
          have hf : sameB xs ys = false := by
            unfold sameB
            rw [decide_eq_false_iff_not]
            rintro rfl
            have e1 := Ex.out
            rw [Ey.out] at e1
            exact He.out (Option.some.inj e1).symm
          rw [hf]
          rfl
      · go_wp2
        go_ret
        refine ⟨?_, q, rfl⟩
        have hp := Hp.out
        rw [List.take_of_length_le (by have := Hx.out; omega), List.take_of_length_le (by have := Hy.out; omega)] at hp
        have hf : sameB xs ys = true := by unfold sameB; simp [hp]
        rw [hf]
        rfl
  · have hne : ((n : Int) != (m : Int)) = true := by simp; omega
    go_enter Try.func69, Try.ntmps69
    go_wp2
    go_ret
    refine ⟨?_, 0, rfl⟩
    have hf : sameB xs ys = false := by
      unfold sameB
      rw [decide_eq_false_iff_not]
      rintro rfl
      have := Hx.out
      have := Hy.out
      omega
    rw [hf]
    rfl

/-- Are two lists of places alike? -/
def samePs (a b : List Sp) : Bool := decide (a = b)

set_option maxHeartbeats 1000000 in
theorem equalSp_any (A B : Option Addr) (n c m d : Nat) (xs ys : List Sp) (w : World) (hx : RowS encSp 3 w A n xs) (hy : RowS encSp 3 w B m ys) (hl : n ≤ 1000000) (hl' : m ≤ 1000000) :
    Calls Try.prog 70 #[.slice A n c, .slice B m d] w (Quiet w (.bool (samePs xs ys))) := by
  have Hx := Lib.hid hx.len
  have Hy := Lib.hid hy.len
  by_cases hnm : n = m
  · subst hnm
    have hne : ((n : Int) != (n : Int)) = false := by simp
    go_enter Try.func70, Try.ntmps70
    go_wp2
    clear hne
    go_loopw [13] (fun i wr => ∃ k q : Nat, k ≤ n ∧ i = .int .i64 k ∧ xs.take k = ys.take k ∧ wr = w.drewN q) (fun i _ => n - (intOf i).toNat)
    case atStart => exact ⟨0, 0, Nat.zero_le _, rfl, by simp, rfl⟩
    case round =>
      obtain ⟨k, q, hk, rfl, hp, rfl⟩ := hrel
      have Hp := Lib.hid hp
      clear hp
      by_cases hlt : k < n
      · obtain ⟨x, ex⟩ : ∃ p, xs[k]? = some p := ⟨xs[k]'(by have := Hx.out; omega), List.getElem?_eq_getElem (by have := Hx.out; omega)⟩
        obtain ⟨y, ey⟩ : ∃ p, ys[k]? = some p := ⟨ys[k]'(by have := Hy.out; omega), List.getElem?_eq_getElem (by have := Hy.out; omega)⟩
        obtain ⟨g, off, rfl, hg, q0, q1, q2⟩ := atSp hx ex
        obtain ⟨g', off', rfl, hg', r0, r1, r2⟩ := atSp hy ey
        have Ex := Lib.hid ex
        have Ey := Lib.hid ey
        have i0 : (0 : Int) ≤ (k : Int) := by omega
        have i1 : (k : Int) < (n : Int) := by omega
        clear ex ey
        by_cases he : x = y
        · subst he
          obtain ⟨a0, a1, a2⟩ := x
          simp only at *
          go_wp2
          go_quiet (fail)
          go_wp2
          go_roundw
          case rel => exact ⟨k + 1, _, by omega, by go_num, by rw [List.take_add_one, List.take_add_one, Ex.out, Ey.out, Hp.out], by first | rfl | (rw [World.drewN_drewN])⟩
          case measure => simp [intOf]; omega
        · have hf : Hid (samePs xs ys = false) := by
            show _ = _
            unfold samePs
            rw [decide_eq_false_iff_not]
            rintro rfl
            have e1 := Ex.out
            rw [Ey.out] at e1
            exact he (Option.some.inj e1).symm
          obtain ⟨a0, a1, a2⟩ := x
          obtain ⟨b0, b1, b2⟩ := y
          simp only at *
          by_cases h0 : a0 = b0
          · subst h0
            by_cases h1 : a1 = b1
            · subst h1
              have h2 : a2 ≠ b2 := fun h => he (by rw [h])
              clear he
              cases a2 <;> cases b2
              all_goals
                first
                | exact absurd rfl h2
                | (clear h2
                   go_wp2
                   go_quiet (fail)
                   go_wp2
                   go_ret
                   exact ⟨by rw [hf.out]; rfl, _, by first | rfl | (rw [World.drewN_drewN])⟩
                   )
            · have e0 : decide (a1 = b1) = false := decide_eq_false h1
              have e1 : (a1 == b1) = false := by simp [h1]
              clear he
              go_wp2
              go_quiet (fail)
              go_wp2
              go_ret
              exact ⟨by rw [hf.out]; rfl, _, by first | rfl | (rw [World.drewN_drewN])⟩
          · have e0 : decide (a0 = b0) = false := decide_eq_false h0
            have e1 : (a0 == b0) = false := by simp [h0]
            clear he
            go_wp2
            go_quiet (fail)
            go_wp2
            go_ret
            exact ⟨by rw [hf.out]; rfl, _, by first | rfl | (rw [World.drewN_drewN])⟩
      · go_wp2
        go_ret
        refine ⟨?_, q, rfl⟩
        have hp := Hp.out
        rw [List.take_of_length_le (by have := Hx.out; omega), List.take_of_length_le (by have := Hy.out; omega)] at hp
        have hf : samePs xs ys = true := by unfold samePs; simp [hp]
        rw [hf]
        rfl
  · have hne : ((n : Int) != (m : Int)) = true := by simp; omega
    go_enter Try.func70, Try.ntmps70
    go_wp2
    go_ret
    refine ⟨?_, 0, rfl⟩
    have hf : samePs xs ys = false := by
      unfold samePs
      rw [decide_eq_false_iff_not]
      rintro rfl
      have := Hx.out
      have := Hy.out
      omega
    rw [hf]
    rfl

end Go.Proofs.Ytlcnonhebppeiaa

/- Join of any written-out row of byte slices; arrays of numbers held against one another. -/
namespace Go.Proofs.Ytlcnonhebppeiaa
open Go.RowKit
set_option linter.unusedVariables false

theorem joinN_any (V : World) (b : Nat) (l : List BsV) (k : Nat) (cs : Array Value) (hcs : cs = (l.map BsV.val).toArray) (hb : b = V.heap.size) (hk : l.length = k) (hs : ∀ p ∈ l, p.ok V) (hk' : k ≤ 140737488351232) (hl : (joined l).length ≤ 140737488351232) :
    Calls Try.prog 24 #[.slice (some ⟨b, 0, none⟩) k k] (V.alloc (.cells cs 25)) (RetB V (joined l)) := by
  subst hb hcs
  have ha : Below V.heap.size V (V.alloc (.cells (l.map BsV.val).toArray 25)) := (Below.refl _ _).alloc (Nat.le_refl _) _
  refine (join_any _ k k l _ (row_vals V 25 _ k (by rw [List.length_map]; exact hk)) (fun p hp => ?_) hk' hl).mono ?_
  · exact Row.below (hs p hp) ha
  · rintro e w' ⟨A, n, c, rfl, ho, hb⟩
    exact ⟨A, n, c, rfl, ho.mono (by simp), ha.trans (hb.mono (by simp))⟩

/-- A search for the first place where two lists part. -/
theorem forIn_apart {P : Program} (w : World) (xs ys : List Int) (f : Nat → Option Bool × Unit → Sem (ForInStep (Option Bool × Unit)))
    (hf : ∀ i x y, xs[i]? = some x → ys[i]? = some y → ∀ r, (f i r).run P w = .ok (if x = y then .yield (none, ()) else .done (some false, ())) w) (hxy : xs.length = ys.length) :
    ∀ (n s : Nat), s + n = xs.length → xs.take s = ys.take s → (forIn (List.range' s n) (none, ()) f).run P w = .ok (if xs = ys then (none, ()) else (some false, ())) w := by
  intro n
  induction n with
  | zero =>
    intro s hsn ht
    have : xs = ys := by rw [List.take_of_length_le (by omega), List.take_of_length_le (by omega)] at ht; exact ht
    simp [this]
  | succ n ih =>
    intro s hsn ht
    have h1 : xs[s]? = some xs[s] := List.getElem?_eq_getElem (by omega)
    have h2 : ys[s]? = some ys[s] := List.getElem?_eq_getElem (by omega)
    rw [List.range'_succ, List.forIn_cons]
    simp only [Sem.run_bind, hf s _ _ h1 h2, Result.andThen_ok]
    by_cases he : xs[s] = ys[s]
    · rw [if_pos he]
      exact ih (s + 1) (by omega) (by rw [List.take_add_one, List.take_add_one, h1, h2, ht, he])
    · have hne : ¬ xs = ys := by
        rintro rfl
        exact he rfl
      rw [if_neg he, if_neg hne]
      simp [Sem.run_pure]

/-- Arrays of numbers are alike just if all their numbers are. -/
theorem run_equalIn_ints {P : Program} (w : World) (d : Nat) (t e : TypeId) (len : Nat) (k k' : IntKind) (xs ys : List Int) (ht : P.underlying t = some (.array len e)) (he : P.underlying e = some (.int k')) (ha : (isAgg e).run P w = .ok false w) (hs : (Go.sizeOf e).run P w = .ok 1 w) (hx : xs.length = len) (hy : ys.length = len) :
    (Op.equalIn (d + 2) t (.agg (cellsOf k xs).toArray) (.agg (cellsOf k ys).toArray)).run P w = .ok (decide (xs = ys)) w := by
  rw [show d + 2 = (d + 1) + 1 from rfl, Op.equalIn]
  simp only [Sem.run_bind, run_underlying ht, hs, Result.andThen_ok]
  rw [Std.Legacy.Range.forIn_eq_forIn_range']
  rw [show Std.Legacy.Range.size [0:len] = xs.length by simp [Std.Legacy.Range.size, hx]]
  rw [forIn_apart w xs ys _ ?_ (by omega) xs.length 0 (by omega) (by simp)]
  · simp only [Result.andThen_ok]
    by_cases h : xs = ys <;> simp [h, Sem.run_pure]
  · intro i x y h1 h2 r
    simp only [Sem.run_bind, Go.part, ha, Result.andThen_ok, Bool.false_eq_true, if_false, List.getElem?_toArray, Nat.mul_one, cellsOf_get h1, cellsOf_get h2, Sem.run_pure, run_equalIn_int w d e k k' x y he]
    by_cases h : x = y <;> simp [h, Sem.run_pure]

end Go.Proofs.Ytlcnonhebppeiaa

/- simple.Same, as a contract over this seat's translation. -/
namespace Go.Proofs.Ytlcnonhebppeiaa
open Go.RowKit
set_option linter.unusedVariables false

def sameBox (a b : Gl) : Bool := decide ([a.x0, a.x1, a.x2, a.x3] = [b.x0, b.x1, b.x2, b.x3])
def glSame (a b : Gl) : Bool := sameBox a b && sameB a.es b.es && sameB a.pr b.pr && samePs a.ps b.ps
theorem glSame_refl (g : Gl) : glSame g g = true := by simp [glSame, sameBox, sameB, samePs]
theorem glSame_eq {a b : Gl} (h : glSame a b = true) : a = b := by
  obtain ⟨x0, x1, x2, x3, es, pr, ps⟩ := a
  obtain ⟨y0, y1, y2, y3, fs, qr, qs⟩ := b
  simp [glSame, sameBox, sameB, samePs] at h
  simp [h]

set_option maxRecDepth 100000 in
theorem run_eq_box (x0 x1 x2 x3 y0 y1 y2 y3 : Int) (w : World) : (binOp .eql 23 (.agg #[.int .i16 x0, .int .i16 x1, .int .i16 x2, .int .i16 x3]) (.agg #[.int .i16 y0, .int .i16 y1, .int .i16 y2, .int .i16 y3])).run Try.prog w = .ok (.bool (decide ([x0, x1, x2, x3] = [y0, y1, y2, y3]))) w := by
  have h := run_equalIn_ints (P := Try.prog) w 9998 23 22 4 .i16 .i16 [x0, x1, x2, x3] [y0, y1, y2, y3] Try.underlying23 Try.underlying22 (by simp [go_sem]) (by simp [go_sem]) rfl rfl
  change (Op.equalIn 10000 23 (.agg #[.int .i16 x0, .int .i16 x1, .int .i16 x2, .int .i16 x3]) (.agg #[.int .i16 y0, .int .i16 y1, .int .i16 y2, .int .i16 y3])).run Try.prog w = _ at h
  rw [run_eql_struct, h]
  rfl

set_option maxRecDepth 100000 in
set_option maxHeartbeats 2000000 in
theorem osame_any (a b : GlV) (w : World) (ha : a.rows w) (hb : b.rows w) (a1 : a.en ≤ 1000000) (a2 : a.pn ≤ 1000000) (a3 : a.sn ≤ 1000000) (b1 : b.en ≤ 1000000) (b2 : b.pn ≤ 1000000) (b3 : b.sn ≤ 1000000) :
    Calls Try.prog 27 #[a.val, b.val] w (Ret w (.bool (glSame a.g b.g))) := by
  have hA1 := (Below.refl w.heap.size w).alloc (Nat.le_refl _) (.cells a.cells 29)
  have hA := hA1.alloc (hA1.size) (.cells b.cells 29)
  have HE : Hid (∀ W, Below w.heap.size w W → Calls Try.prog 68 #[.slice a.EA a.en a.ec, .slice b.EA b.en b.ec] W (Quiet W (.bool (sameB a.g.es b.g.es)))) := fun W hW => equalU16_any _ _ _ _ _ _ _ _ W (ha.es.below hW) (hb.es.below hW) (by omega) (by omega)
  have HP : Hid (∀ W, Below w.heap.size w W → Calls Try.prog 69 #[.slice a.PA a.pn a.pc, .slice b.PA b.pn b.pc] W (Quiet W (.bool (sameB a.g.pr b.g.pr)))) := fun W hW => equalU8_any _ _ _ _ _ _ _ _ W (ha.pr.below hW) (hb.pr.below hW) (by omega) (by omega)
  have HS : Hid (∀ W, Below w.heap.size w W → Calls Try.prog 70 #[.slice a.SA a.sn a.sc, .slice b.SA b.sn b.sc] W (Quiet W (.bool (samePs a.g.ps b.g.ps)))) := fun W hW => equalSp_any _ _ _ _ _ _ _ _ W (ha.ps.below hW) (hb.ps.below hW) a3 b3
  clear ha hb a1 a2 a3 b1 b2 b3 hA1
  unfold GlV.val glSame sameBox at *
  unfold GlV.cells at *
  obtain ⟨⟨x0, x1, x2, x3, es, pr, ps⟩, EA, en, ec, PA, pn, pc, SA, sn, sc⟩ := a
  obtain ⟨⟨y0, y1, y2, y3, fs, qr, qs⟩, FA, fn, fc, QA, qn, qc, TA, tn, tc⟩ := b
  simp only at *
  have eb := fun W => run_eq_box x0 x1 x2 x3 y0 y1 y2 y3 W
  cases hbx : decide ([x0, x1, x2, x3] = [y0, y1, y2, y3]) with
  | false =>
    rw [hbx] at eb
    clear hbx HE HP HS
    go_enter Try.func27, Try.ntmps27
    go_wp2
    go_ret
    exact ⟨rfl, hA⟩
  | true =>
    rw [hbx] at eb
    clear hbx
    go_enter Try.func27, Try.ntmps27
    go_wp2_with fail
    have H1 := Lib.hid (HE.out _ hA)
    clear HE
    with_reducible refine H1.out.mono ?_
    rintro e w1 ⟨rfl, q1, rfl⟩
    have hA2 := below_drewN hA q1
    clear H1 hA
    cases h1 : sameB es fs with
    | false =>
      clear HP HS
      go_wp2
      go_ret
      exact ⟨by simp [h1], hA2⟩
    | true =>
      go_wp2_with fail
      have H2 := Lib.hid (HP.out _ hA2)
      clear HP
      with_reducible refine H2.out.mono ?_
      rintro e w1 ⟨rfl, q2, rfl⟩
      have hA3 := below_drewN hA2 q2
      rw [World.drewN_drewN] at hA3
      clear H2 hA2
      cases h2 : sameB pr qr with
      | false =>
        clear HS
        go_wp2
        go_ret
        exact ⟨by simp [h1, h2], hA3⟩
      | true =>
        go_wp2_with fail
        have H3 := Lib.hid (HS.out _ hA3)
        clear HS
        with_reducible refine H3.out.mono ?_
        rintro e w1 ⟨rfl, q3, rfl⟩
        have hA4 := below_drewN hA3 q3
        rw [World.drewN_drewN] at hA4
        clear H3 hA3
        cases h3 : samePs ps qs
        all_goals
          go_wp2
          go_ret
          exact ⟨by simp [h1, h2, h3], hA4⟩

end Go.Proofs.Ytlcnonhebppeiaa
