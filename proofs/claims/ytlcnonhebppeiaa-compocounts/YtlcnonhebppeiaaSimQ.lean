/- simple: readFlags, as a contract over this seat's translation. -/
import Derived.Test.YtlcnonhebppeiaaRdF
namespace Go.Proofs.Ytlcnonhebppeiaa
open Go.RowKit
set_option linter.unusedVariables false

def slLenP : Value → Nat
  | .slice _ n _ => n
  | _ => 0

/-- A Reader, and a fresh row of bytes beside it. -/
structure LF (w wr : World) (B b : Nat) (zs : List Int) (i : Nat) (A : Option Addr) (n c : Nat) (xs : List Int) : Prop where
  rd : RdQ wr B b zs i
  far : Far wr b w.heap.size
  own : OwnB wr w.heap.size A n c xs
  gr : w.grownBy wr (some b)
  lt : b < w.heap.size
section
variable {w wr w' : World} {B b : Nat} {zs : List Int} {i j : Nat} {A A2 : Option Addr} {n n2 c c2 : Nat} {xs ys : List Int}
theorem LF.ask (h : LF w wr B b zs i A n c xs) (hr : RdQ w' B b zs j) (hg : wr.grownBy w' (some b)) (hf : Fars wr w' b) : LF w w' B b zs j A n c xs :=
  ⟨hr, hf _ h.far, h.own.grown hg (fun g e he => by have := (h.own.from_ g e).1; have := h.lt; cases he; omega), grown_trans h.gr hg, h.lt⟩
theorem LF.app (h : LF w wr B b zs i A n c xs) (ho : OwnB w' w.heap.size A2 n2 c2 ys) (hg : wr.grownBy w' (blockOf A)) : LF w w' B b zs i A2 n2 c2 ys := by
  have hlt := h.lt
  have hs := h.gr.size
  have hk : ∀ g, g < wr.heap.size → g < w.heap.size → w'.heap[g]? = wr.heap[g]? := fun g hg1 hg2 => hg.block g hg1 (fun e => by have := (h.own.from_ g e.symm).1; omega)
  refine ⟨h.rd.keepF h.far hg.size (fun g h1 h2 => hk g h1 (by rcases h2 with rfl | h2; exact hlt; exact h2)), h.far.keep (hk b (by omega) hlt), ho, ⟨hg.os.trans h.gr.os, hg.tape.trans h.gr.tape, hg.output.trans h.gr.output, Nat.le_trans hs hg.size, fun k hkl hne => (hk k (by omega) hkl).trans (h.gr.block k hkl hne)⟩, hlt⟩
theorem LF.alloc (h : LF w wr B b zs i A n c xs) (o : Obj) : LF w (wr.alloc o) B b zs i A n c xs := by
  have hA := (Below.refl wr.heap.size wr).alloc (Nat.le_refl _) o
  have hlt := h.lt
  have hs := h.gr.size
  exact ⟨h.rd.below hA, h.far.keep (hA.block b (by omega)), h.own.below hA, grown_trans h.gr (grown_of_below hA _), h.lt⟩
end

/-- What telling flags leaves. -/
def RetFl (w : World) (B b : Nat) (zs : List Int) (n i : Nat) (e : Ending) (w' : World) : Prop :=
  w.grownBy w' (some b) ∧ ((fAll zs n ⟨[], i⟩ = none ∧ e = .returned (.tuple #[.slice none 0 0, .bool false]) ∧ ∃ j, RdQ w' B b zs j)
    ∨ (∃ s A c, fAll zs n ⟨[], i⟩ = some s ∧ e = .returned (.tuple #[.slice A n c, .bool true]) ∧ OwnB w' w.heap.size A n c s.fl ∧ RdQ w' B b zs s.at_))

theorem fNext_bytes {zs : List Int} (hB : Bytes zs) {s : FS} (h : Bytes s.fl) : Bytes (fNext zs s).fl := by
  intro x hx
  simp only [fNext, List.mem_append, List.mem_replicate] at hx
  rcases hx with hx | ⟨_, rfl⟩
  · exact h x hx
  · exact n1at_lt hB _

set_option maxRecDepth 100000 in
set_option maxHeartbeats 4000000 in
theorem oflags_any (n : Nat) {w : World} {B b : Nat} {zs : List Int} {i : Nat} (h : RdQ w B b zs i) (hB : Bytes zs) (hl : zs.length ≤ 1000000) (hn : n ≤ 1000000) :
    Calls Try.prog 104 #[.pointer (some ⟨b, 0, none⟩), .int .i64 n] w (RetFl w B b zs n i) := by
  obtain ⟨i0, hi, hz0, hz1, hz2⟩ := info_parts Try.u8info
  have HB := Lib.hid hB
  have hlt0 := h.lt
  have hf0 := farQ_size h
  clear hB
  go_enter Try.func104, Try.ntmps104
  go_wp2_with (at_make; refine wpList_make_ints rfl (.const (.int .i64 0)) (.tmp 9) _ rfl 5 .u8 w.heap.size i0 1 Try.underlying25 hi hz0 hz1 hz2 _ _ 0 n rfl rfl (by omega) (by omega) (by omega) (by omega) (by omega) (Nat.le_refl _) ?_; intro w1 hown1 hg1)
  have hs : LF w w1 B b zs i (some ⟨w.heap.size, 0, none⟩) 0 n [] :=
    ⟨h.keep hg1.size (fun q hq _ _ => hg1.block q hq (by simp)), hf0.keep (hg1.block b hlt0 (by simp)), hown1, grown_of_below (below_of_grown hg1 (Nat.le_refl _) (fun k e => by cases e)) _, hlt0⟩
  clear hown1 hg1 h hlt0 hf0
  generalize hgA : (some ⟨w.heap.size, 0, none⟩ : Option Addr) = A0 at hs ⊢
  clear hgA
  go_loopw [6] (fun v wr => ∃ (s : FS) (A : Option Addr) (n1 c1 : Nat), v = .slice A n1 c1 ∧ n1 ≤ n ∧ Hid (fAll zs n s = fAll zs n ⟨[], i⟩) ∧ LF w wr B b zs s.at_ A n1 c1 s.fl) (fun v _ => n - slLenP v)
  case atStart => exact ⟨⟨[], i⟩, A0, 0, n, rfl, Nat.zero_le _, Lib.hid rfl, hs⟩
  case round =>
    clear hs
    obtain ⟨s, A, n1, c1, rfl, hn1, HR, hs⟩ := hrel
    have Hsl := Lib.hid hs.own.len
    by_cases hlt : n1 < n
    · have hlt' : s.fl.length < n := by have := Hsl.out; omega
      have HU := Lib.hid (rdqF_u8 hs.rd HB.out (by omega))
      obtain ⟨f0, f1⟩ := n1at_lt HB.out s.at_
      have HN1 : Hid (fOk zs n s = true → fAll zs n (fNext zs s) = fAll zs n ⟨[], i⟩) := fun hk => by rw [← HR.out]; exact (fAll_step hlt' hk).symm
      have HN0 : Hid (fOk zs n s = false → fAll zs n ⟨[], i⟩ = none) := fun hk => by rw [← HR.out]; exact fAll_not hlt' hk
      have HOk : Hid (fOk zs n s = (!fb (n1at zs s.at_) 128 && decide (n1 + 1 + fMore zs s.at_ ≤ n))) := by show _ = _; unfold fOk; rw [Hsl.out]
      have HNf : Hid ((fNext zs s).fl = s.fl ++ List.replicate (fMore zs s.at_ + 1) (n1at zs s.at_)) := rfl
      have HNa : Hid ((fNext zs s).at_ = s.at_ + fSize zs s.at_) := rfl
      have HU2 : Hid (∀ (W : World) , RdQ W B b zs (s.at_ + 1) → Calls Try.prog 106 #[.pointer (some ⟨b, 0, none⟩)] W fun e w' => RetQ W B b (.int .u8 (n1at zs (s.at_ + 1))) zs (s.at_ + 1 + 1) e w' ∧ Fars W w' b) := fun W hW => rdqF_u8 hW HB.out (by omega)
      obtain ⟨g0, g1⟩ := n1at_lt HB.out (s.at_ + 1)
      have hM0 : Hid (fb (n1at zs s.at_) 8 = false → fMore zs s.at_ = 0 ∧ fSize zs s.at_ = 1) := fun h => by unfold fMore fSize; rw [h]; exact ⟨rfl, rfl⟩
      have hM1 : Hid (fb (n1at zs s.at_) 8 = true → fMore zs s.at_ = (n1at zs (s.at_ + 1)).toNat ∧ fSize zs s.at_ = 2) := fun h => by unfold fMore fSize; rw [h]; exact ⟨rfl, rfl⟩
      have e8 := and8 f0 f1
      have e128 := and128 f0 f1
      clear HR hlt'
      generalize n1at zs s.at_ = f at *
      generalize n1at zs (s.at_ + 1) = x at *
      generalize fMore zs s.at_ = M at *
      generalize fSize zs s.at_ = Z at *
      go_wp2_with fail
      refine HU.out.mono ?_
      rintro e w2 ⟨⟨rfl, h2, g2⟩, hf2⟩
      have hs2 := hs.ask h2 g2 hf2
      clear hs h2 g2 hf2 HU
      cases hb8 : fb f 8 with
      | false =>
        obtain ⟨rfl, rfl⟩ := hM0.out hb8
        rw [hb8] at e8
        clear hM0 hM1 HU2 hb8
        by_cases h128 : fb f 128 = true
        · have HNo := Lib.hid (HN0.out (by rw [HOk.out, h128]; rfl))
          rw [h128] at e128
          clear HN1 HN0 HOk h128
          go_wp2
          go_ret2
          exact ⟨hs2.gr, .inl ⟨HNo.out, rfl, _, hs2.rd⟩⟩
        · rw [Bool.not_eq_true] at h128
          rw [h128] at e128
          by_cases hfit : n1 + 1 + 0 ≤ n
          · have hk : fOk zs n s = true := by rw [HOk.out, h128, decide_eq_true hfit]; rfl
            have HNx := Lib.hid (HN1.out hk)
            clear HN1 HN0 HOk h128 hk
            go_wp2
            go_loopw [6, 37] (fun v j wr => ∃ (k : Nat) (A2 : Option Addr) (c2 : Nat), k ≤ 0 + 1 ∧ j = .int .i64 k ∧ v = .slice A2 (n1 + k) c2 ∧ LF w wr B b zs (s.at_ + 1) A2 (n1 + k) c2 (s.fl ++ List.replicate k f)) (fun _ j _ => 0 + 1 - (intOf j).toNat)
            case atStart => exact ⟨0, A, c1, Nat.zero_le _, rfl, rfl, by simpa using hs2⟩
            case round =>
              clear hs2 e8 e128
              obtain ⟨k, A2, c2, hk, rfl, rfl, hs⟩ := hrel
              have hB2 : w.heap.size ≤ wr.heap.size := hs.gr.size
              by_cases hlt2 : k < 0 + 1
              · have HRe : Hid (List.replicate k f ++ [f] = List.replicate (k + 1) f) := by show _ = _; rw [List.replicate_succ']
                go_wp2_with (at_builtin; refine wpList_append_row rfl (.tmp 39) (.tmp 41) _ rfl 5 .u8 w.heap.size i0 1 Try.underlying25 hi hz0 hz1 hz2 A2 (n1 + k) c2 _ rfl (hs.own.alloc _) (some ⟨wr.heap.size, 0, none⟩) 1 1 [f] rfl (row_one _ _ _ _) (by omega) (by omega) (by simp; omega) ?_)
                intro A3 c3 w5 ho5 hg5
                have hs5 := (hs.alloc _).app ho5 hg5
                rw [HRe.out] at hs5
                clear hs ho5 hg5
                go_wp2
                go_roundw
                case rel => exact ⟨k + 1, A3, c3, by omega, by go_num, rfl, hs5⟩
                case measure => simp [intOf]; omega
              · obtain rfl : k = 0 + 1 := by omega
                rw [← HNf.out, ← HNa.out] at hs
                go_wp2
                go_roundw
                case rel => exact ⟨fNext zs s, A2, n1 + (0 + 1), c2, rfl, by omega, HNx, hs⟩
                case measure => simp [slLenP]; omega
          · exact absurd hfit (by omega)
      | true =>
        obtain ⟨hM, rfl⟩ := hM1.out hb8
        rw [hb8] at e8
        have HMx : Hid ((M : Int) = x) := by show _ = _; rw [hM]; omega
        clear hM0 hM1 hb8 hM
        have HU3 := Lib.hid (HU2.out w2 hs2.rd)
        clear HU2
        go_wp2_with fail
        refine HU3.out.mono ?_
        rintro e w3 ⟨⟨rfl, h3, g3⟩, hf3⟩
        have hs3 := hs2.ask h3 g3 hf3
        rw [← HMx.out]
        rw [← HMx.out] at g0 g1
        clear hs2 h3 g3 hf3 HU3 HMx
        by_cases h128 : fb f 128 = true
        · have HNo := Lib.hid (HN0.out (by rw [HOk.out, h128]; rfl))
          rw [h128] at e128
          clear HN1 HN0 HOk h128
          go_wp2
          go_ret2
          exact ⟨hs3.gr, .inl ⟨HNo.out, rfl, _, hs3.rd⟩⟩
        · rw [Bool.not_eq_true] at h128
          rw [h128] at e128
          by_cases hfit : n1 + 1 + M ≤ n
          · have hk : fOk zs n s = true := by rw [HOk.out, h128, decide_eq_true hfit]; rfl
            have HNx := Lib.hid (HN1.out hk)
            clear HN1 HN0 HOk h128 hk
            go_wp2
            go_loopw [6, 37] (fun v j wr => ∃ (k : Nat) (A2 : Option Addr) (c2 : Nat), k ≤ M + 1 ∧ j = .int .i64 k ∧ v = .slice A2 (n1 + k) c2 ∧ LF w wr B b zs (s.at_ + 2) A2 (n1 + k) c2 (s.fl ++ List.replicate k f)) (fun _ j _ => M + 1 - (intOf j).toNat)
            case atStart => exact ⟨0, A, c1, Nat.zero_le _, rfl, rfl, by simpa using hs3⟩
            case round =>
              clear hs3 e8 e128
              obtain ⟨k, A2, c2, hk, rfl, rfl, hs⟩ := hrel
              have hB2 : w.heap.size ≤ wr.heap.size := hs.gr.size
              by_cases hlt2 : k < M + 1
              · have HRe : Hid (List.replicate k f ++ [f] = List.replicate (k + 1) f) := by show _ = _; rw [List.replicate_succ']
                go_wp2_with (at_builtin; refine wpList_append_row rfl (.tmp 39) (.tmp 41) _ rfl 5 .u8 w.heap.size i0 1 Try.underlying25 hi hz0 hz1 hz2 A2 (n1 + k) c2 _ rfl (hs.own.alloc _) (some ⟨wr.heap.size, 0, none⟩) 1 1 [f] rfl (row_one _ _ _ _) (by omega) (by omega) (by simp; omega) ?_)
                intro A3 c3 w5 ho5 hg5
                have hs5 := (hs.alloc _).app ho5 hg5
                rw [HRe.out] at hs5
                clear hs ho5 hg5
                go_wp2
                go_roundw
                case rel => exact ⟨k + 1, A3, c3, by omega, by go_num, rfl, hs5⟩
                case measure => simp [intOf]; omega
              · obtain rfl : k = M + 1 := by omega
                rw [← HNf.out, ← HNa.out] at hs
                go_wp2
                go_roundw
                case rel => exact ⟨fNext zs s, A2, n1 + (M + 1), c2, rfl, by omega, HNx, hs⟩
                case measure => simp [slLenP]; omega
          · have HNo := Lib.hid (HN0.out (by rw [HOk.out, h128, decide_eq_false hfit]; rfl))
            clear HN1 HN0 HOk h128
            go_wp2
            go_ret2
            exact ⟨hs3.gr, .inl ⟨HNo.out, rfl, _, hs3.rd⟩⟩
    · obtain rfl : n1 = n := by omega
      have HR2 : Hid (fAll zs n1 ⟨[], i⟩ = some s) := by show _ = _; rw [← HR.out]; exact fAll_done (by have := Hsl.out; omega)
      go_wp2
      go_ret2
      exact ⟨hs.gr, .inr ⟨s, A, c1, HR2.out, rfl, hs.own, hs.rd⟩⟩

end Go.Proofs.Ytlcnonhebppeiaa
