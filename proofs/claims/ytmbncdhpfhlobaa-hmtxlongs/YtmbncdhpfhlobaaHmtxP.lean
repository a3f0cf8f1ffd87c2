/- What hmtx.Parse and the document's Parse answer, as contracts over this seat's translation. -/
import Derived.Test.YtmbncdhpfhlobaaHmtxMath
import Derived.Test.YtmbncdhpfhlobaaRdQ
import Derived.Lib.MinMax
namespace Go.Proofs.Ytmbncdhpfhlobaa
open Go.RowKit
set_option linter.unusedVariables false

/-- 'make([]T, n)' for structs, n of any kind of numbers. -/
theorem wpList_make_S16 {P : Program} {α : Type} {w : World} {ops : Array Oper} {rest : List Oper} {o : Oper} {a : Act} {Q : Exit → Act → World → Prop} (hg : o.guard = none) (l c : Operand) (T : TypeId) (hop : o.op = Op.makeSlice T l c)
    (t : TypeId) (enc : α → List Value) (k : Nat) (hk : ∀ x, (enc x).length = k) (hk0 : 0 < k) (B : Nat) (i : TypeInfo) (z : Value) (x0 : α) (b : Nat) (h1 : P.underlying T = some (.slice t)) (h2 : P.info? t = some i) (h3 : i.zero = some z) (h4 : i.size = k) (hz : z.cells.toList = enc x0) (h5 : i.bytes = b)
    (L C : Int) (n : Nat) (hl : a.eval l = .int .u16 L) (hc : a.eval c = .int .u16 C) (hL : L = (n : Int)) (hC : C = (n : Int)) (b2 : b * n ≤ 281474976710656) (b3 : n ≤ 9223372036854775807) (b4 : B ≤ w.heap.size)
    (hK : ∀ w', OwnS t enc k w' B (some ⟨w.heap.size, 0, none⟩) n n (List.replicate n x0) → w.grownBy w' none → wpList P ops Q rest (a.put o.dst (.slice (some ⟨w.heap.size, 0, none⟩) n n)) w') : wpList P ops Q (o :: rest) a w := by
  refine wpList_make_full w hg l c T hop B t i z k h1 h2 h3 h4 .u16 .u16 L C n hl hc hL hC (by rw [h5]; exact b2) (by simp only [maxLen]; exact b3) b4 fun w' ho hgr => hK w' ⟨by simp, ?_⟩ hgr
  rw [madeCells_flat hk hk0 _ x0 hz] at ho
  exact ho

/-- A Reader, and a fresh row of metrics beside it. -/
structure MP (w wr : World) (b : Nat) (zs : List Int) (i gp n : Nat) (l : List Mt) : Prop where
  rd : RdQ wr w.heap.size b zs i
  own : OwnS 41 encM 2 wr w.heap.size (some ⟨gp, 0, none⟩) n n l
  ne : gp ≠ b
  bel : Below w.heap.size w wr

section
variable {w wr w' : World} {b : Nat} {zs : List Int} {i j gp n : Nat} {l : List Mt}
theorem MP.ask (h : MP w wr b zs i gp n l) (hr : RdQ w' w.heap.size b zs j) (hg : wr.grownBy w' (some b)) : MP w w' b zs j gp n l :=
  ⟨hr, h.own.grown hg (fun g e => by simp [blockOf] at e; subst e; intro e; cases e; exact h.ne rfl), h.ne, h.bel.grown hg h.bel.size (fun k e => by cases e; exact h.rd.from_)⟩
theorem MP.set (h : MP w wr b zs i gp n l) (k : Nat) (hk : k < n) (m : Mt) : MP w (setCells wr gp (k * 2) (encM m)) b zs i gp n (l.set k m) := by
  have hblk : ∃ cur, wr.heap[gp]? = some (.cells cur 41 (0, 0)) := by
    rcases h.own.shape with ⟨e, _⟩ | ⟨g', cur, e, _, _, hh, _⟩
    · cases e
    · simp only [Option.some.injEq, Addr.mk.injEq, and_true] at e
      subst e
      exact ⟨cur, hh⟩
  obtain ⟨cur, hc⟩ := hblk
  refine ⟨h.rd.keep (by rw [setCells_size]; exact Nat.le_refl _) (fun g hg _ ho => setCells_block (by
      rintro rfl
      rcases ho with e | ⟨cur', hc'⟩
      · exact h.ne e
      · rw [hc] at hc'
        simp at hc') _ _ _), ownS_store encM_len h.own hk m, h.ne, setCells_below (h.own.from_ gp rfl).1 _ _ _ h.bel⟩
end

/-- What reading metrics leaves. -/
def RetMs (t : TypeId) (enc : Mt → List Value) (w : World) (n : Nat) (l : List Mt) (good : Value) (e : Ending) (w' : World) : Prop :=
  ∃ A c, e = .returned (.tuple #[.slice A n c, good]) ∧ OwnS t enc 2 w' w.heap.size A n c l ∧ Below w.heap.size w w'

theorem metAt_lt (zs : List Int) (L k : Nat) (h : k < L) : metAt zs L k = (n2at zs (posM L k), sgn (n2at zs (posM L k + 2))) := by
  unfold metAt posM
  rw [if_pos h, if_pos (by omega), Nat.min_eq_left (by omega)]
theorem metAt_ge (zs : List Int) (L k : Nat) (h : ¬ k < L) : metAt zs L k = (n2at zs (4 * (L - 1)), sgn (n2at zs (posM L k))) := by
  unfold metAt posM
  rw [if_neg h, Nat.min_eq_right (by omega)]
  congr 3
  split <;> omega

/-- The advance that stands behind k rounds. -/
def advK (zs : List Int) (L k : Nat) : Int := if k = 0 then 0 else n2at zs (4 * min (k - 1) (L - 1))
theorem advK_lt (zs : List Int) (L k : Nat) (h : k < L) : advK zs L (k + 1) = n2at zs (posM L k) := by
  unfold advK posM
  rw [if_neg (by omega), if_pos (by omega), Nat.add_sub_cancel, Nat.min_eq_left (by omega)]
theorem advK_ge (zs : List Int) (L k : Nat) (h0 : 0 < L) (h : ¬ k < L) : advK zs L (k + 1) = advK zs L k ∧ advK zs L k = n2at zs (4 * (L - 1)) := by
  unfold advK
  rw [if_neg (by omega), if_neg (by omega), Nat.min_eq_right (by omega), Nat.min_eq_right (by omega)]
  exact ⟨rfl, rfl⟩

set_option maxRecDepth 100000 in
set_option maxHeartbeats 2000000 in
theorem hparse_ok (A : Option Addr) (n c : Nat) (zs : List Int) (L g : Nat) (w : World) (hr : Row w A n (cellsOf .u8 zs)) (hB : Bytes zs) (h0 : 0 < L) (hL : L ≤ g) (hg : g < 65536) (hlen : n = 2 * (L + g)) :
    Calls Try.prog 20 #[.slice A n c, .int .u16 L, .int .u16 g] w (RetMs 41 encM w g (mets zs L g) (.int .i64 0)) := by
  obtain ⟨i0, hi, hz0, hz1, hz2⟩ := info_parts Try.mtinfo
  have Hn := Lib.hid hr.len
  have HB := Lib.hid hB
  clear hB
  subst hlen
  have e0 : ((L : Int) == 0) = false := by simp; omega
  have hne : (2 * ((L : Int) + (g : Int)) != 2 * ((L : Int) + (g : Int))) = false := by simp
  go_enter Try.func20, Try.ntmps20
  go_wp2_with fail
  refine (new_any _ _ _ zs _ hr (by omega)).mono ?_
  rintro e w1 ⟨b, rfl, hrd, hb⟩
  clear hr
  have hlt1 := hrd.lt
  go_wp2_with (at_make; refine wpList_make_S16 rfl (.tmp 30) (.tmp 30) _ rfl 41 encM 2 encM_len (by omega) w.heap.size i0 _ (0, 0) 4 Try.underlying22 hi hz0 hz1 rfl hz2 _ _ g rfl rfl rfl rfl (by omega) (by omega) hb.size ?_; intro w2 hown2 hg2)
  have hs : MP w w2 b zs (posM L 0) w1.heap.size g (mets zs L 0 ++ List.replicate (g - 0) (0, 0)) :=
    ⟨(RdQ.new hrd).keep hg2.size (fun q hq _ _ => hg2.block q hq (by simp)), hown2, by omega, hb.grown hg2 hb.size (fun k e => by cases e)⟩
  clear hown2 hg2 hrd hb
  generalize w1.heap.size = gp at *
  clear e0 hne
  go_loopw [10, 33] (fun a i wr => ∃ k : Nat, k ≤ g ∧ i = .int .u16 k ∧ a = .int .u16 (advK zs L k) ∧ MP w wr b zs (posM L k) gp g (mets zs L k ++ List.replicate (g - k) (0, 0))) (fun _ i _ => g - (intOf i).toNat)
  case atStart => exact ⟨0, Nat.zero_le _, rfl, rfl, hs⟩
  case round =>
    clear hs hlt1
    obtain ⟨k, hk, rfl, rfl, hs⟩ := hrel
    by_cases hlt : k < g
    · by_cases hkL : k < L
      · have HM := Lib.hid (metAt_lt zs L k hkL)
        have HA := Lib.hid (advK_lt zs L k hkL)
        have HS : Hid (posM L (k + 1) = posM L k + 2 + 2) := by rw [posM_succ, if_pos hkL]; exact rfl
        obtain ⟨a0, a1⟩ := n2at_lt HB.out (posM L k)
        obtain ⟨b0, b1⟩ := n2at_lt HB.out (posM L k + 2)
        go_wp2_with fail
        refine (rdq_u16 hs.rd HB.out (by have := Hn.out; omega)).mono ?_
        rintro e w3 ⟨rfl, hr3, hg3⟩
        have hs3 := hs.ask hr3 hg3
        clear hs hr3 hg3
        go_wp2_with fail
        refine (rdq_i16 hs3.rd HB.out (by have := Hn.out; omega)).mono ?_
        rintro e w4 ⟨rfl, hr4, hg4⟩
        have hs4 := hs3.ask hr4 hg4
        rw [← HS.out] at hs4
        clear hs3 hr4 hg4
        have hs5 := hs4.set k hlt (metAt zs L k)
        rw [mets_set zs L g k hlt, HM.out] at hs5
        have H5 := Lib.hid hs5
        obtain ⟨z, hz⟩ : ∃ z, (mets zs L k ++ List.replicate (g - k) (0, 0))[k]? = some z := ⟨_, List.getElem?_eq_getElem (by simp [mets_len]; omega)⟩
        obtain ⟨gg, off, e', _, c0, c1⟩ := atM (hs4.own.row encM_len) hz
        simp only [Option.some.injEq, Addr.mk.injEq, and_true] at e'
        obtain ⟨rfl, rfl⟩ := e'
        rw [Nat.zero_add] at c0 c1
        have f0 := hs4.own.thaw
        clear hs5 hz hs4
        generalize sgn (n2at zs (posM L k + 2)) = lf at *
        generalize n2at zs (posM L k) = av at *
        go_wp2
        go_roundw
        case rel => exact ⟨k + 1, by omega, by go_num, by rw [HA.out], H5.out⟩
        case measure => simp [intOf]; omega
      · have HM := Lib.hid (metAt_ge zs L k hkL)
        obtain ⟨hA, hA'⟩ := advK_ge zs L k h0 hkL
        have HA := Lib.hid hA
        have HA' := Lib.hid hA'
        clear hA hA'
        have HS : Hid (posM L (k + 1) = posM L k + 2) := by rw [posM_succ, if_neg hkL]; exact rfl
        obtain ⟨b0, b1⟩ := n2at_lt HB.out (posM L k)
        go_wp2_with fail
        refine (rdq_i16 hs.rd HB.out (by have := Hn.out; omega)).mono ?_
        rintro e w4 ⟨rfl, hr4, hg4⟩
        have hs4 := hs.ask hr4 hg4
        rw [← HS.out] at hs4
        clear hs hr4 hg4
        have hs5 := hs4.set k hlt (metAt zs L k)
        rw [mets_set zs L g k hlt, HM.out, ← HA'.out] at hs5
        have H5 := Lib.hid hs5
        obtain ⟨z, hz⟩ : ∃ z, (mets zs L k ++ List.replicate (g - k) (0, 0))[k]? = some z := ⟨_, List.getElem?_eq_getElem (by simp [mets_len]; omega)⟩
        obtain ⟨gg, off, e', _, c0, c1⟩ := atM (hs4.own.row encM_len) hz
        simp only [Option.some.injEq, Addr.mk.injEq, and_true] at e'
        obtain ⟨rfl, rfl⟩ := e'
        rw [Nat.zero_add] at c0 c1
        have f0 := hs4.own.thaw
        clear hs5 hz hs4
        generalize sgn (n2at zs (posM L k)) = lf at *
        go_wp2
        go_roundw
        case rel => exact ⟨k + 1, by omega, by go_num, by rw [HA.out], H5.out⟩
        case measure => simp [intOf]; omega
    · obtain rfl : k = g := by omega
      go_wp2
      go_ret2
      refine ⟨_, _, rfl, ?_, hs.bel⟩
      have := hs.own
      rw [Nat.sub_self, List.replicate_zero, List.append_nil] at this
      exact this

theorem hparse_arg (A : Option Addr) (n c : Nat) (L g : Nat) (w : World) (h : L = 0 ∨ g < L) :
    Calls Try.prog 20 #[.slice A n c, .int .u16 L, .int .u16 g] w fun e w' => e = .returned (.tuple #[.slice none 0 0, .int .i64 1]) ∧ w = w' := by
  by_cases h1 : L = 0
  · subst h1
    go_enter Try.func20, Try.ntmps20
    go_wp2
    go_ret2
    exact ⟨rfl, rfl⟩
  · have e0 : ((L : Int) == 0) = false := by simp; omega
    have h2 : g < L := by omega
    clear h h1
    go_enter Try.func20, Try.ntmps20
    go_wp2
    go_ret2
    exact ⟨rfl, rfl⟩

theorem hparse_form (A : Option Addr) (n c : Nat) (L g : Nat) (w : World) (h0 : 0 < L) (hL : L ≤ g) (hg : g < 65536) (hn : n ≤ 140737488351232) (hlen : n ≠ 2 * (L + g)) :
    Calls Try.prog 20 #[.slice A n c, .int .u16 L, .int .u16 g] w fun e w' => e = .returned (.tuple #[.slice none 0 0, .int .i64 2]) ∧ w = w' := by
  have e0 : ((L : Int) == 0) = false := by simp; omega
  have hne : ((n : Int) != 2 * ((L : Int) + (g : Int))) = true := by rw [bne_iff_ne]; omega
  clear hlen
  go_enter Try.func20, Try.ntmps20
  go_wp2
  go_ret2
  exact ⟨rfl, rfl⟩

end Go.Proofs.Ytmbncdhpfhlobaa
