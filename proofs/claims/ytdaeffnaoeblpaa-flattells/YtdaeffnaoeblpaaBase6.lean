/- What the laws of this seat lean on: SimP RdF SimQ SimR SimB SimS. -/
import Derived.Laws.Rows
import Derived.Laws.Tables
import Derived.Test.YtdaeffnaoeblpaaBase3
import Derived.Test.YtdaeffnaoeblpaaBase5

/- simple: readChange, readPlaces, readFlags, as contracts over this seat's translation. -/
namespace Go.Proofs.Ytdaeffnaoeblpaa
open Go.RowKit
set_option linter.unusedVariables false

section
variable {w w' : World} {B b : Nat} {zs : List Int} {i : Nat}
theorem rdq_u8 (h : RdQ w B b zs i) (hB : Bytes zs) (hl : zs.length ≤ 140737488351232) : Calls Try.prog 188 #[.pointer (some ⟨b, 0, none⟩)] w (RetQ w B b (.int .u8 (n1at zs i)) zs (i + 1)) := by
  rcases h with ⟨hi, h⟩ | ⟨hi, a, a0, a1, h⟩
  · exact (u8_any B b _ _ _ w h (drop_bytes hB _) (by rw [List.length_drop]; omega) (by omega) (by omega)).mono fun e w' ⟨he, hr, hg⟩ => ⟨he, rdq_good hi hr, hg⟩
  · refine (u8_any B b _ _ _ w h (fun x hx => by cases hx) (by simp) a0 (by omega)).mono fun e w' ⟨he, hr, hg⟩ => ⟨?_, rdq_bad (by omega) hi a0 a1 hr, hg⟩
    unfold n1at
    rw [drop_past hi]
    exact he
theorem rdq_takeAny (h : RdQ w B b zs i) (hl : zs.length ≤ 140737488351232) (m : Nat) : Calls Try.prog 138 #[.pointer (some ⟨b, 0, none⟩), .int .i64 m] w (RetQT w B b (told (zs.drop i) m) zs (i + m)) := by
  rcases Nat.eq_zero_or_pos m with h0 | h0
  · subst h0
    rcases h with ⟨hi, h⟩ | ⟨hi, a, a0, a1, h⟩
    · exact (take_any B b _ _ _ w h (by rw [List.length_drop]; omega) (by omega) (by omega) 0).mono fun e w' ⟨A, n, c, he, h1, h2, hr, hg⟩ => ⟨A, n, c, he, h1, h2, rdq_good hi hr, hg⟩
    · refine (take_any B b _ _ _ w h (by simp) a0 (by omega) 0).mono fun e w' ⟨A, n, c, he, h1, h2, hr, hg⟩ => ⟨A, n, c, he, ?_, h2, .inr ⟨by omega, a, a0, a1, ?_⟩, hg⟩
      · rw [drop_past hi]
        exact h1
      · have e1 : rest [] 0 = [] := rfl
        have e2 : gone [] a 0 = a := by simp [gone]
        have e3 : badn [] true 0 = true := rfl
        rw [e1, e2, e3] at hr
        exact hr
  · exact rdq_take h hl m h0
theorem rdq_at (h : RdQ w B b zs i) (hi : i ≤ zs.length) : Calls Try.prog 156 #[.pointer (some ⟨b, 0, none⟩)] w fun e w' => e = .returned (.int .i64 i) ∧ w = w' := by
  rcases h with ⟨_, h⟩ | ⟨h, _⟩
  · exact at_any B b _ _ _ w h
  · omega
end

def cwB (s p : Bool) : Nat := if s then 1 else if p then 0 else 2
def cvB (zs : List Int) (s p : Bool) (i : Nat) : Int := if s then (if p then n1at zs i else - n1at zs i) else if p then 0 else sgn (n2at zs i)
theorem cvB_eq (zs : List Int) (sh pl f : Int) (i : Nat) : cvB zs (fb f sh) (fb f pl) i = cv zs sh pl f i := rfl
theorem cwB_eq (sh pl f : Int) : cwB (fb f sh) (fb f pl) = cw sh pl f := rfl
theorem sgn_bd {n : Int} (h0 : 0 ≤ n) (h1 : n < 65536) : -32768 ≤ sgn n ∧ sgn n ≤ 32767 := by unfold sgn; split <;> omega
theorem cv_bd {zs : List Int} (hB : Bytes zs) (sh pl f : Int) (i : Nat) : -32768 ≤ cv zs sh pl f i ∧ cv zs sh pl f i ≤ 32767 := by
  have h1 := n1at_lt hB i
  have h2 := n2at_lt hB i
  have h3 := sgn_bd h2.1 h2.2
  unfold cv
  split
  · split <;> omega
  · split <;> omega

theorem orchange_any (s p : Bool) {w : World} {B b : Nat} {zs : List Int} {i : Nat} (h : RdQ w B b zs i) (hB : Bytes zs) (hl : zs.length ≤ 140737488351232) :
    Calls Try.prog 192 #[.pointer (some ⟨b, 0, none⟩), .bool s, .bool p] w (RetQ w B b (.int .i64 (cvB zs s p i)) zs (i + cwB s p)) := by
  have H1 := Lib.hid (rdq_u8 h hB hl)
  have H2 := Lib.hid (rdq_i16 h hB hl)
  have h1 := n1at_lt hB i
  have h2 := n2at_lt hB i
  have h3 := sgn_bd h2.1 h2.2
  have H0 : Hid (RetQ w B b (.int .i64 0) zs (i + 0) (.returned (.int .i64 0)) w) := ⟨rfl, h, World.grownBy.refl w _⟩
  obtain ⟨h10, h11⟩ := h1
  obtain ⟨h30, h31⟩ := h3
  clear h hB h2
  cases s <;> cases p
  · show Calls _ _ _ _ (RetQ w B b (.int .i64 (sgn (n2at zs i))) zs (i + 2))
    go_enter Try.func192, Try.ntmps192
    go_wp2_with fail
    refine H2.out.mono ?_
    rintro e w1 ⟨rfl, h5, h6⟩
    go_wp2
    go_ret
    exact ⟨rfl, h5, h6⟩
  · show Calls _ _ _ _ (RetQ w B b (.int .i64 0) zs (i + 0))
    go_enter Try.func192, Try.ntmps192
    go_wp2
    go_ret
    exact H0.out
  · show Calls _ _ _ _ (RetQ w B b (.int .i64 (- n1at zs i)) zs (i + 1))
    go_enter Try.func192, Try.ntmps192
    go_wp2_with fail
    refine H1.out.mono ?_
    rintro e w1 ⟨rfl, h5, h6⟩
    go_wp2
    go_ret
    exact ⟨rfl, h5, h6⟩
  · show Calls _ _ _ _ (RetQ w B b (.int .i64 (n1at zs i)) zs (i + 1))
    go_enter Try.func192, Try.ntmps192
    go_wp2_with fail
    refine H1.out.mono ?_
    rintro e w1 ⟨rfl, h5, h6⟩
    go_wp2
    go_ret
    exact ⟨rfl, h5, h6⟩

/-- A Reader, and a fresh row of numbers beside it. -/
structure LK (t : TypeId) (k : IntKind) (w wr : World) (B b : Nat) (zs : List Int) (i gp n : Nat) (xs : List Int) : Prop where
  rd : RdQ wr B b zs i
  own : Own t k wr w.heap.size (some ⟨gp, 0, none⟩) n n xs
  ne : gp ≠ b
  gr : w.grownBy wr (some b)
section
variable {t : TypeId} {k : IntKind} {w wr w' : World} {B b : Nat} {zs : List Int} {i j gp n : Nat} {xs : List Int}
theorem LK.ask (h : LK t k w wr B b zs i gp n xs) (hr : RdQ w' B b zs j) (hg : wr.grownBy w' (some b)) : LK t k w w' B b zs j gp n xs :=
  ⟨hr, h.own.grown hg (fun g e => by simp [blockOf] at e; subst e; intro e; cases e; exact h.ne rfl), h.ne, grown_trans h.gr hg⟩
theorem LK.set (h : LK t k w wr B b zs i gp n xs) (ht : t ≠ 5) (q : Nat) (x : Int) : LK t k w (wr.setCell ⟨gp, q, none⟩ (.int k x)) B b zs i gp n (xs.set q x) := by
  obtain ⟨cur, hc⟩ := h.own.block
  exact ⟨rdq_other h.rd hc ht h.ne q _, h.own.set q x, h.ne, grown_new (h.own.from_ gp rfl).1 q _ h.gr⟩
end

theorem Try.i16info : (Try.prog.info? 36).map (fun i => (i.zero, i.size, i.bytes)) = some (some (.int .i16 0), 1, 2) := by kernel_rfl

/-- What telling places leaves. -/
def RetPk (w : World) (B b : Nat) (zs : List Int) (sh pl : Int) (fl : List Int) (i n : Nat) (e : Ending) (w' : World) : Prop :=
  w.grownBy w' (some b) ∧ ((pkOk zs sh pl fl i n = false ∧ e = .returned (.tuple #[.slice none 0 0, .bool false]) ∧ ∃ j, RdQ w' B b zs j)
    ∨ (pkOk zs sh pl fl i n = true ∧ ∃ gp, e = .returned (.tuple #[.slice (some ⟨gp, 0, none⟩) n n, .bool true]) ∧ Own 36 .i16 w' w.heap.size (some ⟨gp, 0, none⟩) n n (pkVs zs sh pl fl i n) ∧ RdQ w' B b zs (pkAt zs sh pl fl i n).1))

set_option maxRecDepth 100000 in
set_option maxHeartbeats 2000000 in
theorem oplaces_any (sh pl : Int) (hsh : ∀ f, 0 ≤ f → f ≤ 255 → (bits .and .u8 f sh != 0) = fb f sh) (hpl : ∀ f, 0 ≤ f → f ≤ 255 → (bits .and .u8 f pl != 0) = fb f pl)
    (A : Option Addr) (n c : Nat) (fl : List Int) {w : World} {B b : Nat} {zs : List Int} {i : Nat} (h : RdQ w B b zs i) (hB : Bytes zs) (hl : zs.length ≤ 1000000) (hr : Row w A n (cellsOf .u8 fl)) (hfl : Bytes fl) (hn : n ≤ 1000000) (hA : 0 < n → blockOf A ≠ some b) :
    Calls Try.prog 190 #[.pointer (some ⟨b, 0, none⟩), .slice A n c, .int .u8 sh, .int .u8 pl] w (RetPk w B b zs sh pl fl i n) := by
  obtain ⟨i0, hi, hz0, hz1, hz2⟩ := info_parts Try.i16info
  have Hl := Lib.hid hr.len
  have HA := Lib.hid hA
  have Hr := Lib.hid hr
  have HB := Lib.hid hB
  have HFl := Lib.hid hfl
  have Hsh := Lib.hid hsh
  have Hpl := Lib.hid hpl
  have hlt0 := h.lt
  clear hA hr hB hfl hsh hpl
  go_enter Try.func190, Try.ntmps190
  go_wp2_with (at_make; refine wpList_make_ints rfl (.tmp 15) (.tmp 15) _ rfl 36 .i16 w.heap.size i0 2 Try.underlying255 hi hz0 hz1 hz2 _ _ n n rfl rfl (by omega) (by omega) (Nat.le_refl _) (by omega) (by omega) (Nat.le_refl _) ?_; intro w1 hown1 hg1)
  have hs : LK 36 .i16 w w1 B b zs (pkAt zs sh pl fl i 0).1 w.heap.size n (pkVs zs sh pl fl i 0 ++ List.replicate (n - 0) 0) :=
    ⟨h.keep hg1.size (fun q hq _ _ => hg1.block q hq (by simp)), hown1, by omega, grown_of_below (below_of_grown hg1 (Nat.le_refl _) (fun k e => by cases e)) _⟩
  clear hown1 hg1 h hi hz0 hz1 hz2
  generalize w.heap.size = gp at hs ⊢
  go_loopw [11, 19] (fun a i' wr => ∃ k : Nat, k ≤ n ∧ i' = .int .i64 k ∧ a = .int .i64 (pkAt zs sh pl fl i k).2 ∧ Hid (pkOk zs sh pl fl i k = true) ∧ LK 36 .i16 w wr B b zs (pkAt zs sh pl fl i k).1 gp n (pkVs zs sh pl fl i k ++ List.replicate (n - k) 0)) (fun _ i' _ => n - (intOf i').toNat)
  case atStart => exact ⟨0, Nat.zero_le _, rfl, rfl, Lib.hid rfl, hs⟩
  case round =>
    clear hs
    obtain ⟨k, hk, rfl, rfl, hok, hs⟩ := hrel
    obtain ⟨p0, p1⟩ := pkOk_at hok.out (Nat.le_refl _)
    by_cases hlt : k < n
    · obtain ⟨f, hf⟩ := get_some (zs := fl) (k := k) (by have := Hl.out; omega)
      obtain ⟨f0, f1⟩ := HFl.out f (List.mem_of_getElem? hf)
      have hfd : fl.getD k 0 = f := by simp [hf]
      have hrow : Row wr A n (cellsOf .u8 fl) := Hr.out.ask hs.gr HA.out
      obtain ⟨g, off, rfl, hg, hc⟩ := hrow.at (cellsOf_get (k := .u8) hf)
      have e1 := Hsh.out f f0 f1
      have e2 := Hpl.out f f0 f1
      have hS1 : (pkAt zs sh pl fl i (k + 1)).1 = (pkAt zs sh pl fl i k).1 + cwB (fb f sh) (fb f pl) := by show _ + cw sh pl (fl.getD k 0) = _; rw [hfd]; rfl
      have hS2 : (pkAt zs sh pl fl i (k + 1)).2 = (pkAt zs sh pl fl i k).2 + cvB zs (fb f sh) (fb f pl) (pkAt zs sh pl fl i k).1 := by show _ + cv zs sh pl (fl.getD k 0) _ = _; rw [hfd]; rfl
      obtain ⟨d0, d1⟩ := cv_bd HB.out sh pl f (pkAt zs sh pl fl i k).1
      rw [← cvB_eq] at d0 d1
      have HC := Lib.hid (orchange_any (fb f sh) (fb f pl) hs.rd HB.out (by omega))
      have HOs := Lib.hid (pkOk_succ zs sh pl fl i k)
      have HON : Hid (fitsB (pkAt zs sh pl fl i (k + 1)).2 = false → pkOk zs sh pl fl i n = false) := fun hh => pkOk_not hh hlt
      have HST := Lib.hid (pkVs_set zs sh pl fl i k n hlt)
      rw [← hS1] at HC
      rw [hS2] at HOs HON HST
      have HS2 := Lib.hid hS2
      clear hf hfd hrow hS1 hS2
      generalize fb f sh = s at *
      generalize fb f pl = p at *
      generalize (pkAt zs sh pl fl i k).2 = a at *
      generalize cvB zs s p (pkAt zs sh pl fl i k).1 = d at *
      go_wp2_with fail
      with_reducible refine HC.out.mono ?_
      rintro e w2 ⟨rfl, h2, g2⟩
      have hs2 := hs.ask h2 g2
      clear hs h2 g2 HC hc e1 e2
      have HF := Lib.hid (ofits_any (a + d) w2)
      go_wp2_with fail
      with_reducible refine HF.out.mono ?_
      rintro e w3 ⟨rfl, rfl⟩
      cases hfb : fitsB (a + d) with
      | false =>
        have HN := Lib.hid (HON.out hfb)
        clear HOs HON HST HF hfb
        go_wp2
        go_ret2
        exact ⟨hs2.gr, .inl ⟨HN.out, rfl, _, hs2.rd⟩⟩
      | true =>
        obtain ⟨q0, q1⟩ := fitsB_true hfb
        have HT : Hid (pkOk zs sh pl fl i (k + 1) = true) := by show _ = _; rw [HOs.out, hok.out, hfb]; rfl
        have hs4 := hs2.set (by decide) k (a + d)
        rw [HST.out] at hs4
        have H4 := Lib.hid hs4
        obtain ⟨z, hz⟩ : ∃ z, (pkVs zs sh pl fl i k ++ List.replicate (n - k) 0)[k]? = some z := ⟨_, List.getElem?_eq_getElem (by simp [pkVs_len]; omega)⟩
        obtain ⟨gg, off', e', _, hc⟩ := hs2.own.row.at (cellsOf_get (k := .i16) hz)
        simp only [Option.some.injEq, Addr.mk.injEq, and_true] at e'
        obtain ⟨rfl, rfl⟩ := e'
        have fz := hs2.own.thaw k
        rw [Nat.zero_add] at hc
        clear HOs HON HST HF hfb hs4 hs2 hz
        go_wp2
        go_roundw
        case rel => exact ⟨k + 1, by omega, by go_num, by rw [HS2.out], HT, H4.out⟩
        case measure => simp [intOf]; omega
    · obtain rfl : k = n := by omega
      have ho := hs.own
      rw [Nat.sub_self, List.replicate_zero, List.append_nil] at ho
      go_wp2
      go_ret2
      exact ⟨hs.gr, .inr ⟨hok.out, gp, rfl, ho, hs.rd⟩⟩

end Go.Proofs.Ytdaeffnaoeblpaa

/- A Reader whose bytes lie ahead of a block: asking it for a byte keeps them there. -/
namespace Go.Proofs.Ytdaeffnaoeblpaa
open Go.RowKit
set_option linter.unusedVariables false

/-- A Reader's bytes lie ahead of block U. -/
def Far (w : World) (b U : Nat) : Prop := ∀ A n c v1 v2, w.heap[b]? = some (.cells #[.slice A n c, v1, v2] 235 (0, 0)) → ∀ g, blockOf A = some g → g < U
def Fars (w w' : World) (b : Nat) : Prop := ∀ U, Far w b U → Far w' b U
theorem far_of {w w' : World} {b n c n' c' : Nat} {A A' : Option Addr} {v1 v2 v1' v2' : Value} (hb : w.heap[b]? = some (.cells #[.slice A n c, v1, v2] 235 (0, 0))) (hb' : w'.heap[b]? = some (.cells #[.slice A' n' c', v1', v2'] 235 (0, 0))) (hA : ∀ g, blockOf A' = some g → blockOf A = some g) : Fars w w' b := by
  intro U h A2 n2 c2 u1 u2 h2 g hg
  rw [hb'] at h2
  simp only [Option.some.injEq, Obj.cells.injEq, Array.mk.injEq, List.cons.injEq, Value.slice.injEq, and_true] at h2
  obtain ⟨⟨⟨rfl, _⟩, _⟩, _⟩ := h2
  exact h A n c v1 v2 hb g (hA g hg)
theorem Far.keep {w w' : World} {b U : Nat} (h : Far w b U) (hk : w'.heap[b]? = w.heap[b]?) : Far w' b U := fun A n c v1 v2 hh => h A n c v1 v2 (by rw [← hk]; exact hh)
theorem far_size {w : World} {B b : Nat} {zs : List Int} {a : Int} {bad : Bool} (h : Rd w B b zs a bad) : Far w b w.heap.size := by
  obtain ⟨A, n, c, hb, h1, h2, h3, h4⟩ := h
  intro A2 n2 c2 u1 u2 hh g hg
  rw [hb] at hh
  simp only [Option.some.injEq, Obj.cells.injEq, Array.mk.injEq, List.cons.injEq, Value.slice.injEq, and_true] at hh
  obtain ⟨⟨⟨rfl, _⟩, _⟩, _⟩ := hh
  obtain ⟨_, cur, hc⟩ := h4 g hg
  exact lt_of_block hc
theorem farQ_size {w : World} {B b i : Nat} {zs : List Int} (h : RdQ w B b zs i) : Far w b w.heap.size := by
  rcases h with ⟨_, h⟩ | ⟨_, a, _, _, h⟩ <;> exact far_size h
theorem Rd.keepF {w w' : World} {B b U : Nat} {zs : List Int} {a : Int} {bad : Bool} (h : Rd w B b zs a bad) (hf : Far w b U) (hs : w.heap.size ≤ w'.heap.size)
    (hk : ∀ g, g < w.heap.size → (g = b ∨ g < U) → w'.heap[g]? = w.heap[g]?) : Rd w' B b zs a bad := by
  obtain ⟨A, n, c, hb, h1, h2, h3, h4⟩ := h
  have hA := hf A n c _ _ hb
  refine ⟨A, n, c, by rw [hk b (lt_of_block hb) (.inl rfl)]; exact hb, h1, h2.keep hs (fun g e hg => hk g hg (.inr (hA g e))), h3, fun g e => ⟨(h4 g e).1, ?_⟩⟩
  obtain ⟨cur, hc⟩ := (h4 g e).2
  exact ⟨cur, by rw [hk g (lt_of_block hc) (.inr (hA g e))]; exact hc⟩
theorem RdQ.keepF {w w' : World} {B b U i : Nat} {zs : List Int} (h : RdQ w B b zs i) (hf : Far w b U) (hs : w.heap.size ≤ w'.heap.size)
    (hk : ∀ g, g < w.heap.size → (g = b ∨ g < U) → w'.heap[g]? = w.heap[g]?) : RdQ w' B b zs i := by
  rcases h with ⟨hi, h⟩ | ⟨hi, a, a0, a1, h⟩
  · exact .inl ⟨hi, h.keepF hf hs hk⟩
  · exact .inr ⟨hi, a, a0, a1, h.keepF hf hs hk⟩

set_option maxHeartbeats 400000 in
theorem nextF_ok (B b m : Nat) (zs : List Int) (a : Int) (bad : Bool) (w : World) (h : Rd w B b zs a bad) (hm : m ≤ zs.length) (hl : zs.length ≤ 140737488351232) (ha0 : 0 ≤ a) (ha1 : a ≤ 1000000000000000) :
    Calls Try.prog 175 #[.pointer (some ⟨b, 0, none⟩), .int .i64 m] w fun e w' => RetNext w B b (zs.take m) (zs.drop m) (a + m) bad e w' ∧ Fars w w' b := by
  obtain ⟨A, n, c, hb, h1, h2, h3, h4⟩ := h
  have Hn := Lib.hid h2.len
  have hmn : m ≤ n := by have := Hn.out; omega
  have hnl : n ≤ 140737488351232 := by have := Hn.out; omega
  have c0 : w.cell? ⟨b, 0, none⟩ = some (.slice A n c) := cell_of_row w b 0 _ 235 (0, 0) hb
  have c1 : w.cell? ⟨b, 1, none⟩ = some (.int .i64 a) := cell_of_row w b 1 _ 235 (0, 0) hb
  have f0 : ∀ o, w.frozen? ⟨b, o, none⟩ = false := fun o => by simp [World.frozen?, hb]
  have Hb := Lib.hid hb
  have H4 := Lib.hid h4
  clear hb hm hl h4
  go_enter Try.func175, Try.ntmps175
  go_wp2
  all_goals go_ret
  · have h : c = m := by assumption
    exact ⟨rd_next Hb.out h1 H4.out (grown_set (grown_set (World.grownBy.refl w _) _ _) _ _) (set_block (set_block Hb.out 0 _) 1 _) (fun g e => e) (by rw [← cellsOf_take]; exact h2.take hmn)
      (by rw [List.drop_of_length_le (by have := Hn.out; omega), show n - m = 0 by omega]; exact Row.empty _ _) (by omega), far_of Hb.out (set_block (set_block Hb.out 0 _) 1 _) (fun g e => e)⟩
  · exact ⟨rd_next Hb.out h1 H4.out (grown_set (grown_set (World.grownBy.refl w _) _ _) _ _) (set_block (set_block Hb.out 0 _) 1 _) (fun g e => by rw [← blockOf_add A m]; exact e) (by rw [← cellsOf_take]; exact h2.take hmn)
      (by rw [← cellsOf_drop]; exact h2.drop m) (by omega), far_of Hb.out (set_block (set_block Hb.out 0 _) 1 _) (fun g e => by rw [← blockOf_add A m]; exact e)⟩

set_option maxHeartbeats 400000 in
theorem nextF_bad (B b : Nat) (m : Int) (zs : List Int) (a : Int) (bad : Bool) (w : World) (h : Rd w B b zs a bad) (hm : m < 0 ∨ (zs.length : Int) < m) :
    Calls Try.prog 175 #[.pointer (some ⟨b, 0, none⟩), .int .i64 m] w fun e w' => RetNext w B b [] [] a true e w' ∧ Fars w w' b := by
  obtain ⟨A, n, c, hb, h1, h2, h3, h4⟩ := h
  have Hn := Lib.hid h2.len
  have c0 : w.cell? ⟨b, 0, none⟩ = some (.slice A n c) := cell_of_row w b 0 _ 235 (0, 0) hb
  have c1 : w.cell? ⟨b, 1, none⟩ = some (.int .i64 a) := cell_of_row w b 1 _ 235 (0, 0) hb
  have c2 : w.cell? ⟨b, 2, none⟩ = some (.bool bad) := cell_of_row w b 2 _ 235 (0, 0) hb
  have f0 : ∀ o, w.frozen? ⟨b, o, none⟩ = false := fun o => by simp [World.frozen?, hb]
  have hm' : m < 0 ∨ (n : Int) < m := by have := Hn.out; omega
  have Hb := Lib.hid hb
  clear hb hm h4
  have fin : RetNext w B b [] [] a true (.returned (.slice none 0 0)) ((w.setCell ⟨b, 0, none⟩ (.slice none 0 0)).setCell ⟨b, 2, none⟩ (.bool true)) ∧ Fars w ((w.setCell ⟨b, 0, none⟩ (.slice none 0 0)).setCell ⟨b, 2, none⟩ (.bool true)) b :=
    ⟨⟨none, 0, 0, rfl, Row.empty _ _, fun g e => by simp [blockOf] at e, ⟨none, 0, 0, set_block (set_block Hb.out 0 _) 2 _, h1, Row.empty _ _, Nat.le_refl _, fun g e => by simp [blockOf] at e⟩, grown_set (grown_set (World.grownBy.refl w _) _ _) _ _⟩,
      far_of Hb.out (set_block (set_block Hb.out 0 (.slice none 0 0)) 2 (.bool true)) (fun g e => by simp [blockOf] at e)⟩
  have Fin := Lib.hid fin
  clear fin
  by_cases h0 : m < 0
  · go_enter Try.func175, Try.ntmps175
    go_wp2
    go_ret
    exact Fin.out
  · have h5 : (n : Int) < m := by omega
    clear hm'
    go_enter Try.func175, Try.ntmps175
    go_wp2
    go_ret
    exact Fin.out

set_option maxHeartbeats 400000 in
theorem numberF_ok (B b m : Nat) (zs : List Int) (a : Int) (bad : Bool) (w : World) (h : Rd w B b zs a bad) (hB : Bytes zs) (hm : m ≤ zs.length) (hm4 : m ≤ 4) (hl : zs.length ≤ 140737488351232) (ha0 : 0 ≤ a) (ha1 : a ≤ 1000000000000000) :
    Calls Try.prog 174 #[.pointer (some ⟨b, 0, none⟩), .int .i64 m] w fun e w' => RetNum w B b (.int .u32 (be (zs.take m))) (zs.drop m) (a + m) bad e w' ∧ Fars w w' b := by
  go_enter Try.func174, Try.ntmps174
  go_wp2_with fail
  refine (nextF_ok B b m zs a bad w h hm hl ha0 ha1).mono ?_
  rintro e w1 ⟨⟨A, n, c, rfl, hrow, hblk, hrd, hg⟩, hfar⟩
  have Hfar := Lib.hid hfar
  have Hn : Hid (n = m) := by have := hrow.len; rw [List.length_take] at this; exact (by omega : n = m)
  have hn4 : n ≤ 4 := by have := Hn.out; omega
  have HB : Hid (Bytes (zs.take m)) := fun x hx => hB x (List.mem_of_mem_take hx)
  clear hm hl hB hblk h hfar
  generalize hys : zs.take m = ys at *
  have Hys := Lib.hid hys
  clear hys
  have Hlen := Lib.hid hrow.len
  go_wp2
  go_loop [5, 12] (fun v i => ∃ k : Nat, k ≤ n ∧ i = .int .i64 k ∧ v = .int .u32 (be (ys.take k))) (fun _ i => n - (intOf i).toNat)
  case atStart => exact ⟨0, Nat.zero_le _, rfl, rfl⟩
  case round =>
    obtain ⟨k, hk, rfl, rfl⟩ := hrel
    by_cases hlt : k < n
    · obtain ⟨x, ex⟩ := get_some (zs := ys) (k := k) (by have := Hlen.out; omega)
      obtain ⟨g, off, rfl, hg', hc⟩ := hrow.at (cellsOf_get (k := .u8) ex)
      have hx := HB.out x (List.mem_of_getElem? ex)
      obtain ⟨x0, x1⟩ := hx
      have HS : Hid (be (ys.take (k + 1)) = be (ys.take k) * 256 + x) := by rw [List.take_add_one, ex]; exact be_snoc _ _
      have hb := be_le (ys.take k) (fun y hy => HB.out y (List.mem_of_mem_take hy))
      have hv1 : be (ys.take k) < 16777216 := by
        refine Int.lt_of_lt_of_le hb.2 ?_
        have : (ys.take k).length ≤ 3 := by rw [List.length_take]; omega
        rcases h3 : (ys.take k).length with _ | _ | _ | _ | q <;> simp_all <;> omega
      have hv0 := hb.1
      clear ex hb
      have HO : Hid (bits .or .u32 (be (ys.take k) * 256) x = be (ys.take (k + 1))) := by rw [HS.out]; exact or_byte _ _ hv0 hv1 x0 x1
      go_wp2
      go_round
      case rel => exact ⟨k + 1, by omega, by go_num, by rw [HO.out]⟩
      case measure => simp [intOf]; omega
    · have HE : Hid (ys.take k = ys) := List.take_of_length_le (by have := Hlen.out; omega)
      go_wp2
      go_ret
      refine ⟨⟨?_, hrd, hg⟩, Hfar.out⟩
      rw [Hys.out, HE.out]
      rfl

set_option maxHeartbeats 400000 in
theorem numberF_bad (B b : Nat) (m : Int) (zs : List Int) (a : Int) (bad : Bool) (w : World) (h : Rd w B b zs a bad) (hm : m < 0 ∨ (zs.length : Int) < m) :
    Calls Try.prog 174 #[.pointer (some ⟨b, 0, none⟩), .int .i64 m] w fun e w' => RetNum w B b (.int .u32 0) [] a true e w' ∧ Fars w w' b := by
  go_enter Try.func174, Try.ntmps174
  go_wp2_with fail
  refine (nextF_bad B b m zs a bad w h hm).mono ?_
  rintro e w1 ⟨⟨A, n, c, rfl, hrow, hblk, hrd, hg⟩, hfar⟩
  have hn : n = 0 := hrow.1.symm
  subst hn
  have Hfar := Lib.hid hfar
  clear hblk h hrow hm hfar
  go_wp2
  refine wp_loop_rounds 1 ?_
  rw [rounds_succ]
  go_wp2
  go_ret
  exact ⟨⟨rfl, hrd, hg⟩, Hfar.out⟩

section
variable (B b : Nat) (zs : List Int) (a : Int) (bad : Bool) (w : World) (h : Rd w B b zs a bad) (hB : Bytes zs) (hl : zs.length ≤ 140737488351232) (ha0 : 0 ≤ a) (ha1 : a ≤ 1000000000000000)
include h hB hl ha0 ha1
theorem numberF_any (m : Nat) (hm4 : m ≤ 4) :
    Calls Try.prog 174 #[.pointer (some ⟨b, 0, none⟩), .int .i64 m] w fun e w' => RetNum w B b (.int .u32 (num zs m)) (rest zs m) (gone zs a m) (badn zs bad m) e w' ∧ Fars w w' b := by
  by_cases hm : m ≤ zs.length
  · have := numberF_ok B b m zs a bad w h hB hm hm4 hl ha0 ha1
    simpa only [num, told, rest, gone, badn, if_pos hm] using this
  · have := numberF_bad B b m zs a bad w h (.inr (by omega))
    simpa only [num, told, rest, gone, badn, if_neg hm, show be [] = 0 from rfl] using this
theorem u8F_any : Calls Try.prog 188 #[.pointer (some ⟨b, 0, none⟩)] w fun e w' => RetNum w B b (.int .u8 (num zs 1)) (rest zs 1) (gone zs a 1) (badn zs bad 1) e w' ∧ Fars w w' b := by
  have H := Lib.hid (numberF_any B b zs a bad w h hB hl ha0 ha1 1 (by omega))
  obtain ⟨n0, n1⟩ := num_lt hB 1 1 (by omega)
  clear h hB hl ha0 ha1
  simp only [Int.pow_succ, Int.pow_zero, Int.one_mul] at n1
  go_enter Try.func188, Try.ntmps188
  go_wp2_with fail
  refine H.out.mono ?_
  rintro e w1 ⟨⟨rfl, hr⟩, hf⟩
  go_wp2
  go_ret
  exact ⟨⟨rfl, hr⟩, hf⟩
end
theorem rdqF_u8 {w : World} {B b : Nat} {zs : List Int} {i : Nat} (h : RdQ w B b zs i) (hB : Bytes zs) (hl : zs.length ≤ 140737488351232) : Calls Try.prog 188 #[.pointer (some ⟨b, 0, none⟩)] w fun e w' => RetQ w B b (.int .u8 (n1at zs i)) zs (i + 1) e w' ∧ Fars w w' b := by
  rcases h with ⟨hi, h⟩ | ⟨hi, a, a0, a1, h⟩
  · exact (u8F_any B b _ _ _ w h (drop_bytes hB _) (by rw [List.length_drop]; omega) (by omega) (by omega)).mono fun e w' ⟨⟨he, hr, hg⟩, hf⟩ => ⟨⟨he, rdq_good hi hr, hg⟩, hf⟩
  · refine (u8F_any B b _ _ _ w h (fun x hx => by cases hx) (by simp) a0 (by omega)).mono fun e w' ⟨⟨he, hr, hg⟩, hf⟩ => ⟨⟨?_, rdq_bad (by omega) hi a0 a1 hr, hg⟩, hf⟩
    unfold n1at
    rw [drop_past hi]
    exact he

end Go.Proofs.Ytdaeffnaoeblpaa

/- simple: readFlags, as a contract over this seat's translation. -/
namespace Go.Proofs.Ytdaeffnaoeblpaa
open Go.RowKit
set_option linter.unusedVariables false

def slLenP : Value → Nat
  | .slice _ n _ => n
  | _ => 0

/-- A Reader, and a fresh row of bytes beside it. -/
structure LF (w wr : World) (B b : Nat) (zs : List Int) (i : Nat) (A : Option Addr) (n c : Nat) (xs : List Int) : Prop where
  rd : RdQ wr B b zs i
  far : Far wr b w.heap.size
  own : OwnB wr w.heap.size A n c xs
  gr : w.grownBy wr (some b)
  lt : b < w.heap.size
section
variable {w wr w' : World} {B b : Nat} {zs : List Int} {i j : Nat} {A A2 : Option Addr} {n n2 c c2 : Nat} {xs ys : List Int}
theorem LF.ask (h : LF w wr B b zs i A n c xs) (hr : RdQ w' B b zs j) (hg : wr.grownBy w' (some b)) (hf : Fars wr w' b) : LF w w' B b zs j A n c xs :=
  ⟨hr, hf _ h.far, h.own.grown hg (fun g e he => by have := (h.own.from_ g e).1; have := h.lt; cases he; omega), grown_trans h.gr hg, h.lt⟩
theorem LF.app (h : LF w wr B b zs i A n c xs) (ho : OwnB w' w.heap.size A2 n2 c2 ys) (hg : wr.grownBy w' (blockOf A)) : LF w w' B b zs i A2 n2 c2 ys := by
  have hlt := h.lt
  have hs := h.gr.size
  have hk : ∀ g, g < wr.heap.size → g < w.heap.size → w'.heap[g]? = wr.heap[g]? := fun g hg1 hg2 => hg.block g hg1 (fun e => by have := (h.own.from_ g e.symm).1; omega)
  refine ⟨h.rd.keepF h.far hg.size (fun g h1 h2 => hk g h1 (by rcases h2 with rfl | h2; exact hlt; exact h2)), h.far.keep (hk b (by omega) hlt), ho, ⟨hg.os.trans h.gr.os, hg.tape.trans h.gr.tape, hg.output.trans h.gr.output, Nat.le_trans hs hg.size, fun k hkl hne => (hk k (by omega) hkl).trans (h.gr.block k hkl hne)⟩, hlt⟩
theorem LF.alloc (h : LF w wr B b zs i A n c xs) (o : Obj) : LF w (wr.alloc o) B b zs i A n c xs := by
  have hA := (Below.refl wr.heap.size wr).alloc (Nat.le_refl _) o
  have hlt := h.lt
  have hs := h.gr.size
  exact ⟨h.rd.below hA, h.far.keep (hA.block b (by omega)), h.own.below hA, grown_trans h.gr (grown_of_below hA _), h.lt⟩
end

/-- What telling flags leaves. -/
def RetFl (w : World) (B b : Nat) (zs : List Int) (n i : Nat) (e : Ending) (w' : World) : Prop :=
  w.grownBy w' (some b) ∧ ((fAll zs n ⟨[], i⟩ = none ∧ e = .returned (.tuple #[.slice none 0 0, .bool false]) ∧ ∃ j, RdQ w' B b zs j)
    ∨ (∃ s A c, fAll zs n ⟨[], i⟩ = some s ∧ e = .returned (.tuple #[.slice A n c, .bool true]) ∧ OwnB w' w.heap.size A n c s.fl ∧ RdQ w' B b zs s.at_))

theorem fNext_bytes {zs : List Int} (hB : Bytes zs) {s : FS} (h : Bytes s.fl) : Bytes (fNext zs s).fl := by
  intro x hx
  simp only [fNext, List.mem_append, List.mem_replicate] at hx
  rcases hx with hx | ⟨_, rfl⟩
  · exact h x hx
  · exact n1at_lt hB _

set_option maxRecDepth 100000 in
set_option maxHeartbeats 4000000 in
theorem oflags_any (n : Nat) {w : World} {B b : Nat} {zs : List Int} {i : Nat} (h : RdQ w B b zs i) (hB : Bytes zs) (hl : zs.length ≤ 1000000) (hn : n ≤ 1000000) :
    Calls Try.prog 189 #[.pointer (some ⟨b, 0, none⟩), .int .i64 n] w (RetFl w B b zs n i) := by
  obtain ⟨i0, hi, hz0, hz1, hz2⟩ := info_parts Try.u8info
  have HB := Lib.hid hB
  have hlt0 := h.lt
  have hf0 := farQ_size h
  clear hB
  go_enter Try.func189, Try.ntmps189
  go_wp2_with (at_make; refine wpList_make_ints rfl (.const (.int .i64 0)) (.tmp 9) _ rfl 5 .u8 w.heap.size i0 1 Try.underlying42 hi hz0 hz1 hz2 _ _ 0 n rfl rfl (by omega) (by omega) (by omega) (by omega) (by omega) (Nat.le_refl _) ?_; intro w1 hown1 hg1)
  have hs : LF w w1 B b zs i (some ⟨w.heap.size, 0, none⟩) 0 n [] :=
    ⟨h.keep hg1.size (fun q hq _ _ => hg1.block q hq (by simp)), hf0.keep (hg1.block b hlt0 (by simp)), hown1, grown_of_below (below_of_grown hg1 (Nat.le_refl _) (fun k e => by cases e)) _, hlt0⟩
  clear hown1 hg1 h hlt0 hf0
  generalize hgA : (some ⟨w.heap.size, 0, none⟩ : Option Addr) = A0 at hs ⊢
  clear hgA
  go_loopw [6] (fun v wr => ∃ (s : FS) (A : Option Addr) (n1 c1 : Nat), v = .slice A n1 c1 ∧ n1 ≤ n ∧ Hid (fAll zs n s = fAll zs n ⟨[], i⟩) ∧ LF w wr B b zs s.at_ A n1 c1 s.fl) (fun v _ => n - slLenP v)
  case atStart => exact ⟨⟨[], i⟩, A0, 0, n, rfl, Nat.zero_le _, Lib.hid rfl, hs⟩
  case round =>
    clear hs
    obtain ⟨s, A, n1, c1, rfl, hn1, HR, hs⟩ := hrel
    have Hsl := Lib.hid hs.own.len
    by_cases hlt : n1 < n
    · have hlt' : s.fl.length < n := by have := Hsl.out; omega
      have HU := Lib.hid (rdqF_u8 hs.rd HB.out (by omega))
      obtain ⟨f0, f1⟩ := n1at_lt HB.out s.at_
      have HN1 : Hid (fOk zs n s = true → fAll zs n (fNext zs s) = fAll zs n ⟨[], i⟩) := fun hk => by rw [← HR.out]; exact (fAll_step hlt' hk).symm
      have HN0 : Hid (fOk zs n s = false → fAll zs n ⟨[], i⟩ = none) := fun hk => by rw [← HR.out]; exact fAll_not hlt' hk
      have HOk : Hid (fOk zs n s = (!fb (n1at zs s.at_) 128 && decide (n1 + 1 + fMore zs s.at_ ≤ n))) := by show _ = _; unfold fOk; rw [Hsl.out]
      have HNf : Hid ((fNext zs s).fl = s.fl ++ List.replicate (fMore zs s.at_ + 1) (n1at zs s.at_)) := rfl
      have HNa : Hid ((fNext zs s).at_ = s.at_ + fSize zs s.at_) := rfl
      have HU2 : Hid (∀ (W : World) , RdQ W B b zs (s.at_ + 1) → Calls Try.prog 188 #[.pointer (some ⟨b, 0, none⟩)] W fun e w' => RetQ W B b (.int .u8 (n1at zs (s.at_ + 1))) zs (s.at_ + 1 + 1) e w' ∧ Fars W w' b) := fun W hW => rdqF_u8 hW HB.out (by omega)
      obtain ⟨g0, g1⟩ := n1at_lt HB.out (s.at_ + 1)
      have hM0 : Hid (fb (n1at zs s.at_) 8 = false → fMore zs s.at_ = 0 ∧ fSize zs s.at_ = 1) := fun h => by unfold fMore fSize; rw [h]; exact ⟨rfl, rfl⟩
      have hM1 : Hid (fb (n1at zs s.at_) 8 = true → fMore zs s.at_ = (n1at zs (s.at_ + 1)).toNat ∧ fSize zs s.at_ = 2) := fun h => by unfold fMore fSize; rw [h]; exact ⟨rfl, rfl⟩
      have e8 := and8 f0 f1
      have e128 := and128 f0 f1
      clear HR hlt'
      generalize n1at zs s.at_ = f at *
      generalize n1at zs (s.at_ + 1) = x at *
      generalize fMore zs s.at_ = M at *
      generalize fSize zs s.at_ = Z at *
      go_wp2_with fail
      refine HU.out.mono ?_
      rintro e w2 ⟨⟨rfl, h2, g2⟩, hf2⟩
      have hs2 := hs.ask h2 g2 hf2
      clear hs h2 g2 hf2 HU
      cases hb8 : fb f 8 with
      | false =>
        obtain ⟨rfl, rfl⟩ := hM0.out hb8
        rw [hb8] at e8
        clear hM0 hM1 HU2 hb8
        by_cases h128 : fb f 128 = true
        · have HNo := Lib.hid (HN0.out (by rw [HOk.out, h128]; rfl))
          rw [h128] at e128
          clear HN1 HN0 HOk h128
          go_wp2
          go_ret2
          exact ⟨hs2.gr, .inl ⟨HNo.out, rfl, _, hs2.rd⟩⟩
        · rw [Bool.not_eq_true] at h128
          rw [h128] at e128
          by_cases hfit : n1 + 1 + 0 ≤ n
          · have hk : fOk zs n s = true := by rw [HOk.out, h128, decide_eq_true hfit]; rfl
            have HNx := Lib.hid (HN1.out hk)
            clear HN1 HN0 HOk h128 hk
            go_wp2
            go_loopw [6, 37] (fun v j wr => ∃ (k : Nat) (A2 : Option Addr) (c2 : Nat), k ≤ 0 + 1 ∧ j = .int .i64 k ∧ v = .slice A2 (n1 + k) c2 ∧ LF w wr B b zs (s.at_ + 1) A2 (n1 + k) c2 (s.fl ++ List.replicate k f)) (fun _ j _ => 0 + 1 - (intOf j).toNat)
            case atStart => exact ⟨0, A, c1, Nat.zero_le _, rfl, rfl, by simpa using hs2⟩
            case round =>
              clear hs2 e8 e128
              obtain ⟨k, A2, c2, hk, rfl, rfl, hs⟩ := hrel
              have hB2 : w.heap.size ≤ wr.heap.size := hs.gr.size
              by_cases hlt2 : k < 0 + 1
              · have HRe : Hid (List.replicate k f ++ [f] = List.replicate (k + 1) f) := by show _ = _; rw [List.replicate_succ']
                go_wp2_with (at_builtin; refine wpList_append_row rfl (.tmp 39) (.tmp 41) _ rfl 5 .u8 w.heap.size i0 1 Try.underlying42 hi hz0 hz1 hz2 A2 (n1 + k) c2 _ rfl (hs.own.alloc _) (some ⟨wr.heap.size, 0, none⟩) 1 1 [f] rfl (row_one _ _ _ _) (by omega) (by omega) (by simp; omega) ?_)
                intro A3 c3 w5 ho5 hg5
                have hs5 := (hs.alloc _).app ho5 hg5
                rw [HRe.out] at hs5
                clear hs ho5 hg5
                go_wp2
                go_roundw
                case rel => exact ⟨k + 1, A3, c3, by omega, by go_num, rfl, hs5⟩
                case measure => simp [intOf]; omega
              · obtain rfl : k = 0 + 1 := by omega
                rw [← HNf.out, ← HNa.out] at hs
                go_wp2
                go_roundw
                case rel => exact ⟨fNext zs s, A2, n1 + (0 + 1), c2, rfl, by omega, HNx, hs⟩
                case measure => simp [slLenP]; omega
          · exact absurd hfit (by omega)
      | true =>
        obtain ⟨hM, rfl⟩ := hM1.out hb8
        rw [hb8] at e8
        have HMx : Hid ((M : Int) = x) := by show _ = _; rw [hM]; omega
        clear hM0 hM1 hb8 hM
        have HU3 := Lib.hid (HU2.out w2 hs2.rd)
        clear HU2
        go_wp2_with fail
        refine HU3.out.mono ?_
        rintro e w3 ⟨⟨rfl, h3, g3⟩, hf3⟩
        have hs3 := hs2.ask h3 g3 hf3
        rw [← HMx.out]
        rw [← HMx.out] at g0 g1
        clear hs2 h3 g3 hf3 HU3 HMx
        by_cases h128 : fb f 128 = true
        · have HNo := Lib.hid (HN0.out (by rw [HOk.out, h128]; rfl))
          rw [h128] at e128
          clear HN1 HN0 HOk h128
          go_wp2
          go_ret2
          exact ⟨hs3.gr, .inl ⟨HNo.out, rfl, _, hs3.rd⟩⟩
        · rw [Bool.not_eq_true] at h128
          rw [h128] at e128
          by_cases hfit : n1 + 1 + M ≤ n
          · have hk : fOk zs n s = true := by rw [HOk.out, h128, decide_eq_true hfit]; rfl
            have HNx := Lib.hid (HN1.out hk)
            clear HN1 HN0 HOk h128 hk
            go_wp2
            go_loopw [6, 37] (fun v j wr => ∃ (k : Nat) (A2 : Option Addr) (c2 : Nat), k ≤ M + 1 ∧ j = .int .i64 k ∧ v = .slice A2 (n1 + k) c2 ∧ LF w wr B b zs (s.at_ + 2) A2 (n1 + k) c2 (s.fl ++ List.replicate k f)) (fun _ j _ => M + 1 - (intOf j).toNat)
            case atStart => exact ⟨0, A, c1, Nat.zero_le _, rfl, rfl, by simpa using hs3⟩
            case round =>
              clear hs3 e8 e128
              obtain ⟨k, A2, c2, hk, rfl, rfl, hs⟩ := hrel
              have hB2 : w.heap.size ≤ wr.heap.size := hs.gr.size
              by_cases hlt2 : k < M + 1
              · have HRe : Hid (List.replicate k f ++ [f] = List.replicate (k + 1) f) := by show _ = _; rw [List.replicate_succ']
                go_wp2_with (at_builtin; refine wpList_append_row rfl (.tmp 39) (.tmp 41) _ rfl 5 .u8 w.heap.size i0 1 Try.underlying42 hi hz0 hz1 hz2 A2 (n1 + k) c2 _ rfl (hs.own.alloc _) (some ⟨wr.heap.size, 0, none⟩) 1 1 [f] rfl (row_one _ _ _ _) (by omega) (by omega) (by simp; omega) ?_)
                intro A3 c3 w5 ho5 hg5
                have hs5 := (hs.alloc _).app ho5 hg5
                rw [HRe.out] at hs5
                clear hs ho5 hg5
                go_wp2
                go_roundw
                case rel => exact ⟨k + 1, A3, c3, by omega, by go_num, rfl, hs5⟩
                case measure => simp [intOf]; omega
              · obtain rfl : k = M + 1 := by omega
                rw [← HNf.out, ← HNa.out] at hs
                go_wp2
                go_roundw
                case rel => exact ⟨fNext zs s, A2, n1 + (M + 1), c2, rfl, by omega, HNx, hs⟩
                case measure => simp [slLenP]; omega
          · have HNo := Lib.hid (HN0.out (by rw [HOk.out, h128, decide_eq_false hfit]; rfl))
            clear HN1 HN0 HOk h128
            go_wp2
            go_ret2
            exact ⟨hs3.gr, .inl ⟨HNo.out, rfl, _, hs3.rd⟩⟩
    · obtain rfl : n1 = n := by omega
      have HR2 : Hid (fAll zs n1 ⟨[], i⟩ = some s) := by show _ = _; rw [← HR.out]; exact fAll_done (by have := Hsl.out; omega)
      go_wp2
      go_ret2
      exact ⟨hs.gr, .inr ⟨s, A, c1, HR2.out, rfl, hs.own, hs.rd⟩⟩

end Go.Proofs.Ytdaeffnaoeblpaa

/- simple: readPoints, as a contract over this seat's translation. -/
namespace Go.Proofs.Ytdaeffnaoeblpaa
open Go.RowKit
set_option linter.unusedVariables false

theorem fAll_bytes {zs : List Int} (hB : Bytes zs) {n : Nat} : ∀ (k : Nat) (s t : FS), n - s.fl.length ≤ k → Bytes s.fl → fAll zs n s = some t → Bytes t.fl := by
  intro k
  induction k with
  | zero =>
    intro s t h hs ht
    rw [fAll_done (by omega)] at ht
    cases ht
    exact hs
  | succ k ih =>
    intro s t h hs ht
    by_cases hl : s.fl.length < n
    · cases hk : fOk zs n s with
      | false => rw [fAll_not hl hk] at ht; cases ht
      | true =>
        rw [fAll_step hl hk] at ht
        have hz := fNext_len zs s
        exact ih (fNext zs s) t (by omega) (fNext_bytes hB hs) ht
    · rw [fAll_done (by omega)] at ht
      cases ht
      exact hs

/-- What telling points leaves. -/
def RetPts (w : World) (B b : Nat) (zs : List Int) (n i : Nat) (e : Ending) (w' : World) : Prop :=
  w.grownBy w' (some b) ∧ (((∀ s, fAll zs n ⟨[], i⟩ = some s → oPk zs s = false) ∧ e = .returned (.tuple #[.slice none 0 0, .bool false]) ∧ ∃ j, RdQ w' B b zs j)
    ∨ (∃ s A c, fAll zs n ⟨[], i⟩ = some s ∧ oPk zs s = true ∧ e = .returned (.tuple #[.slice A n c, .bool true]) ∧ OwnS 54 encSp 3 w' w.heap.size A n c (oPs zs s n) ∧ RdQ w' B b zs (oEnd zs s)))

/-- A Reader, rows of flags and of places, and a fresh row of points. -/
structure LY (w wr : World) (B b : Nat) (zs : List Int) (i n : Nat) (FA : Option Addr) (fc : Nat) (fl : List Int) (gx : Nat) (xs : List Int) (gy : Nat) (ys : List Int) (gp : Nat) (l : List Sp) : Prop where
  rd : RdQ wr B b zs i
  gr : w.grownBy wr (some b)
  fl : OwnB wr w.heap.size FA n fc fl
  xs : Own 36 .i16 wr w.heap.size (some ⟨gx, 0, none⟩) n n xs
  ys : Own 36 .i16 wr w.heap.size (some ⟨gy, 0, none⟩) n n ys
  ps : OwnS 54 encSp 3 wr w.heap.size (some ⟨gp, 0, none⟩) n n l
  ne : gp ≠ b
theorem ownS_block {α : Type} {t : TypeId} {enc : α → List Value} {k : Nat} {w : World} {B g n c : Nat} {l : List α} (h : OwnS t enc k w B (some ⟨g, 0, none⟩) n c l) : ∃ cur, w.heap[g]? = some (.cells cur t (0, 0)) := by
  rcases h.shape with ⟨e, _⟩ | ⟨g', cur, e, _, _, hh, _⟩
  · cases e
  · simp only [Option.some.injEq, Addr.mk.injEq, and_true] at e
    subst e
    exact ⟨cur, hh⟩
theorem own_neS {t t' : TypeId} {k : IntKind} {w : World} {B g n c : Nat} {A : Option Addr} {zs : List Int} {cur : Array Value} (h : Own t k w B A n c zs) (h' : w.heap[g]? = some (.cells cur t' (0, 0))) (ht : t ≠ t') : ∀ q, blockOf A = some q → q ≠ g := by
  intro q hq
  rintro rfl
  rcases h.shape with ⟨rfl, _⟩ | ⟨g', cur, rfl, _, _, hh, _⟩
  · simp [blockOf] at hq
  · simp [blockOf] at hq
    subst hq
    rw [hh] at h'
    simp at h'
    exact ht h'.2
theorem LY.set {w wr : World} {B b : Nat} {zs : List Int} {i n : Nat} {FA : Option Addr} {fc : Nat} {fl : List Int} {gx : Nat} {xs : List Int} {gy : Nat} {ys : List Int} {gp : Nat} {l : List Sp} (h : LY w wr B b zs i n FA fc fl gx xs gy ys gp l) (k : Nat) (hk : k < n) (x : Sp) :
    LY w (setCells wr gp (k * 3) (encSp x)) B b zs i n FA fc fl gx xs gy ys gp (l.set k x) := by
  obtain ⟨cur, hc⟩ := ownS_block h.ps
  have hg := (h.ps.from_ gp rfl).1
  have hne := h.ne
  refine ⟨h.rd.keep (by rw [setCells_size]; exact Nat.le_refl _) (fun g hg _ ho => setCells_block (by
      rintro rfl
      rcases ho with e | ⟨cur', hc'⟩
      · exact hne e
      · rw [hc] at hc'
        simp at hc') _ _ _), ⟨?_, ?_, ?_, by rw [setCells_size]; exact h.gr.size, fun q hq hn => (setCells_block (by omega) _ _ _).trans (h.gr.block q hq hn)⟩,
    h.fl.keep (fun q e => setCells_block (own_neS h.fl hc (by decide) q e) _ _ _), h.xs.keep (fun q e => setCells_block (own_neS h.xs hc (by decide) q e) _ _ _), h.ys.keep (fun q e => setCells_block (own_neS h.ys hc (by decide) q e) _ _ _), ownS_store encSp_len h.ps hk x, hne⟩
  · exact h.gr.os
  · exact h.gr.tape
  · exact h.gr.output
theorem LY.drew {w wr : World} {B b : Nat} {zs : List Int} {i n : Nat} {FA : Option Addr} {fc : Nat} {fl : List Int} {gx : Nat} {xs : List Int} {gy : Nat} {ys : List Int} {gp : Nat} {l : List Sp} (h : LY w wr B b zs i n FA fc fl gx xs gy ys gp l) : LY w wr.drew B b zs i n FA fc fl gx xs gy ys gp l :=
  ⟨h.rd.drew, ⟨h.gr.os, h.gr.tape, h.gr.output, h.gr.size, h.gr.block⟩, h.fl, h.xs, h.ys, h.ps.drew, h.ne⟩

set_option maxRecDepth 100000 in
set_option maxHeartbeats 4000000 in
theorem opoints_any (n : Nat) {w : World} {B b : Nat} {zs : List Int} {i : Nat} (h : RdQ w B b zs i) (hB : Bytes zs) (hl : zs.length ≤ 1000000) (hn : n ≤ 1000000) :
    Calls Try.prog 181 #[.pointer (some ⟨b, 0, none⟩), .int .i64 n] w (RetPts w B b zs n i) := by
  obtain ⟨i0, hi, hz0, hz1, hz2⟩ := info_parts Try.spinfo
  have HB := Lib.hid hB
  have hlt0 := h.lt
  have HF := Lib.hid (oflags_any n h hB hl hn)
  have hBB := fun t => fAll_bytes hB n ⟨[], i⟩ t (Nat.sub_le _ _) (fun x hx => by cases hx)
  have HBB := Lib.hid hBB
  clear hB hBB h
  go_enter Try.func181, Try.ntmps181
  go_wp2_with fail
  with_reducible refine HF.out.mono ?_
  rintro e w1 ⟨hg1, ⟨hno, rfl, hrd⟩ | ⟨s, FA, fc, hyes, rfl, hfl, hrd⟩⟩
  · have HNo := Lib.hid hno
    have HRd := Lib.hid hrd
    clear hno HF HBB hrd
    go_wp2
    go_ret2
    exact ⟨hg1, .inl ⟨(fun s hs => by rw [HNo.out] at hs; cases hs), rfl, HRd.out⟩⟩
  · have HY := Lib.hid hyes
    have hsb := HBB.out s hyes
    have hlen := hfl.len
    have HPk : Hid (∀ b1 b2, pkOk zs 2 16 s.fl s.at_ n = b1 → pkOk zs 4 32 s.fl (oXe zs s) n = b2 → oPk zs s = (b1 && b2)) := fun b1 b2 h1 h2 => by unfold oPk; rw [hlen, h1, h2]
    have HXe : Hid (oXe zs s = (pkAt zs 2 16 s.fl s.at_ n).1) := by show _ = _; unfold oXe; rw [hlen]
    have HEn : Hid (oEnd zs s = (pkAt zs 4 32 s.fl (oXe zs s) n).1) := by show _ = _; unfold oEnd; rw [hlen]
    have hs1 := hg1.size
    have HX := Lib.hid (oplaces_any 2 16 (fun f a b => and2 a b) (fun f a b => and16 a b) FA n fc s.fl hrd HB.out hl hfl.row hsb hn (fun _ e => by have := (hfl.from_ b e).1; omega))
    have Hsb := Lib.hid hsb
    have Hlen := Lib.hid hlen
    clear hyes HF HBB hrd hsb hlen
    go_wp2_with fail
    with_reducible refine HX.out.mono ?_
    rintro e w2 ⟨hg2, ⟨hno, rfl, j, hrd⟩ | ⟨hxk, gx, rfl, hxs, hrd⟩⟩
    · have hfl2 := hfl.grown hg2 (fun g e he => by have := (hfl.from_ g e).1; cases he; omega)
      have hs2 := hg2.size
      have HY2 := Lib.hid (oplaces_any 4 32 (fun f a b => and4 a b) (fun f a b => and32 a b) FA n fc s.fl hrd HB.out hl hfl2.row Hsb.out hn (fun _ e => by have := (hfl2.from_ b e).1; omega))
      have HNo : Hid (∀ t, fAll zs n ⟨[], i⟩ = some t → oPk zs t = false) := fun t ht => by
        rw [HY.out] at ht
        cases ht
        rw [HPk.out _ _ hno rfl]
        rfl
      clear hno HX hfl hfl2 hrd HPk
      go_wp2_with fail
      with_reducible refine HY2.out.mono ?_
      rintro e w3 ⟨hg3, ⟨hno, rfl, j, hrd⟩ | ⟨hyk, gy, rfl, hys, hrd⟩⟩
      · have HRd := Lib.hid hrd
        have HG := Lib.hid (grown_trans (grown_trans hg1 hg2) hg3)
        clear hno HY2 hrd hg1 hg2 hg3
        go_wp2
        go_ret2
        exact ⟨HG.out, .inl ⟨HNo.out, rfl, _, HRd.out⟩⟩
      · have HRd := Lib.hid hrd
        have HG := Lib.hid (grown_trans (grown_trans hg1 hg2) hg3)
        clear hyk hys HY2 hrd hg1 hg2 hg3
        go_wp2
        go_ret2
        exact ⟨HG.out, .inl ⟨HNo.out, rfl, _, HRd.out⟩⟩
    · rw [← HXe.out] at hrd
      have hfl2 := hfl.grown hg2 (fun g e he => by have := (hfl.from_ g e).1; cases he; omega)
      have hs2 := hg2.size
      have HY2 := Lib.hid (oplaces_any 4 32 (fun f a b => and4 a b) (fun f a b => and32 a b) FA n fc s.fl hrd HB.out hl hfl2.row Hsb.out hn (fun _ e => by have := (hfl2.from_ b e).1; omega))
      have Hxk := Lib.hid hxk
      clear HX hfl hrd hxk
      go_wp2_with fail
      with_reducible refine HY2.out.mono ?_
      rintro e w3 ⟨hg3, ⟨hno, rfl, j, hrd⟩ | ⟨hyk, gy, rfl, hys, hrd⟩⟩
      · have HNo : Hid (∀ t, fAll zs n ⟨[], i⟩ = some t → oPk zs t = false) := fun t ht => by
          rw [HY.out] at ht
          cases ht
          rw [HPk.out _ _ Hxk.out hno]
          rfl
        have HRd := Lib.hid hrd
        have HG := Lib.hid (grown_trans (grown_trans hg1 hg2) hg3)
        clear hno HY2 hrd hg1 hg2 hg3 hxs hfl2
        go_wp2
        go_ret2
        exact ⟨HG.out, .inl ⟨HNo.out, rfl, _, HRd.out⟩⟩
      · rw [← HEn.out] at hrd
        have HOk : Hid (oPk zs s = true) := by show _ = _; rw [HPk.out _ _ Hxk.out hyk]; rfl
        have hfl3 := hfl2.grown hg3 (fun g e he => by have := (hfl2.from_ g e).1; cases he; omega)
        have hxs3 := (hxs.grown hg3 (fun g e he => by have := (hxs.from_ g e).1; cases he; omega)).mono (B' := w.heap.size) (by omega)
        have hys3 := hys.mono (B' := w.heap.size) (by omega)
        have hs3 := hg3.size
        have HG := grown_trans (grown_trans hg1 hg2) hg3
        clear hyk HY2 hg1 hg2 hg3 hxs hys hfl2
        go_wp2_with (at_make; refine wpList_make_S rfl (.tmp 41) (.tmp 41) _ rfl 54 encSp 3 encSp_len (by omega) w.heap.size i0 _ (0, 0, false) 6 Try.underlying35 hi hz0 hz1 rfl hz2 _ _ n rfl rfl rfl rfl (by omega) (by omega) (by omega) ?_; intro w4 hown4 hg4)
        have hb4 := below_of_grown hg4 (Nat.le_refl _) (fun k e => by cases e)
        have hs : LY w w4 B b zs (oEnd zs s) n FA fc s.fl gx (pkVs zs 2 16 s.fl s.at_ n) gy (pkVs zs 4 32 s.fl (oXe zs s) n) w3.heap.size (oPs zs s 0 ++ List.replicate (n - 0) (0, 0, false)) :=
          ⟨hrd.below hb4, grown_trans HG (grown_of_below hb4 _), hfl3.below hb4, hxs3.below hb4, hys3.below hb4, hown4, by omega⟩
        clear hrd hb4 HG hfl3 hxs3 hys3 hown4 hg4 hi hz0 hz1 hz2 hs1 hs2 hs3
        generalize w3.heap.size = gp at *
        go_loopw [45] (fun i' wr => ∃ k : Nat, k ≤ n ∧ i' = .int .i64 k ∧ LY w wr B b zs (oEnd zs s) n FA fc s.fl gx (pkVs zs 2 16 s.fl s.at_ n) gy (pkVs zs 4 32 s.fl (oXe zs s) n) gp (oPs zs s k ++ List.replicate (n - k) (0, 0, false))) (fun i' _ => n - (intOf i').toNat)
        case atStart => exact ⟨0, Nat.zero_le _, rfl, hs⟩
        case round =>
          clear hs
          obtain ⟨k, hk, rfl, hs⟩ := hrel
          by_cases hlt : k < n
          · obtain ⟨f, hf⟩ := get_some (zs := s.fl) (k := k) (by have := Hlen.out; omega)
            obtain ⟨f0, f1⟩ := Hsb.out f (List.mem_of_getElem? hf)
            have hfd : s.fl.getD k 0 = f := by simp [hf]
            have HST := Lib.hid (oPs_set zs s k n hlt)
            rw [hfd] at HST
            obtain ⟨g, off, eFA, hg, hc⟩ := hs.fl.row.at (cellsOf_get (k := .u8) hf)
            obtain ⟨gx', ox, eX, _, hqx⟩ := hs.xs.row.at (cellsOf_get (k := .i16) (pkVs_get zs 2 16 s.fl s.at_ hlt))
            obtain ⟨gy', oy, eY, _, hqy⟩ := hs.ys.row.at (cellsOf_get (k := .i16) (pkVs_get zs 4 32 s.fl (oXe zs s) hlt))
            simp only [Option.some.injEq, Addr.mk.injEq, and_true] at eX eY
            obtain ⟨rfl, rfl⟩ := eX
            obtain ⟨rfl, rfl⟩ := eY
            rw [Nat.zero_add] at hqx hqy
            obtain ⟨z, hz⟩ : ∃ z, (oPs zs s k ++ List.replicate (n - k) ((0, 0, false) : Sp))[k]? = some z := ⟨_, List.getElem?_eq_getElem (by simp [oPs_len]; omega)⟩
            obtain ⟨gg, off', e', _, r0, r1, r2⟩ := atSp (hs.ps.row encSp_len) hz
            simp only [Option.some.injEq, Addr.mk.injEq, and_true] at e'
            obtain ⟨rfl, rfl⟩ := e'
            rw [Nat.zero_add] at r0 r1 r2
            have fz := hs.ps.thaw
            have e1 := and1 f0 f1
            have hs4 := (hs.drew.set k hlt ((pkAt zs 2 16 s.fl s.at_ (k + 1)).2, (pkAt zs 4 32 s.fl (oXe zs s) (k + 1)).2, fb f 1))
            rw [HST.out] at hs4
            have H4 := Lib.hid hs4
            unfold encSp setCells setCells setCells setCells at H4
            subst eFA
            clear hs4 hs hf hfd hz HST
            generalize (pkAt zs 2 16 s.fl s.at_ (k + 1)).2 = px at *
            generalize (pkAt zs 4 32 s.fl (oXe zs s) (k + 1)).2 = py at *
            generalize fb f 1 = po at *
            go_wp2_with fail
            go_region
            all_goals
              go_wp2
              go_roundw
              case rel => exact ⟨k + 1, by omega, by go_num, H4.out⟩
              case measure => simp [intOf]; omega
          · obtain rfl : k = n := by omega
            have hp := hs.ps
            rw [Nat.sub_self, List.replicate_zero, List.append_nil] at hp
            go_wp2
            go_ret2
            exact ⟨hs.gr, .inr ⟨s, _, k, HY.out, HOk.out, rfl, hp, hs.rd⟩⟩

end Go.Proofs.Ytdaeffnaoeblpaa

/- simple: Right, as a contract over this seat's translation. -/
namespace Go.Proofs.Ytdaeffnaoeblpaa
open Go.RowKit
set_option linter.unusedVariables false

theorem cells7 {w : World} {b t : Nat} {v0 v1 v2 v3 v4 v5 v6 : Value} (h : w.heap[b]? = some (.cells #[v0, v1, v2, v3, v4, v5, v6] t (0, 0))) :
    w.cell? ⟨b, 0, none⟩ = some v0 ∧ w.cell? ⟨b, 1, none⟩ = some v1 ∧ w.cell? ⟨b, 2, none⟩ = some v2 ∧ w.cell? ⟨b, 3, none⟩ = some v3 ∧ w.cell? ⟨b, 4, none⟩ = some v4 ∧ w.cell? ⟨b, 5, none⟩ = some v5 ∧ w.cell? ⟨b, 6, none⟩ = some v6 :=
  ⟨cell_of_row w b 0 _ t (0, 0) h, cell_of_row w b 1 _ t (0, 0) h, cell_of_row w b 2 _ t (0, 0) h, cell_of_row w b 3 _ t (0, 0) h, cell_of_row w b 4 _ t (0, 0) h, cell_of_row w b 5 _ t (0, 0) h, cell_of_row w b 6 _ t (0, 0) h⟩

theorem ochX (v : GlV) (w : World) (hr : v.rows w) (hn : v.sn ≤ 1000000) (ho : v.g.ok) : Calls Try.prog 51 #[v.val, .func (.func 52) #[] #[]] w (RetN 3 .i64 w (chs (xsOf v.g.ps))) :=
  ochanges_any 52 (·.1) (enters_of Try.func52 (by kernel_rfl) rfl) (fun x W => oalongX_any x W) v w hr hn (fun p hp => (ho.ps p hp).1)
theorem ochY (v : GlV) (w : World) (hr : v.rows w) (hn : v.sn ≤ 1000000) (ho : v.g.ok) : Calls Try.prog 51 #[v.val, .func (.func 53) #[] #[]] w (RetN 3 .i64 w (chs (ysOf v.g.ps))) :=
  ochanges_any 53 (·.2.1) (enters_of Try.func53 (by kernel_rfl) rfl) (fun x W => oalongY_any x W) v w hr hn (fun p hp => (ho.ps p hp).2)

set_option maxRecDepth 100000 in
set_option maxHeartbeats 4000000 in
theorem oright_mid (v : GlV) (w : World) (hr : v.rows w) (hf : v.mid) (ho : v.g.ok) :
    Calls Try.prog 19 #[v.val] w (Ret w (.bool (oRight v.g))) := by
  have hA := (Below.refl w.heap.size w).alloc (Nat.le_refl _) (.cells v.cells 44)
  have hk := heap_alloc_new w (.cells v.cells 44)
  obtain ⟨f0, f1, f2⟩ := hf
  have HE : Hid (v.g.es.length = v.en) := hr.es.len
  have HP : Hid (v.g.pr.length = v.pn) := hr.pr.len
  have HS : Hid (v.g.ps.length = v.sn) := hr.ps.len
  have HRt : Hid (oRight v.g = (riseN v.g.es v.en && decide (v.sn = cntE v.g.es) && fitL (chs (xsOf v.g.ps)) && fitL (chs (ysOf v.g.ps)))) := by
    show _ = _
    unfold oRight
    rw [HE.out, HP.out, HS.out, decide_eq_true (by omega), decide_eq_true (by omega)]
    simp
  have HRi : Hid (∀ W, Below w.heap.size w W → Calls Try.prog 46 #[.slice v.EA v.en v.ec] W fun e w' => e = .returned (.bool (riseN v.g.es v.en)) ∧ W = w') := fun W hW => orise_any _ _ _ _ W (hr.es.below hW) (by omega)
  have HC : Hid (∀ W, Below w.heap.size w W → Calls Try.prog 47 #[v.val] W (Ret W (.int .i64 (cntE v.g.es : Nat)))) := fun W hW => ocount_any v W (hr.below hW) (by omega) ho.es
  have HX : Hid (∀ W, Below w.heap.size w W → Calls Try.prog 51 #[v.val, .func (.func 52) #[] #[]] W (RetN 3 .i64 W (chs (xsOf v.g.ps)))) := fun W hW => ochX v W (hr.below hW) (by omega) ho
  have HY : Hid (∀ W, Below w.heap.size w W → Calls Try.prog 51 #[v.val, .func (.func 53) #[] #[]] W (RetN 3 .i64 W (chs (ysOf v.g.ps)))) := fun W hW => ochY v W (hr.below hW) (by omega) ho
  have HXl : Hid ((chs (xsOf v.g.ps)).length = v.sn) := by show _ = _; rw [chs_len, xsOf_len, HS.out]
  have HYl : Hid ((chs (ysOf v.g.ps)).length = v.sn) := by show _ = _; rw [chs_len, ysOf_len, HS.out]
  clear ho hr
  unfold GlV.val at *
  unfold GlV.cells at *
  obtain ⟨⟨x0, x1, x2, x3, es, pr, ps⟩, EA, en, ec, PA, pn, pc, SA, sn, sc⟩ := v
  simp only at *
  generalize chs (xsOf ps) = cx at *
  generalize chs (ysOf ps) = cy at *
  generalize cntE es = N at *
  rw [HRt.out]
  clear HRt HE HP HS
  have hgw : ∀ p os, Below w.heap.size w (gw (w.alloc (.cells #[.int .i16 x0, .int .i16 x1, .int .i16 x2, .int .i16 x3, .slice EA en ec, .slice PA pn pc, .slice SA sn sc] 44)) p os) := fun p os => hA.trans ((gw_below _ p os).mono hA.size)
  have GR : Hid (∀ p os, Calls Try.prog 46 #[.slice EA en ec] (gw (w.alloc (.cells #[.int .i16 x0, .int .i16 x1, .int .i16 x2, .int .i16 x3, .slice EA en ec, .slice PA pn pc, .slice SA sn sc] 44)) p os) (fun e w' => e = .returned (.bool (riseN es en)) ∧ w' = gw (w.alloc (.cells #[.int .i16 x0, .int .i16 x1, .int .i16 x2, .int .i16 x3, .slice EA en ec, .slice PA pn pc, .slice SA sn sc] 44)) p os)) := fun p os => (HRi.out _ (hgw p os)).mono fun e w' ⟨h1, h2⟩ => ⟨h1, h2.symm⟩
  have GC : Hid (∀ p os, Calls Try.prog 47 #[.agg #[.int .i16 x0, .int .i16 x1, .int .i16 x2, .int .i16 x3, .slice EA en ec, .slice PA pn pc, .slice SA sn sc]] (gw (w.alloc (.cells #[.int .i16 x0, .int .i16 x1, .int .i16 x2, .int .i16 x3, .slice EA en ec, .slice PA pn pc, .slice SA sn sc] 44)) p os) (Ret (gw (w.alloc (.cells #[.int .i16 x0, .int .i16 x1, .int .i16 x2, .int .i16 x3, .slice EA en ec, .slice PA pn pc, .slice SA sn sc] 44)) p os) (.int .i64 (N : Nat)))) := fun p os => HC.out _ (hgw p os)
  have HGW := Lib.hid hgw
  have HKw : Hid (∀ p os, (gw (w.alloc (.cells #[.int .i16 x0, .int .i16 x1, .int .i16 x2, .int .i16 x3, .slice EA en ec, .slice PA pn pc, .slice SA sn sc] 44)) p os).heap[w.heap.size]? = some (.cells #[.int .i16 x0, .int .i16 x1, .int .i16 x2, .int .i16 x3, .slice EA en ec, .slice PA pn pc, .slice SA sn sc] 44 (0, 0))) := fun p os => ((gw_below _ p os).block _ (by simp)).trans hk
  obtain ⟨b0, b1, b2, b3, b4, b5, b6⟩ := cells7 hk
  have C0 := gw_cell b0
  have C1 := gw_cell b1
  have C2 := gw_cell b2
  have C3 := gw_cell b3
  have C4 := gw_cell b4
  have C5 := gw_cell b5
  have C6 := gw_cell b6
  clear b0 b1 b2 b3 b4 b5 b6 hgw HC HRi hk hA
  have D1 : decide (32767 < (en : Int)) = false := decide_eq_false (by omega)
  have D2 : decide (65535 < (pn : Int)) = false := decide_eq_false (by omega)
  cases hri : riseN es en with
  | false =>
    rw [hri] at GR
    clear hri HX HY HXl HYl f0 f1 f2
    go_enter Try.func19, Try.ntmps19
    go_upto_region 1 with fail
    generalize w.alloc _ = V at *
    refine region_below (by kernel_rfl) (by kernel_rfl) ?_
    repeat (first | go_big_quiet_step ((go_at_call 46; with_reducible exact calls_gw_same (GR.out _ _))) | quiet_step ((go_at_call 46; with_reducible exact calls_gw_same (GR.out _ _))))
    refine wpQuiet_nil ?_
    rintro _ ⟨z, rfl⟩
    go_wp2
    go_ret
    exact ⟨rfl, HGW.out _ _⟩
  | true =>
    rw [hri] at GR
    clear hri
    by_cases hN : sn = N
    · subst hN
      have E1 : ((sn : Int) != (sn : Int)) = false := by simp
      go_enter Try.func19, Try.ntmps19
      go_upto_region 1 with fail
      generalize w.alloc _ = V at *
      refine region_below (by kernel_rfl) (by kernel_rfl) ?_
      repeat (first | go_big_quiet_step (first | (go_at_call 46; with_reducible exact calls_gw_same (GR.out _ _)) | (go_at_call 47; with_reducible exact calls_gw (GC.out _ _))) | quiet_step (first | (go_at_call 46; with_reducible exact calls_gw_same (GR.out _ _)) | (go_at_call 47; with_reducible exact calls_gw (GC.out _ _))))
      refine wpQuiet_nil ?_
      rintro _ ⟨z, rfl⟩
      have hb := HGW.out z.n z.os
      have hk := HKw.out z.n z.os
      clear HGW HKw GR GC C0 C1 C2 C3 C4 C5 C6 D1 D2 E1
      generalize gw V z.n z.os = Z at *
      obtain ⟨b0, b1, b2, b3, b4, b5, b6⟩ := cells7 hk
      have KX := Lib.hid (HX.out Z hb)
      clear HX
      go_wp2_with fail
      with_reducible refine KX.out.mono ?_
      rintro e w2 ⟨A2, n2, c2, rfl, ho2, hb2⟩
      have Hb2 := Lib.hid (hb.trans (hb2.mono hb.size))
      have hk2 := kept_block hk hb2
      have Hn2 : Hid (n2 = sn) := by have := ho2.len; rw [HXl.out] at this; exact this.symm
      have Hq2 := Lib.hid (ocontains_any A2 n2 c2 cx w2 ho2.row (by have := Hn2.out; omega))
      clear KX hb2 hb hk b0 b1 b2 b3 b4 b5 b6
      go_wp2_with fail
      with_reducible refine Hq2.out.mono ?_
      rintro e w3 ⟨rfl, rfl⟩
      clear Hq2
      obtain ⟨b0, b1, b2, b3, b4, b5, b6⟩ := cells7 hk2
      cases fx : fitL cx with
      | false =>
        go_wp2
        go_ret
        exact ⟨by simp [fx], Hb2.out⟩
      | true =>
        have KY := Lib.hid (HY.out w2 Hb2.out)
        clear HY
        go_wp2_with fail
        with_reducible refine KY.out.mono ?_
        rintro e w4 ⟨A4, n4, c4, rfl, ho4, hb4⟩
        have Hb4 := Lib.hid (Hb2.out.trans (hb4.mono Hb2.out.size))
        have Hn4 : Hid (n4 = sn) := by have := ho4.len; rw [HYl.out] at this; exact this.symm
        have Hq4 := Lib.hid (ocontains_any A4 n4 c4 cy w4 ho4.row (by have := Hn4.out; omega))
        clear KY hb4 b0 b1 b2 b3 b4 b5 b6
        go_wp2_with fail
        with_reducible refine Hq4.out.mono ?_
        rintro e w5 ⟨rfl, rfl⟩
        cases fy : fitL cy
        all_goals
          go_wp2
          go_ret
          exact ⟨by simp [fx, fy], Hb4.out⟩
    · have E1 : ((sn : Int) != (N : Int)) = true := by simp; omega
      have E2 : Hid (decide (sn = N) = false) := decide_eq_false hN
      rw [E2.out]
      clear HX HY HXl HYl f0 f1 f2 hN
      go_enter Try.func19, Try.ntmps19
      go_upto_region 1 with fail
      generalize w.alloc _ = V at *
      refine region_below (by kernel_rfl) (by kernel_rfl) ?_
      repeat (first | go_big_quiet_step (first | (go_at_call 46; with_reducible exact calls_gw_same (GR.out _ _)) | (go_at_call 47; with_reducible exact calls_gw (GC.out _ _))) | quiet_step (first | (go_at_call 46; with_reducible exact calls_gw_same (GR.out _ _)) | (go_at_call 47; with_reducible exact calls_gw (GC.out _ _))))
      refine wpQuiet_nil ?_
      rintro _ ⟨z, rfl⟩
      go_wp2
      go_ret
      exact ⟨rfl, HGW.out _ _⟩

theorem oright_any (v : GlV) (w : World) (hr : v.rows w) (hf : v.few) (ho : v.g.ok) :
    Calls Try.prog 19 #[v.val] w (Ret w (.bool (oRight v.g))) := oright_mid v w hr hf.mid ho

end Go.Proofs.Ytdaeffnaoeblpaa

/- simple: read and Parse, as contracts over this seat's translation. -/
namespace Go.Proofs.Ytdaeffnaoeblpaa
open Go.RowKit
set_option linter.unusedVariables false

def glZ : Array Value := #[.int .i16 0, .int .i16 0, .int .i16 0, .int .i16 0, .slice none 0 0, .slice none 0 0, .slice none 0 0]
theorem Try.glsize : (Try.prog.info? 44).map (·.size) = some 7 := by kernel_rfl
theorem glSize {cs : Array Value} (h : cs.size = 7) : (Try.prog.info? 44).map (·.size) = some cs.size := by rw [h]; exact Try.glsize
theorem Try.u16info : (Try.prog.info? 39).map (fun i => (i.zero, i.size, i.bytes)) = some (some (.int .u16 0), 1, 2) := by kernel_rfl

theorem gl7 (x0 x1 x2 x3 : Int) (EA PA SA : Option Addr) (en ec pn pc sn sc : Nat) : (Try.prog.info? 44).map (·.size) = some (#[Value.int .i16 x0, .int .i16 x1, .int .i16 x2, .int .i16 x3, .slice EA en ec, .slice PA pn pc, .slice SA sn sc]).size ∧ (#[Value.int .i16 0, .int .i16 0, .int .i16 0, .int .i16 0, .slice none 0 0, .slice none 0 0, .slice none 0 0]).size = (#[Value.int .i16 x0, .int .i16 x1, .int .i16 x2, .int .i16 x3, .slice EA en ec, .slice PA pn pc, .slice SA sn sc]).size ∧ (#[Value.int .i16 x0, .int .i16 x1, .int .i16 x2, .int .i16 x3, .slice EA en ec, .slice PA pn pc, .slice SA sn sc].all (·.oneCell')) = true :=
  ⟨Try.glsize, rfl, by rw [← Array.all_toList]; rfl⟩

/-- A Reader, the result's block, and a block of an outline under way. -/
structure RG (w wr : World) (B b : Nat) (zs : List Int) (i bx : Nat) (cs : Array Value) : Prop where
  rd : RdQ wr B b zs i
  gr : w.grownBy wr (some b)
  out : wr.heap[w.heap.size]? = some (.cells glZ 44 (0, 0))
  box : wr.heap[bx]? = some (.cells cs 44 (0, 0))
  lb : b < w.heap.size
  lx : w.heap.size < bx
section
variable {w wr w' : World} {B b : Nat} {zs : List Int} {i j bx : Nat} {cs : Array Value}
theorem RG.ask (h : RG w wr B b zs i bx cs) (hr : RdQ w' B b zs j) (hg : wr.grownBy w' (some b)) : RG w w' B b zs j bx cs := by
  have h1 := h.lb
  have h2 := h.lx
  exact ⟨hr, grown_trans h.gr hg, (hg.block _ (lt_of_block h.out) (by intro e; cases e; omega)).trans h.out, (hg.block _ (lt_of_block h.box) (by intro e; cases e; omega)).trans h.box, h1, h2⟩
theorem RG.set (h : RG w wr B b zs i bx cs) (q : Nat) (v : Value) : RG w (wr.setCell ⟨bx, q, none⟩ v) B b zs i bx (cs.setIfInBounds q v) := by
  have h1 := h.lb
  have h2 := h.lx
  exact ⟨rdq_other h.rd h.box (by decide) (by omega) q v, grown_new (by omega) q v h.gr, (Below.heap_setCell wr _ v _ (show w.heap.size ≠ bx by omega)).trans h.out, set_block h.box q v, h1, h2⟩
theorem RG.below (h : RG w wr B b zs i bx cs) (hb : Below wr.heap.size wr w') : RG w w' B b zs i bx cs :=
  ⟨h.rd.below hb, grown_trans h.gr (grown_of_below hb _), kept_block h.out hb, kept_block h.box hb, h.lb, h.lx⟩
theorem RG.drew (h : RG w wr B b zs i bx cs) : RG w wr.drew B b zs i bx cs := h.below (Below.refl _ _).drew
theorem RG.cell (h : RG w wr B b zs i bx cs) (q : Nat) (v : Value) (hq : cs[q]? = some v) : wr.cell? ⟨bx, q, none⟩ = some v := (cell_of_row wr _ q _ _ _ h.box).trans hq
theorem RG.thaw (h : RG w wr B b zs i bx cs) (o : Nat) : wr.frozen? ⟨bx, o, none⟩ = false := thawed h.box o
/-- A store into what lies behind, of another kind. -/
theorem RG.other (h : RG w wr B b zs i bx cs) {g t : Nat} {cur : Array Value} (hc : wr.heap[g]? = some (.cells cur t (0, 0))) (h8 : t ≠ 5) (hgl : t ≠ 44) (hw : w.heap.size ≤ g) (q : Nat) (v : Value) : RG w (wr.setCell ⟨g, q, none⟩ v) B b zs i bx cs := by
  have h1 := h.lb
  have e1 : w.heap.size ≠ g := by
    rintro rfl
    have := h.out
    rw [hc] at this
    simp at this
    exact hgl this.2
  have e2 : bx ≠ g := by
    rintro rfl
    have := h.box
    rw [hc] at this
    simp at this
    exact hgl this.2
  exact ⟨rdq_other h.rd hc h8 (by omega) q v, grown_new hw q v h.gr, (Below.heap_setCell wr _ v _ e1).trans h.out, (Below.heap_setCell wr _ v _ e2).trans h.box, h1, h.lx⟩
end

/-- The Box so far. -/
def bxAt (zs : List Int) (k j : Nat) : Int := if j < k then sgn (n2at zs (2 + 2 * j)) else 0
def bxC (zs : List Int) (k : Nat) : Array Value := #[.int .i16 (bxAt zs k 0), .int .i16 (bxAt zs k 1), .int .i16 (bxAt zs k 2), .int .i16 (bxAt zs k 3), .slice none 0 0, .slice none 0 0, .slice none 0 0]
theorem bxC_set (zs : List Int) {k : Nat} (h : k < 4) : (bxC zs k).setIfInBounds k (.int .i16 (sgn (n2at zs (2 + 2 * k)))) = bxC zs (k + 1) := by
  match k, h with
  | 0, _ => simp [bxC, bxAt]
  | 1, _ => simp [bxC, bxAt]
  | 2, _ => simp [bxC, bxAt]
  | 3, _ => simp [bxC, bxAt]
theorem bxC_get (zs : List Int) {k : Nat} (h : k < 4) : (bxC zs k)[k]? = some (.int .i16 0) := by
  match k, h with
  | 0, _ => simp [bxC, bxAt]
  | 1, _ => simp [bxC, bxAt]
  | 2, _ => simp [bxC, bxAt]
  | 3, _ => simp [bxC, bxAt]
theorem bxC_0 (zs : List Int) : bxC zs 0 = glZ := by simp [bxC, bxAt, glZ]
theorem bxC_4 (zs : List Int) : bxC zs 4 = #[.int .i16 (sgn (n2at zs 2)), .int .i16 (sgn (n2at zs 4)), .int .i16 (sgn (n2at zs 6)), .int .i16 (sgn (n2at zs 8)), .slice none 0 0, .slice none 0 0, .slice none 0 0] := by simp [bxC, bxAt]

/-- 'make([]T, n)' for numbers, n of two bytes with a sign. -/
theorem wpList_make_ints16 {P : Program} {w : World} {ops : Array Oper} {rest : List Oper} {o : Oper} {a : Act} {Q : Exit → Act → World → Prop} (hg : o.guard = none) (l c : Operand) (T : TypeId) (hop : o.op = Op.makeSlice T l c)
    (t : TypeId) (k : IntKind) (B : Nat) (i : TypeInfo) (b : Nat) (h1 : P.underlying T = some (.slice t)) (h2 : P.info? t = some i) (h3 : i.zero = some (.int k 0)) (h4 : i.size = 1) (h5 : i.bytes = b)
    (L C : Int) (n m : Nat) (hl : a.eval l = .int .i16 L) (hc : a.eval c = .int .i16 C) (hL : L = (n : Int)) (hC : C = (m : Int)) (hnm : n ≤ m) (b2 : b * m ≤ 281474976710656) (b3 : m ≤ 9223372036854775807) (b4 : B ≤ w.heap.size)
    (hK : ∀ w', Own t k w' B (some ⟨w.heap.size, 0, none⟩) n m (List.replicate n 0) → w.grownBy w' none → wpList P ops Q rest (a.put o.dst (.slice (some ⟨w.heap.size, 0, none⟩) n m)) w') : wpList P ops Q (o :: rest) a w := by
  refine wpList_plain hg fun K hK' => ?_
  subst hL hC h5
  have hb' : (i.bytes : Int) * (m : Int) ≤ 281474976710656 := by
    have h : ((i.bytes * m : Nat) : Int) ≤ 281474976710656 := by omega
    rwa [Int.natCast_mul] at h
  have hr := run_make (P := P) w T t i (.int k 0) h1 h2 h3 .i16 .i16 n m (by omega) (by omega) hb' (by omega)
  simp only [Int.toNat_natCast, h4, Nat.mul_one] at hr
  unfold Oper.wp
  simp [execOp, hop, hl, hc, hr, Result.andThen]
  refine hK' _ _ (hK _ ?_ (World.grownBy_alloc w _ none))
  refine ⟨by rw [cellsOf_length, List.length_replicate]; omega, .inr ⟨w.heap.size, m, _, rfl, b4, heap_alloc_new w _, hnm, by simp only [maxLen]; omega, by rw [size_madeCells, Nat.mul_one], ?_⟩⟩
  rw [Nat.mul_one]
  apply List.ext_getElem?
  intro j
  by_cases hj : j < n
  · simp [madeCells, cellsOf, hj, Nat.mod_one, Value.cells, show j < m by omega]
  · simp [List.getElem?_take, hj, cellsOf]

/-- An outline is read. -/
def oGood (zs : List Int) (s : FS) : Prop := n2at zs 0 ≤ 32767 ∧ riseN (oEs zs (n2at zs 0).toNat) (n2at zs 0).toNat = true ∧ oFs zs (n2at zs 0).toNat = some s ∧ oPk zs s = true
def oTold (zs : List Int) (s : FS) : Gl := ⟨sgn (n2at zs 2), sgn (n2at zs 4), sgn (n2at zs 6), sgn (n2at zs 8), oEs zs (n2at zs 0).toNat, told (zs.drop (12 + 2 * (n2at zs 0).toNat)) (oSz zs (n2at zs 0).toNat), oPs zs s (cntE (oEs zs (n2at zs 0).toNat))⟩

def glV0 : GlV := ⟨⟨0, 0, 0, 0, [], [], []⟩, none, 0, 0, none, 0, 0, none, 0, 0⟩

/-- The lists of an outline lie in blocks of other kinds. -/
def GlV.apart (w : World) (v : GlV) : Prop := ∀ g, (blockOf v.EA = some g ∨ blockOf v.PA = some g ∨ blockOf v.SA = some g) → ∃ cur t, w.heap[g]? = some (.cells cur t (0, 0)) ∧ t ≠ 44
theorem GlV.apart.below {w w' : World} {v : GlV} (h : v.apart w) (hb : Below w.heap.size w w') : v.apart w' := fun g hg => by
  obtain ⟨cur, t, hc, ht⟩ := h g hg
  exact ⟨cur, t, kept_block hc hb, ht⟩
theorem GlV.apart.ne {w : World} {v : GlV} (h : v.apart w) {q : Nat} {cs : Array Value} (hq : w.heap[q]? = some (.cells cs 44 (0, 0))) {g : Nat} (hg : blockOf v.EA = some g ∨ blockOf v.PA = some g ∨ blockOf v.SA = some g) : g ≠ q := by
  rintro rfl
  obtain ⟨cur, t, hc, ht⟩ := h g hg
  rw [hq] at hc
  simp at hc
  exact ht hc.2.symm
theorem GlV.rows.row {w : World} {v : GlV} (h : v.rows w) (ha : v.apart w) {q : Nat} {cs : Array Value} (hq : w.heap[q]? = some (.cells cs 44 (0, 0))) (cs' : Array Value) : v.rows (w.setRow q cs') :=
  ⟨h.es.keep (by simp) (fun g e _ => setRow_other _ _ _ _ (ha.ne hq (.inl e))), h.pr.keep (by simp) (fun g e _ => setRow_other _ _ _ _ (ha.ne hq (.inr (.inl e)))), h.ps.keep (by simp) (fun g e _ => setRow_other _ _ _ _ (ha.ne hq (.inr (.inr e))))⟩

/-- What read leaves. -/
def RetRead (w : World) (B b : Nat) (zs : List Int) (e : Ending) (w' : World) : Prop :=
  w.grownBy w' (some b) ∧ (((∀ s, ¬ oGood zs s) ∧ ∃ (v : GlV) (j : Nat), e = .returned (.tuple #[v.val, .bool false]) ∧ RdQ w' B b zs j)
    ∨ (∃ s v, oGood zs s ∧ e = .returned (.tuple #[v.val, .bool true]) ∧ GlV.rows w' v ∧ GlV.apart w' v ∧ v.g = oTold zs s ∧ RdQ w' B b zs (oEnd zs s) ∧ v.sn ≤ v.sc))

/-- The same with the Ends' row. -/
structure RE (w wr : World) (B b : Nat) (zs : List Int) (i bx : Nat) (cs : Array Value) (gp n : Nat) (xs : List Int) : Prop where
  g : RG w wr B b zs i bx cs
  own : Own 39 .u16 wr w.heap.size (some ⟨gp, 0, none⟩) n n xs
section
variable {w wr w' : World} {B b : Nat} {zs : List Int} {i j bx gp n : Nat} {cs : Array Value} {xs : List Int}
theorem RE.ask (h : RE w wr B b zs i bx cs gp n xs) (hr : RdQ w' B b zs j) (hg : wr.grownBy w' (some b)) : RE w w' B b zs j bx cs gp n xs :=
  ⟨h.g.ask hr hg, h.own.grown hg (fun q e he => by have := (h.own.from_ q e).1; have := h.g.lb; cases he; omega)⟩
theorem RE.below (h : RE w wr B b zs i bx cs gp n xs) (hb : Below wr.heap.size wr w') : RE w w' B b zs i bx cs gp n xs := ⟨h.g.below hb, h.own.below hb⟩
theorem RE.drew (h : RE w wr B b zs i bx cs gp n xs) : RE w wr.drew B b zs i bx cs gp n xs := h.below (Below.refl _ _).drew
theorem RE.set (h : RE w wr B b zs i bx cs gp n xs) (q : Nat) (v : Value) : RE w (wr.setCell ⟨bx, q, none⟩ v) B b zs i bx (cs.setIfInBounds q v) gp n xs :=
  ⟨h.g.set q v, h.own.keep (fun g e => Below.heap_setCell wr _ v _ (own_neS h.own h.g.box (by decide) g e))⟩
theorem RE.setE (h : RE w wr B b zs i bx cs gp n xs) (q : Nat) (x : Int) : RE w (wr.setCell ⟨gp, q, none⟩ (.int .u16 x)) B b zs i bx cs gp n (xs.set q x) := by
  obtain ⟨cur, hc⟩ := h.own.block
  exact ⟨h.g.other hc (by decide) (by decide) (h.own.from_ gp rfl).1 q _, h.own.set q x⟩
theorem RE.cellE (h : RE w wr B b zs i bx cs gp n xs) {k : Nat} {z : Int} (hz : xs[k]? = some z) : wr.cell? ⟨gp, k, none⟩ = some (.int .u16 z) := by
  obtain ⟨gg, off, e', _, hc⟩ := h.own.row.at (cellsOf_get (k := .u16) hz)
  simp only [Option.some.injEq, Addr.mk.injEq, and_true] at e'
  obtain ⟨rfl, rfl⟩ := e'
  rwa [Nat.zero_add] at hc
end

/-- The result's block written whole. -/
theorem RG.row {w wr : World} {B b : Nat} {zs : List Int} {i bx : Nat} {cs : Array Value} (h : RG w wr B b zs i bx cs) (cs' : Array Value) :
    (wr.setRow w.heap.size cs').heap[w.heap.size]? = some (.cells cs' 44 (0, 0)) ∧ w.grownBy (wr.setRow w.heap.size cs') (some b) ∧ RdQ (wr.setRow w.heap.size cs') B b zs i := by
  have h1 := h.lb
  have h2 := h.out
  refine ⟨setRow_heap wr w.heap.size glZ cs' 44 (0, 0) h2, ⟨h.gr.os, h.gr.tape, h.gr.output, by simpa using h.gr.size, fun k hk hne => (setRow_other wr w.heap.size k cs' (by omega)).trans (h.gr.block k hk hne)⟩, h.rd.keep (by simp) (fun g hg _ ho => setRow_other wr w.heap.size g cs' (by
      rintro rfl
      rcases ho with e | ⟨cur, hc⟩
      · omega
      · rw [h2] at hc
        simp at hc))⟩

/-- The same with the Program's row. -/
structure RP (w wr : World) (B b : Nat) (zs : List Int) (i bx : Nat) (cs : Array Value) (gp n : Nat) (xs : List Int) (PA : Option Addr) (pn : Nat) (pr : List Int) : Prop where
  e : RE w wr B b zs i bx cs gp n xs
  pr : Row wr PA pn (cellsOf .u8 pr)
  blk : ∀ g, blockOf PA = some g → ∃ cur, wr.heap[g]? = some (.cells cur 5 (0, 0))
section
variable {w wr w' : World} {B b : Nat} {zs : List Int} {i j bx gp n pn : Nat} {cs : Array Value} {xs pr : List Int} {PA : Option Addr}
theorem RP.ask (h : RP w wr B b zs i bx cs gp n xs PA pn pr) (hr : RdQ w' B b zs j) (hg : wr.grownBy w' (some b)) : RP w w' B b zs j bx cs gp n xs PA pn pr := by
  have hne : ∀ g, blockOf PA = some g → some g ≠ some b := fun g e he => by
    cases he
    obtain ⟨cur, hc⟩ := h.blk b e
    obtain ⟨cs, h2⟩ := h.e.g.rd.block
    exact u8_ne_rd hc h2 rfl
  exact ⟨h.e.ask hr hg, h.pr.grown hg hne, fun g e => by
    obtain ⟨cur, hc⟩ := h.blk g e
    exact ⟨cur, (hg.block g (lt_of_block hc) (hne g e)).trans hc⟩⟩
theorem RP.below (h : RP w wr B b zs i bx cs gp n xs PA pn pr) (hb : Below wr.heap.size wr w') : RP w w' B b zs i bx cs gp n xs PA pn pr :=
  ⟨h.e.below hb, h.pr.below hb, fun g e => by
    obtain ⟨cur, hc⟩ := h.blk g e
    exact ⟨cur, kept_block hc hb⟩⟩
theorem RP.set (h : RP w wr B b zs i bx cs gp n xs PA pn pr) (q : Nat) (v : Value) : RP w (wr.setCell ⟨bx, q, none⟩ v) B b zs i bx (cs.setIfInBounds q v) gp n xs PA pn pr := by
  have hne : ∀ g, blockOf PA = some g → g ≠ bx := fun g e he => by
    subst he
    obtain ⟨cur, hc⟩ := h.blk g e
    have := h.e.g.box
    rw [hc] at this
    simp at this
  exact ⟨h.e.set q v, h.pr.keep (by simp [World.setCell]) (fun g e _ => Below.heap_setCell wr _ v _ (hne g e)), fun g e => by
    obtain ⟨cur, hc⟩ := h.blk g e
    exact ⟨cur, (Below.heap_setCell wr _ v _ (hne g e)).trans hc⟩⟩
end
theorem cntE_le {l : List Int} (h : ∀ x ∈ l, 0 ≤ x ∧ x < 65536) : cntE l ≤ 65536 := by
  unfold cntE
  split
  · omega
  · rename_i hl
    have := h (l.getD (l.length - 1) 0) (by rw [List.getD_eq_getElem?_getD, List.getElem?_eq_getElem (by omega)]; exact List.getElem_mem _)
    omega
theorem oEs_bd {zs : List Int} (hB : Bytes zs) (n : Nat) : ∀ x ∈ oEs zs n, 0 ≤ x ∧ x < 65536 := by
  intro x hx
  simp only [oEs, List.mem_map] at hx
  obtain ⟨i, _, rfl⟩ := hx
  exact n2at_lt hB _

set_option maxRecDepth 100000 in
set_option maxHeartbeats 4000000 in
theorem oread_any {w : World} {B b : Nat} {zs : List Int} (h : RdQ w B b zs 0) (hB : Bytes zs) (hl : zs.length ≤ 1000000) :
    Calls Try.prog 159 #[.pointer (some ⟨b, 0, none⟩)] w (RetRead w B b zs) := by
  obtain ⟨i0, hi, hz0, hz1, hz2⟩ := info_parts Try.u16info
  have HB := Lib.hid hB
  have hlt0 := h.lt
  have hA := (Below.refl w.heap.size w).alloc (Nat.le_refl _) (.cells glZ 44)
  have hk := heap_alloc_new w (.cells glZ 44)
  have hrd := h.below hA
  have hg0 := grown_of_below hA (some b)
  have H0 := Lib.hid (rdq_i16 hrd hB (by omega))
  obtain ⟨n0, n1⟩ := n2at_lt hB 0
  obtain ⟨s0, s1⟩ := sgn_bd n0 n1
  have HNo : Hid (∀ (w' : World) (v : GlV) j, (∀ s, ¬ oGood zs s) → w.grownBy w' (some b) → RdQ w' B b zs j → RetRead w B b zs (.returned (.tuple #[v.val, .bool false])) w') := fun w' v j h1 h3 h4 => ⟨h3, .inl ⟨h1, v, j, rfl, h4⟩⟩
  clear h hB hrd
  unfold glZ at hA hk H0 hg0
  go_enter Try.func159, Try.ntmps159
  go_wp2_with fail
  with_reducible refine H0.out.mono ?_
  rintro e w1 ⟨rfl, h1, g1⟩
  have hk1 := (g1.block w.heap.size (by simp) (by intro e; cases e; omega)).trans hk
  have hg1 := grown_trans hg0 g1
  clear H0 hA hg0 g1 hk
  by_cases hneg : 32767 < n2at zs 0
  · have hsn : sgn (n2at zs 0) < 0 := by unfold sgn; rw [if_pos hneg]; omega
    have HX : Hid (∀ s, ¬ oGood zs s) := fun s hs => by have := hs.1; omega
    have KR := Lib.hid (setRow_heap w1 w.heap.size glZ glZ 44 (0, 0) hk1)
    have hs1 := hg1.size
    have HG : Hid (w.grownBy (w1.setRow w.heap.size glZ) (some b)) := ⟨hg1.os, hg1.tape, hg1.output, by simpa using hs1, fun k hk hne => (setRow_other w1 w.heap.size k glZ (by omega)).trans (hg1.block k hk hne)⟩
    have HR : Hid (RdQ (w1.setRow w.heap.size glZ) B b zs 2) := h1.keep (by simp) (fun g hg _ ho => setRow_other w1 w.heap.size g glZ (by
      rintro rfl
      rcases ho with e | ⟨cur, hc⟩
      · omega
      · rw [hk1] at hc
        simp at hc))
    unfold glZ at KR HG HR
    clear hneg
    go_wp2_with (with_reducible refine wpList_store_row rfl 44 (.tmp 2) (.tmp 13) rfl w.heap.size #[.int .i16 0, .int .i16 0, .int .i16 0, .int .i16 0, .slice none 0 0, .slice none 0 0, .slice none 0 0] rfl rfl 44 #[.int .i16 0, .int .i16 0, .int .i16 0, .int .i16 0, .slice none 0 0, .slice none 0 0, .slice none 0 0] hk1 (gl7 _ _ _ _ _ _ _ _ _ _ _ _ _).1 (gl7 _ _ _ _ _ _ _ _ _ _ _ _ _).2.1 (gl7 _ _ _ _ _ _ _ _ _ _ _ _ _).2.2 ?_)
    exact bodyPost_ret (v := .tuple #[.agg glZ, .bool false]) (results_two2 Try.results159 _ _ w.heap.size 44 _ (0, 0) _ rfl rfl KR.out Try.underlying44 rfl (glSize rfl)) rfl (HNo.out _ glV0 _ HX.out HG.out HR.out)
  · obtain ⟨n, hn⟩ : ∃ n : Nat, n2at zs 0 = (n : Int) := ⟨(n2at zs 0).toNat, by omega⟩
    have hn' : sgn (n2at zs 0) = (n : Int) := by unfold sgn; rw [if_neg hneg]; exact hn
    have hnt : (n2at zs 0).toNat = n := by omega
    have Hnt := Lib.hid hnt
    have Hle : Hid (n2at zs 0 ≤ 32767) := Int.not_lt.1 hneg
    have hn3 : n ≤ 32767 := by omega
    rw [hn']
    clear hneg hn hn' hnt n0 n1 s0 s1
    have hA2 := (Below.refl w1.heap.size w1).alloc (Nat.le_refl _) (.cells glZ 44)
    have hs1 := hg1.size
    have hs : RG w (w1.alloc (.cells glZ 44)) B b zs (2 + 2 * 0) w1.heap.size (bxC zs 0) := by
      rw [bxC_0]
      exact ⟨h1.below hA2, grown_trans hg1 (grown_of_below hA2 _), kept_block hk1 hA2, heap_alloc_new w1 _, hlt0, lt_of_block hk1⟩
    clear h1 hg1 hk1 hA2
    unfold glZ at hs
    go_wp2
    generalize w1.alloc _ = V1 at *
    generalize w1.heap.size = bx at *
    go_loopw [14] (fun i' wr => ∃ k : Nat, k ≤ 4 ∧ i' = .int .i64 k ∧ RG w wr B b zs (2 + 2 * k) bx (bxC zs k)) (fun i' _ => 4 - (intOf i').toNat)
    case atStart => exact ⟨0, Nat.zero_le _, rfl, hs⟩
    case round =>
      clear hs
      obtain ⟨k, hk, rfl, hs⟩ := hrel
      by_cases hlt : k < 4
      · have HI := Lib.hid (rdq_i16 hs.rd HB.out (by omega))
        have HC := Lib.hid (bxC_set zs hlt)
        have HCg := Lib.hid (bxC_get zs hlt)
        go_wp2_with fail
        with_reducible refine HI.out.mono ?_
        rintro e w2 ⟨rfl, h2, g2⟩
        have hs2 := hs.ask h2 g2
        have c0 := hs2.cell k _ HCg.out
        have f0 := hs2.thaw k
        have hs3 := hs2.set k (.int .i16 (sgn (n2at zs (2 + 2 * k))))
        rw [HC.out, show 2 + 2 * k + 2 = 2 + 2 * (k + 1) by omega] at hs3
        have H3 := Lib.hid hs3
        have ik0 : (0 : Int) ≤ (k : Int) := by omega
        have ik1 : (k : Int) < 4 := by omega
        clear hs h2 g2 hs2 hs3 HI HC HCg
        go_wp2
        go_roundw
        case rel => exact ⟨k + 1, by omega, by go_num, H3.out⟩
        case measure => simp [intOf]; omega
      · obtain rfl : k = 4 := by omega
        rw [bxC_4] at hs
        have HT : Hid (∀ s, oTold zs s = ⟨sgn (n2at zs 2), sgn (n2at zs 4), sgn (n2at zs 6), sgn (n2at zs 8), oEs zs n, told (zs.drop (12 + 2 * n)) (oSz zs n), oPs zs s (cntE (oEs zs n))⟩) := fun s => by unfold oTold; rw [Hnt.out]
        generalize sgn (n2at zs 2) = X0 at *
        generalize sgn (n2at zs 4) = X1 at *
        generalize sgn (n2at zs 6) = X2 at *
        generalize sgn (n2at zs 8) = X3 at *
        go_wp2_with (at_make; refine wpList_make_ints16 rfl (.tmp 23) (.tmp 23) _ rfl 39 .u16 w.heap.size i0 2 Try.underlying40 hi hz0 hz1 hz2 _ _ n n rfl rfl rfl rfl (by omega) (by omega) (by omega) hs.gr.size ?_; intro w2 hown2 hg2; have hb2 := below_of_grown hg2 (Nat.le_refl _) (fun k e => by cases e); have hs2 := hs.below hb2; have c4 := hs2.cell 4 _ rfl; have f4 := hs2.thaw 4)
        have hs3 : RE w (w2.setCell ⟨bx, 4, none⟩ (.slice (some ⟨wr.heap.size, 0, none⟩) n n)) B b zs (10 + 2 * 0) bx #[.int .i16 X0, .int .i16 X1, .int .i16 X2, .int .i16 X3, .slice (some ⟨wr.heap.size, 0, none⟩) n n, .slice none 0 0, .slice none 0 0] wr.heap.size n (oEs zs 0 ++ List.replicate (n - 0) 0) :=
          (RE.mk hs2 hown2 : RE w w2 B b zs 10 bx _ wr.heap.size n (List.replicate n 0)).set 4 _
        clear hs hs2 hown2 hg2 hb2 c4 f4 hi hz0 hz1 hz2 hlt hk
        generalize wr.heap.size = gp at *
        generalize w2.setCell ⟨bx, 4, none⟩ (.slice (some ⟨gp, 0, none⟩) n n) = V2 at *
        go_loopw [29] (fun i' wr => ∃ k : Nat, k ≤ n ∧ i' = .int .i64 k ∧ RE w wr B b zs (10 + 2 * k) bx #[.int .i16 X0, .int .i16 X1, .int .i16 X2, .int .i16 X3, .slice (some ⟨gp, 0, none⟩) n n, .slice none 0 0, .slice none 0 0] gp n (oEs zs k ++ List.replicate (n - k) 0)) (fun i' _ => n - (intOf i').toNat)
        case atStart => exact ⟨0, Nat.zero_le _, rfl, hs3⟩
        case round =>
          clear hs3
          obtain ⟨k, hk, rfl, hs⟩ := hrel
          by_cases hlt : k < n
          · obtain ⟨z, hz⟩ : ∃ z, (oEs zs k ++ List.replicate (n - k) 0)[k]? = some z := ⟨_, List.getElem?_eq_getElem (by simp [oEs_len]; omega)⟩
            have HZ := Lib.hid hz
            have HST := Lib.hid (oEs_set zs k n hlt)
            have HI : Hid (∀ W, RdQ W B b zs (10 + 2 * k) → Calls Try.prog 137 #[.pointer (some ⟨b, 0, none⟩)] W (RetQ W B b (.int .u16 (n2at zs (10 + 2 * k))) zs (10 + 2 * k + 2))) := fun W h => rdq_u16 h HB.out (by omega)
            have i0' : (0 : Int) ≤ (k : Int) := by omega
            have i1' : (k : Int) < (n : Int) := by omega
            clear hz
            replace hs := hs.drew
            go_upto_region 14 with fail
            go_region_held3 (fun w' => w'.cell? ⟨bx, 4, none⟩ = some (.slice (some ⟨gp, 0, none⟩) n n))
              (first | exact hs.g.cell 4 _ rfl | exact (hs.setE k (n2at zs (10 + 2 * k))).g.cell 4 _ rfl)
              (((go_at_call 137; (with_reducible refine (HI.out _ hs.g.rd).mono ?_); rintro e w3 ⟨rfl, h3, g3⟩; replace hs := hs.ask h3 g3; have q0 := hs.cellE HZ.out; have f0 := hs.own.thaw k; clear h3 g3)))
            have hs4 := hs.setE k (n2at zs (10 + 2 * k))
            rw [HST.out, show 10 + 2 * k + 2 = 10 + 2 * (k + 1) by omega] at hs4
            have H4 := Lib.hid hs4
            clear hs hs4 HI HST HZ
            go_wp2
            go_roundw
            case rel => exact ⟨k + 1, by omega, by go_num, H4.out⟩
            case measure => simp [intOf]; omega
          · obtain rfl : k = n := by omega
            rw [Nat.sub_self, List.replicate_zero, List.append_nil] at hs
            clear hs1 hlt0 hk
            have c4 := hs.g.cell 4 _ rfl
            have HRi := Lib.hid (orise_any (some ⟨gp, 0, none⟩) k k (oEs zs k) wr hs.own.row (by omega))
            go_wp2_with fail
            clear hlt
            with_reducible refine HRi.out.mono ?_
            rintro e w5 ⟨rfl, rfl⟩
            clear HRi c4
            cases hri : riseN (oEs zs k) k with
            | false =>
              have HX : Hid (∀ s, ¬ oGood zs s) := fun s h2 => by have := h2.2.1; rw [Hnt.out, hri] at this; cases this
              obtain ⟨KR, HG, HR⟩ := hs.g.row glZ
              have hout := hs.g.out
              have KR' := Lib.hid KR
              have HG' := Lib.hid HG
              have HR' := Lib.hid HR
              unfold glZ at KR' HG' HR' hout
              clear KR HG HR hs hri HT
              go_wp2_with (with_reducible refine wpList_store_row rfl 44 (.tmp 2) (.tmp 43) rfl w.heap.size #[.int .i16 0, .int .i16 0, .int .i16 0, .int .i16 0, .slice none 0 0, .slice none 0 0, .slice none 0 0] rfl rfl 44 #[.int .i16 0, .int .i16 0, .int .i16 0, .int .i16 0, .slice none 0 0, .slice none 0 0, .slice none 0 0] hout (gl7 _ _ _ _ _ _ _ _ _ _ _ _ _).1 (gl7 _ _ _ _ _ _ _ _ _ _ _ _ _).2.1 (gl7 _ _ _ _ _ _ _ _ _ _ _ _ _).2.2 ?_)
              exact bodyPost_ret (v := .tuple #[.agg glZ, .bool false]) (results_two2 Try.results159 _ _ w.heap.size 44 _ (0, 0) _ rfl rfl KR'.out Try.underlying44 rfl (glSize rfl)) rfl (HNo.out _ glV0 _ HX.out HG'.out HR'.out)
            | true =>
              have HGood : Hid (∀ s, oFs zs k = some s → oPk zs s = true → oGood zs s) := fun s h1 h2 => ⟨Hle.out, by rw [Hnt.out]; exact hri, by rw [Hnt.out]; exact h1, h2⟩
              have HBad : Hid (∀ s, oGood zs s → oFs zs k = some s ∧ oPk zs s = true) := fun s h => by have := h.2.2; rw [Hnt.out] at this; exact this
              have hsz : n2at zs (10 + 2 * k) = ((oSz zs k : Nat) : Int) := by unfold oSz; have := (n2at_lt HB.out (10 + 2 * k)).1; omega
              have HU := Lib.hid (rdq_u16 hs.g.rd HB.out (by omega))
              rw [hsz] at HU
              have hsl : oSz zs k < 65536 := by have := (n2at_lt HB.out (10 + 2 * k)).2; omega
              clear hsz hri
              go_wp2_with fail
              with_reducible refine HU.out.mono ?_
              rintro e w6 ⟨rfl, h6, g6⟩
              have hs6 := hs.ask h6 g6
              rw [show 10 + 2 * k + 2 = 12 + 2 * k by omega] at hs6
              have HTk := Lib.hid (rdq_takeAny hs6.g.rd (by omega) (oSz zs k))
              clear hs h6 g6 HU
              go_wp2_with fail
              with_reducible refine HTk.out.mono ?_
              rintro e w7 ⟨PA, pn, pc, rfl, hpr, hblk, h7, g7⟩
              have hs7 : RP w w7 B b zs (oA zs k) bx #[.int .i16 X0, .int .i16 X1, .int .i16 X2, .int .i16 X3, .slice (some ⟨gp, 0, none⟩) k k, .slice none 0 0, .slice none 0 0] gp k (oEs zs k) PA pn (told (zs.drop (12 + 2 * k)) (oSz zs k)) := ⟨hs6.ask h7 g7, hpr, fun g e => (hblk g e).2⟩
              obtain ⟨b0, b1, b2, b3, b4, b5, b6⟩ := cells7 hs7.e.g.box
              have f5 := hs7.e.g.thaw 5
              have hs8 := hs7.set 5 (.slice PA pn pc)
              clear hs6 hs7 hpr hblk h7 g7 HTk
              have hs9 : RP w (w7.setCell ⟨bx, 5, none⟩ (.slice PA pn pc)) B b zs (oA zs k) bx #[.int .i16 X0, .int .i16 X1, .int .i16 X2, .int .i16 X3, .slice (some ⟨gp, 0, none⟩) k k, .slice PA pn pc, .slice none 0 0] gp k (oEs zs k) PA pn (told (zs.drop (12 + 2 * k)) (oSz zs k)) := hs8
              clear hs8
              generalize told (zs.drop (12 + 2 * k)) (oSz zs k) = pr at *
              have hrs : GlV.rows (w7.setCell ⟨bx, 5, none⟩ (.slice PA pn pc)) ⟨⟨X0, X1, X2, X3, oEs zs k, pr, []⟩, some ⟨gp, 0, none⟩, k, k, PA, pn, pc, none, 0, 0⟩ := ⟨hs9.e.own.row, hs9.pr, RowS.empty _ _⟩
              have HCt : Hid (Calls Try.prog 47 #[.agg #[.int .i16 X0, .int .i16 X1, .int .i16 X2, .int .i16 X3, .slice (some ⟨gp, 0, none⟩) k k, .slice PA pn pc, .slice none 0 0]] (w7.setCell ⟨bx, 5, none⟩ (.slice PA pn pc)) (Ret (w7.setCell ⟨bx, 5, none⟩ (.slice PA pn pc)) (.int .i64 (cntE (oEs zs k) : Nat)))) := ocount_any _ _ hrs (by show k ≤ 1000000; omega) (oEs_bd HB.out k)
              have hcn := cntE_le (oEs_bd HB.out k)
              clear hrs
              go_wp2_with fail
              clear b0 b1 b2 b3 b4 b5 b6 f5
              generalize w7.setCell ⟨bx, 5, none⟩ (.slice PA pn pc) = V3 at *
              with_reducible refine HCt.out.mono ?_
              rintro e w8 ⟨rfl, hb8⟩
              have hs10 := hs9.below hb8
              have HPt := Lib.hid (opoints_any (cntE (oEs zs k)) hs10.e.g.rd HB.out hl (by omega))
              clear hs9 hb8 HCt
              go_wp2_with fail
              with_reducible refine HPt.out.mono ?_
              rintro e w9 ⟨hg9, ⟨hno, rfl, j, hrd⟩ | ⟨s, SA, sc, hyes, hpk, rfl, hps, hrd⟩⟩
              · have HX : Hid (∀ s, ¬ oGood zs s) := fun s h2 => by
                  have h3 := HBad.out s h2
                  rw [hno s h3.1] at h3
                  cases h3.2
                have hs11 := hs10.ask hrd hg9
                obtain ⟨b0, b1, b2, b3, b4, b5, b6⟩ := cells7 hs11.e.g.box
                have f6 := hs11.e.g.thaw 6
                have hs12 : RP w (w9.setCell ⟨bx, 6, none⟩ (.slice none 0 0)) B b zs j bx #[.int .i16 X0, .int .i16 X1, .int .i16 X2, .int .i16 X3, .slice (some ⟨gp, 0, none⟩) k k, .slice PA pn pc, .slice none 0 0] gp k (oEs zs k) PA pn pr := hs11.set 6 (.slice none 0 0)
                obtain ⟨KR, HG, HR⟩ := hs12.e.g.row #[.int .i16 X0, .int .i16 X1, .int .i16 X2, .int .i16 X3, .slice (some ⟨gp, 0, none⟩) k k, .slice PA pn pc, .slice none 0 0]
                have KR' := Lib.hid KR
                have HG' := Lib.hid HG
                have HR' := Lib.hid HR
                have hout := hs12.e.g.out
                unfold glZ at hout
                clear hno hrd hg9 hs10 hs11 hs12 KR HG HR HPt HGood HBad HT
                go_wp2_with (with_reducible refine wpList_store_row rfl 44 (.tmp 2) (.tmp 58) rfl w.heap.size #[.int .i16 X0, .int .i16 X1, .int .i16 X2, .int .i16 X3, .slice (some ⟨gp, 0, none⟩) k k, .slice PA pn pc, .slice none 0 0] rfl rfl 44 #[.int .i16 0, .int .i16 0, .int .i16 0, .int .i16 0, .slice none 0 0, .slice none 0 0, .slice none 0 0] hout (gl7 _ _ _ _ _ _ _ _ _ _ _ _ _).1 (gl7 _ _ _ _ _ _ _ _ _ _ _ _ _).2.1 (gl7 _ _ _ _ _ _ _ _ _ _ _ _ _).2.2 ?_)
                exact bodyPost_ret (v := .tuple #[.agg #[.int .i16 X0, .int .i16 X1, .int .i16 X2, .int .i16 X3, .slice (some ⟨gp, 0, none⟩) k k, .slice PA pn pc, .slice none 0 0], .bool false]) (results_two2 Try.results159 _ _ w.heap.size 44 _ (0, 0) _ rfl rfl KR'.out Try.underlying44 rfl (glSize rfl)) rfl (HNo.out _ ⟨⟨X0, X1, X2, X3, [], [], []⟩, some ⟨gp, 0, none⟩, k, k, PA, pn, pc, none, 0, 0⟩ _ HX.out HG'.out HR'.out)
              · have HGd := Lib.hid (HGood.out s hyes hpk)
                have hs11 := hs10.ask hrd hg9
                obtain ⟨b0, b1, b2, b3, b4, b5, b6⟩ := cells7 hs11.e.g.box
                have f6 := hs11.e.g.thaw 6
                have hs12 : RP w (w9.setCell ⟨bx, 6, none⟩ (.slice SA (cntE (oEs zs k)) sc)) B b zs (oEnd zs s) bx #[.int .i16 X0, .int .i16 X1, .int .i16 X2, .int .i16 X3, .slice (some ⟨gp, 0, none⟩) k k, .slice PA pn pc, .slice SA (cntE (oEs zs k)) sc] gp k (oEs zs k) PA pn pr := hs11.set 6 _
                have hbxs : w.heap.size ≤ w8.heap.size := hs10.e.g.gr.size
                have hps2 : OwnS 54 encSp 3 (w9.setCell ⟨bx, 6, none⟩ (.slice SA (cntE (oEs zs k)) sc)) w.heap.size SA (cntE (oEs zs k)) sc (oPs zs s (cntE (oEs zs k))) := (hps.mono hbxs).keep (fun q e => Below.heap_setCell w9 _ _ _ (by
                  rintro rfl
                  have h1 := (hps.from_ _ e).1
                  have h2 := lt_of_block hs10.e.g.box
                  omega))
                obtain ⟨KR, HG, HR⟩ := hs12.e.g.row #[.int .i16 X0, .int .i16 X1, .int .i16 X2, .int .i16 X3, .slice (some ⟨gp, 0, none⟩) k k, .slice PA pn pc, .slice SA (cntE (oEs zs k)) sc]
                have hout := hs12.e.g.out
                have hap : GlV.apart (w9.setCell ⟨bx, 6, none⟩ (.slice SA (cntE (oEs zs k)) sc)) ⟨⟨X0, X1, X2, X3, oEs zs k, pr, oPs zs s (cntE (oEs zs k))⟩, some ⟨gp, 0, none⟩, k, k, PA, pn, pc, SA, cntE (oEs zs k), sc⟩ := by
                  rintro g (e | e | e)
                  · simp [blockOf] at e
                    subst e
                    obtain ⟨cur, hc⟩ := hs12.e.own.block
                    exact ⟨cur, _, hc, by decide⟩
                  · obtain ⟨cur, hc⟩ := hs12.blk _ e
                    exact ⟨cur, _, hc, by decide⟩
                  · rcases hps2.shape with ⟨e2, _⟩ | ⟨g', cur, e2, _, _, hh, _⟩
                    · rw [e2] at e
                      simp [blockOf] at e
                    · rw [e2] at e
                      simp [blockOf] at e
                      subst e
                      exact ⟨cur, _, hh, by decide⟩
                have hrw : GlV.rows (w9.setCell ⟨bx, 6, none⟩ (.slice SA (cntE (oEs zs k)) sc)) ⟨⟨X0, X1, X2, X3, oEs zs k, pr, oPs zs s (cntE (oEs zs k))⟩, some ⟨gp, 0, none⟩, k, k, PA, pn, pc, SA, cntE (oEs zs k), sc⟩ := ⟨hs12.e.own.row, hs12.pr, hps2.row encSp_len⟩
                have HSc := Lib.hid hps.cap
                have HRows := Lib.hid (hrw.row hap hout #[.int .i16 X0, .int .i16 X1, .int .i16 X2, .int .i16 X3, .slice (some ⟨gp, 0, none⟩) k k, .slice PA pn pc, .slice SA (cntE (oEs zs k)) sc])
                have HAp : Hid (GlV.apart ((w9.setCell ⟨bx, 6, none⟩ (.slice SA (cntE (oEs zs k)) sc)).setRow w.heap.size #[.int .i16 X0, .int .i16 X1, .int .i16 X2, .int .i16 X3, .slice (some ⟨gp, 0, none⟩) k k, .slice PA pn pc, .slice SA (cntE (oEs zs k)) sc]) ⟨⟨X0, X1, X2, X3, oEs zs k, pr, oPs zs s (cntE (oEs zs k))⟩, some ⟨gp, 0, none⟩, k, k, PA, pn, pc, SA, cntE (oEs zs k), sc⟩) := fun g hg => by
                  obtain ⟨cur, t, hc, ht⟩ := hap g hg
                  exact ⟨cur, t, (setRow_other _ _ _ _ (hap.ne hout hg)).trans hc, ht⟩
                clear hap hrw
                have KR' := Lib.hid KR
                have HG' := Lib.hid HG
                have HR' := Lib.hid HR
                have HTs := Lib.hid (HT.out s)
                unfold glZ at hout
                clear hyes hpk hps hps2 hbxs hrd hg9 hs10 hs11 hs12 KR HG HR HPt HGood HBad HT
                generalize cntE (oEs zs k) = cn at *
                go_wp2_with (with_reducible refine wpList_store_row rfl 44 (.tmp 2) (.tmp 58) rfl w.heap.size #[.int .i16 X0, .int .i16 X1, .int .i16 X2, .int .i16 X3, .slice (some ⟨gp, 0, none⟩) k k, .slice PA pn pc, .slice SA cn sc] rfl rfl 44 #[.int .i16 0, .int .i16 0, .int .i16 0, .int .i16 0, .slice none 0 0, .slice none 0 0, .slice none 0 0] hout (gl7 _ _ _ _ _ _ _ _ _ _ _ _ _).1 (gl7 _ _ _ _ _ _ _ _ _ _ _ _ _).2.1 (gl7 _ _ _ _ _ _ _ _ _ _ _ _ _).2.2 ?_)
                exact bodyPost_ret (v := .tuple #[.agg #[.int .i16 X0, .int .i16 X1, .int .i16 X2, .int .i16 X3, .slice (some ⟨gp, 0, none⟩) k k, .slice PA pn pc, .slice SA cn sc], .bool true]) (results_two2 Try.results159 _ _ w.heap.size 44 _ (0, 0) _ rfl rfl KR'.out Try.underlying44 rfl (glSize rfl)) rfl ⟨HG'.out, .inr ⟨s, _, HGd.out, rfl, HRows.out, HAp.out, by rw [HTs.out], HR'.out, HSc.out⟩⟩

end Go.Proofs.Ytdaeffnaoeblpaa
