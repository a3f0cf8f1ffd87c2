/- simple: readChange, readPlaces, readFlags, as contracts over this seat's translation. -/
import Derived.Test.YtlcnonhebppeiaaSimA
import Derived.Test.YtlcnonhebppeiaaRdQ
import Derived.Test.YtlcnonhebppeiaaTwo
namespace Go.Proofs.Ytlcnonhebppeiaa
open Go.RowKit
set_option linter.unusedVariables false

section
variable {w w' : World} {B b : Nat} {zs : List Int} {i : Nat}
theorem rdq_u8 (h : RdQ w B b zs i) (hB : Bytes zs) (hl : zs.length ≤ 140737488351232) : Calls Try.prog 106 #[.pointer (some ⟨b, 0, none⟩)] w (RetQ w B b (.int .u8 (n1at zs i)) zs (i + 1)) := by
  rcases h with ⟨hi, h⟩ | ⟨hi, a, a0, a1, h⟩
  · exact (u8_any B b _ _ _ w h (drop_bytes hB _) (by rw [List.length_drop]; omega) (by omega) (by omega)).mono fun e w' ⟨he, hr, hg⟩ => ⟨he, rdq_good hi hr, hg⟩
  · refine (u8_any B b _ _ _ w h (fun x hx => by cases hx) (by simp) a0 (by omega)).mono fun e w' ⟨he, hr, hg⟩ => ⟨?_, rdq_bad (by omega) hi a0 a1 hr, hg⟩
    unfold n1at
    rw [drop_past hi]
    exact he
theorem rdq_takeAny (h : RdQ w B b zs i) (hl : zs.length ≤ 140737488351232) (m : Nat) : Calls Try.prog 96 #[.pointer (some ⟨b, 0, none⟩), .int .i64 m] w (RetQT w B b (told (zs.drop i) m) zs (i + m)) := by
  rcases Nat.eq_zero_or_pos m with h0 | h0
  · subst h0
    rcases h with ⟨hi, h⟩ | ⟨hi, a, a0, a1, h⟩
    · exact (take_any B b _ _ _ w h (by rw [List.length_drop]; omega) (by omega) (by omega) 0).mono fun e w' ⟨A, n, c, he, h1, h2, hr, hg⟩ => ⟨A, n, c, he, h1, h2, rdq_good hi hr, hg⟩
    · refine (take_any B b _ _ _ w h (by simp) a0 (by omega) 0).mono fun e w' ⟨A, n, c, he, h1, h2, hr, hg⟩ => ⟨A, n, c, he, ?_, h2, .inr ⟨by omega, a, a0, a1, ?_⟩, hg⟩
      · rw [drop_past hi]
        exact h1
      · have e1 : rest [] 0 = [] := rfl
        have e2 : gone [] a 0 = a := by simp [gone]
        have e3 : badn [] true 0 = true := rfl
        rw [e1, e2, e3] at hr
        exact hr
  · exact rdq_take h hl m h0
theorem rdq_at (h : RdQ w B b zs i) (hi : i ≤ zs.length) : Calls Try.prog 64 #[.pointer (some ⟨b, 0, none⟩)] w fun e w' => e = .returned (.int .i64 i) ∧ w = w' := by
  rcases h with ⟨_, h⟩ | ⟨h, _⟩
  · exact at_any B b _ _ _ w h
  · omega
end

def cwB (s p : Bool) : Nat := if s then 1 else if p then 0 else 2
def cvB (zs : List Int) (s p : Bool) (i : Nat) : Int := if s then (if p then n1at zs i else - n1at zs i) else if p then 0 else sgn (n2at zs i)
theorem cvB_eq (zs : List Int) (sh pl f : Int) (i : Nat) : cvB zs (fb f sh) (fb f pl) i = cv zs sh pl f i := rfl
theorem cwB_eq (sh pl f : Int) : cwB (fb f sh) (fb f pl) = cw sh pl f := rfl
theorem sgn_bd {n : Int} (h0 : 0 ≤ n) (h1 : n < 65536) : -32768 ≤ sgn n ∧ sgn n ≤ 32767 := by unfold sgn; split <;> omega
theorem cv_bd {zs : List Int} (hB : Bytes zs) (sh pl f : Int) (i : Nat) : -32768 ≤ cv zs sh pl f i ∧ cv zs sh pl f i ≤ 32767 := by
  have h1 := n1at_lt hB i
  have h2 := n2at_lt hB i
  have h3 := sgn_bd h2.1 h2.2
  unfold cv
  split
  · split <;> omega
  · split <;> omega

theorem orchange_any (s p : Bool) {w : World} {B b : Nat} {zs : List Int} {i : Nat} (h : RdQ w B b zs i) (hB : Bytes zs) (hl : zs.length ≤ 140737488351232) :
    Calls Try.prog 107 #[.pointer (some ⟨b, 0, none⟩), .bool s, .bool p] w (RetQ w B b (.int .i64 (cvB zs s p i)) zs (i + cwB s p)) := by
  have H1 := Lib.hid (rdq_u8 h hB hl)
  have H2 := Lib.hid (rdq_i16 h hB hl)
  have h1 := n1at_lt hB i
  have h2 := n2at_lt hB i
  have h3 := sgn_bd h2.1 h2.2
  have H0 : Hid (RetQ w B b (.int .i64 0) zs (i + 0) (.returned (.int .i64 0)) w) := ⟨rfl, h, World.grownBy.refl w _⟩
  obtain ⟨h10, h11⟩ := h1
  obtain ⟨h30, h31⟩ := h3
  clear h hB h2
  cases s <;> cases p
  · show Calls _ _ _ _ (RetQ w B b (.int .i64 (sgn (n2at zs i))) zs (i + 2))
    go_enter Try.func107, Try.ntmps107
    go_wp2_with fail
    refine H2.out.mono ?_
    rintro e w1 ⟨rfl, h5, h6⟩
    go_wp2
    go_ret
    exact ⟨rfl, h5, h6⟩
  · show Calls _ _ _ _ (RetQ w B b (.int .i64 0) zs (i + 0))
    go_enter Try.func107, Try.ntmps107
    go_wp2
    go_ret
    exact H0.out
  · show Calls _ _ _ _ (RetQ w B b (.int .i64 (- n1at zs i)) zs (i + 1))
    go_enter Try.func107, Try.ntmps107
    go_wp2_with fail
    refine H1.out.mono ?_
    rintro e w1 ⟨rfl, h5, h6⟩
    go_wp2
    go_ret
    exact ⟨rfl, h5, h6⟩
  · show Calls _ _ _ _ (RetQ w B b (.int .i64 (n1at zs i)) zs (i + 1))
    go_enter Try.func107, Try.ntmps107
    go_wp2_with fail
    refine H1.out.mono ?_
    rintro e w1 ⟨rfl, h5, h6⟩
    go_wp2
    go_ret
    exact ⟨rfl, h5, h6⟩

/-- A Reader, and a fresh row of numbers beside it. -/
structure LK (t : TypeId) (k : IntKind) (w wr : World) (B b : Nat) (zs : List Int) (i gp n : Nat) (xs : List Int) : Prop where
  rd : RdQ wr B b zs i
  own : Own t k wr w.heap.size (some ⟨gp, 0, none⟩) n n xs
  ne : gp ≠ b
  gr : w.grownBy wr (some b)
section
variable {t : TypeId} {k : IntKind} {w wr w' : World} {B b : Nat} {zs : List Int} {i j gp n : Nat} {xs : List Int}
theorem LK.ask (h : LK t k w wr B b zs i gp n xs) (hr : RdQ w' B b zs j) (hg : wr.grownBy w' (some b)) : LK t k w w' B b zs j gp n xs :=
  ⟨hr, h.own.grown hg (fun g e => by simp [blockOf] at e; subst e; intro e; cases e; exact h.ne rfl), h.ne, grown_trans h.gr hg⟩
theorem LK.set (h : LK t k w wr B b zs i gp n xs) (ht : t ≠ 5) (q : Nat) (x : Int) : LK t k w (wr.setCell ⟨gp, q, none⟩ (.int k x)) B b zs i gp n (xs.set q x) := by
  obtain ⟨cur, hc⟩ := h.own.block
  exact ⟨rdq_other h.rd hc ht h.ne q _, h.own.set q x, h.ne, grown_new (h.own.from_ gp rfl).1 q _ h.gr⟩
end

theorem Try.i16info : (Try.prog.info? 22).map (fun i => (i.zero, i.size, i.bytes)) = some (some (.int .i16 0), 1, 2) := by kernel_rfl

/-- What telling places leaves. -/
def RetPk (w : World) (B b : Nat) (zs : List Int) (sh pl : Int) (fl : List Int) (i n : Nat) (e : Ending) (w' : World) : Prop :=
  w.grownBy w' (some b) ∧ ((pkOk zs sh pl fl i n = false ∧ e = .returned (.tuple #[.slice none 0 0, .bool false]) ∧ ∃ j, RdQ w' B b zs j)
    ∨ (pkOk zs sh pl fl i n = true ∧ ∃ gp, e = .returned (.tuple #[.slice (some ⟨gp, 0, none⟩) n n, .bool true]) ∧ Own 22 .i16 w' w.heap.size (some ⟨gp, 0, none⟩) n n (pkVs zs sh pl fl i n) ∧ RdQ w' B b zs (pkAt zs sh pl fl i n).1))

set_option maxRecDepth 100000 in
set_option maxHeartbeats 2000000 in
theorem oplaces_any (sh pl : Int) (hsh : ∀ f, 0 ≤ f → f ≤ 255 → (bits .and .u8 f sh != 0) = fb f sh) (hpl : ∀ f, 0 ≤ f → f ≤ 255 → (bits .and .u8 f pl != 0) = fb f pl)
    (A : Option Addr) (n c : Nat) (fl : List Int) {w : World} {B b : Nat} {zs : List Int} {i : Nat} (h : RdQ w B b zs i) (hB : Bytes zs) (hl : zs.length ≤ 1000000) (hr : Row w A n (cellsOf .u8 fl)) (hfl : Bytes fl) (hn : n ≤ 1000000) (hA : 0 < n → blockOf A ≠ some b) :
    Calls Try.prog 105 #[.pointer (some ⟨b, 0, none⟩), .slice A n c, .int .u8 sh, .int .u8 pl] w (RetPk w B b zs sh pl fl i n) := by
  obtain ⟨i0, hi, hz0, hz1, hz2⟩ := info_parts Try.i16info
  have Hl := Lib.hid hr.len
  have HA := Lib.hid hA
  have Hr := Lib.hid hr
  have HB := Lib.hid hB
  have HFl := Lib.hid hfl
  have Hsh := Lib.hid hsh
  have Hpl := Lib.hid hpl
  have hlt0 := h.lt
  clear hA hr hB hfl hsh hpl
  go_enter Try.func105, Try.ntmps105
  go_wp2_with (at_make; refine wpList_make_ints rfl (.tmp 15) (.tmp 15) _ rfl 22 .i16 w.heap.size i0 2 Try.underlying161 hi hz0 hz1 hz2 _ _ n n rfl rfl (by omega) (by omega) (Nat.le_refl _) (by omega) (by omega) (Nat.le_refl _) ?_; intro w1 hown1 hg1)
  have hs : LK 22 .i16 w w1 B b zs (pkAt zs sh pl fl i 0).1 w.heap.size n (pkVs zs sh pl fl i 0 ++ List.replicate (n - 0) 0) :=
    ⟨h.keep hg1.size (fun q hq _ _ => hg1.block q hq (by simp)), hown1, by omega, grown_of_below (below_of_grown hg1 (Nat.le_refl _) (fun k e => by cases e)) _⟩
  clear hown1 hg1 h hi hz0 hz1 hz2
  generalize w.heap.size = gp at hs ⊢
  go_loopw [11, 19] (fun a i' wr => ∃ k : Nat, k ≤ n ∧ i' = .int .i64 k ∧ a = .int .i64 (pkAt zs sh pl fl i k).2 ∧ Hid (pkOk zs sh pl fl i k = true) ∧ LK 22 .i16 w wr B b zs (pkAt zs sh pl fl i k).1 gp n (pkVs zs sh pl fl i k ++ List.replicate (n - k) 0)) (fun _ i' _ => n - (intOf i').toNat)
  case atStart => exact ⟨0, Nat.zero_le _, rfl, rfl, Lib.hid rfl, hs⟩
  case round =>
    clear hs
    obtain ⟨k, hk, rfl, rfl, hok, hs⟩ := hrel
    obtain ⟨p0, p1⟩ := pkOk_at hok.out (Nat.le_refl _)
    by_cases hlt : k < n
    · obtain ⟨f, hf⟩ := get_some (zs := fl) (k := k) (by have := Hl.out; omega)
      obtain ⟨f0, f1⟩ := HFl.out f (List.mem_of_getElem? hf)
      have hfd : fl.getD k 0 = f := by simp [hf]
      have hrow : Row wr A n (cellsOf .u8 fl) := Hr.out.ask hs.gr HA.out
      obtain ⟨g, off, rfl, hg, hc⟩ := hrow.at (cellsOf_get (k := .u8) hf)
      have e1 := Hsh.out f f0 f1
      have e2 := Hpl.out f f0 f1
      have hS1 : (pkAt zs sh pl fl i (k + 1)).1 = (pkAt zs sh pl fl i k).1 + cwB (fb f sh) (fb f pl) := by show _ + cw sh pl (fl.getD k 0) = _; rw [hfd]; rfl
      have hS2 : (pkAt zs sh pl fl i (k + 1)).2 = (pkAt zs sh pl fl i k).2 + cvB zs (fb f sh) (fb f pl) (pkAt zs sh pl fl i k).1 := by show _ + cv zs sh pl (fl.getD k 0) _ = _; rw [hfd]; rfl
      obtain ⟨d0, d1⟩ := cv_bd HB.out sh pl f (pkAt zs sh pl fl i k).1
      rw [← cvB_eq] at d0 d1
      have HC := Lib.hid (orchange_any (fb f sh) (fb f pl) hs.rd HB.out (by omega))
      have HOs := Lib.hid (pkOk_succ zs sh pl fl i k)
      have HON : Hid (fitsB (pkAt zs sh pl fl i (k + 1)).2 = false → pkOk zs sh pl fl i n = false) := fun hh => pkOk_not hh hlt
      have HST := Lib.hid (pkVs_set zs sh pl fl i k n hlt)
      rw [← hS1] at HC
      rw [hS2] at HOs HON HST
      have HS2 := Lib.hid hS2
      clear hf hfd hrow hS1 hS2
      generalize fb f sh = s at *
      generalize fb f pl = p at *
      generalize (pkAt zs sh pl fl i k).2 = a at *
      generalize cvB zs s p (pkAt zs sh pl fl i k).1 = d at *
      go_wp2_with fail
      with_reducible refine HC.out.mono ?_
      rintro e w2 ⟨rfl, h2, g2⟩
      have hs2 := hs.ask h2 g2
      clear hs h2 g2 HC hc e1 e2
      have HF := Lib.hid (ofits_any (a + d) w2)
      go_wp2_with fail
      with_reducible refine HF.out.mono ?_
      rintro e w3 ⟨rfl, rfl⟩
      cases hfb : fitsB (a + d) with
      | false =>
        have HN := Lib.hid (HON.out hfb)
        clear HOs HON HST HF hfb
        go_wp2
        go_ret2
        exact ⟨hs2.gr, .inl ⟨HN.out, rfl, _, hs2.rd⟩⟩
      | true =>
        obtain ⟨q0, q1⟩ := fitsB_true hfb
        have HT : Hid (pkOk zs sh pl fl i (k + 1) = true) := by show _ = _; rw [HOs.out, hok.out, hfb]; rfl
        have hs4 := hs2.set (by decide) k (a + d)
        rw [HST.out] at hs4
        have H4 := Lib.hid hs4
        obtain ⟨z, hz⟩ : ∃ z, (pkVs zs sh pl fl i k ++ List.replicate (n - k) 0)[k]? = some z := ⟨_, List.getElem?_eq_getElem (by simp [pkVs_len]; omega)⟩
        obtain ⟨gg, off', e', _, hc⟩ := hs2.own.row.at (cellsOf_get (k := .i16) hz)
        simp only [Option.some.injEq, Addr.mk.injEq, and_true] at e'
        obtain ⟨rfl, rfl⟩ := e'
        have fz := hs2.own.thaw k
        rw [Nat.zero_add] at hc
        clear HOs HON HST HF hfb hs4 hs2 hz
        go_wp2
        go_roundw
        case rel => exact ⟨k + 1, by omega, by go_num, by rw [HS2.out], HT, H4.out⟩
        case measure => simp [intOf]; omega
    · obtain rfl : k = n := by omega
      have ho := hs.own
      rw [Nat.sub_self, List.replicate_zero, List.append_nil] at ho
      go_wp2
      go_ret2
      exact ⟨hs.gr, .inr ⟨hok.out, gp, rfl, ho, hs.rd⟩⟩

end Go.Proofs.Ytlcnonhebppeiaa
