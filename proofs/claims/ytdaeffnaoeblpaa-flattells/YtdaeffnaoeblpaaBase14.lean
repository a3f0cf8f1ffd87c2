/- What the laws of this seat lean on: FlE FlF FlG AppS FlV FlH FlI FlJ. -/
import Derived.Defers
import Derived.Deep.QuietTactic
import Derived.BigQuiet
import Derived.StillTailTactics
import Derived.Maps.AppendAt
import Derived.Test.YtdaeffnaoeblpaaBase1
import Derived.Test.YtdaeffnaoeblpaaBase8
import Derived.Test.YtdaeffnaoeblpaaBase9
import Derived.Test.YtdaeffnaoeblpaaBase10
import Derived.Test.YtdaeffnaoeblpaaBase13

/- flat: the walk's own memory, and contours in memory, as words. -/
namespace Go.Proofs.Ytdaeffnaoeblpaa
open Go.RowKit
set_option linter.unusedVariables false
set_option linter.unusedSimpArgs false

/-- A block and its type. -/
def Typed (w : World) (g : Nat) (t : TypeId) : Prop := ∃ cur, w.heap[g]? = some (.cells cur t (0, 0))
theorem Typed.lt {w : World} {g : Nat} {t : TypeId} (h : Typed w g t) : g < w.heap.size := by obtain ⟨c, h⟩ := h; exact lt_of_block h
theorem Typed.ne {w : World} {g h : Nat} {t t' : TypeId} (a : Typed w g t) (b : Typed w h t') (hn : t ≠ t') : g ≠ h := by
  rintro rfl
  obtain ⟨c, h1⟩ := a
  obtain ⟨d, h2⟩ := b
  rw [h1] at h2
  simp at h2
  exact hn h2.2
theorem Typed.keep {w w' : World} {g : Nat} {t : TypeId} (h : Typed w g t) (hk : w'.heap[g]? = w.heap[g]?) : Typed w' g t := by
  obtain ⟨c, h⟩ := h
  exact ⟨c, hk.trans h⟩
theorem OwnS.typed {α : Type} {t : TypeId} {enc : α → List Value} {k : Nat} {w : World} {B : Nat} {A : Option Addr} {n c : Nat} {l : List α} (h : OwnS t enc k w B A n c l) : ∀ g, blockOf A = some g → Typed w g t := by
  intro g hg
  rcases h.shape with ⟨rfl, _⟩ | ⟨g', cur, rfl, _, _, h2, _⟩
  · simp [blockOf] at hg
  · simp [blockOf] at hg
    subst hg
    exact ⟨cur, h2⟩
theorem Own.typed {t : TypeId} {k : IntKind} {w : World} {B : Nat} {A : Option Addr} {n c : Nat} {l : List Int} (h : Own t k w B A n c l) : ∀ g, blockOf A = some g → Typed w g t := by
  intro g hg
  rcases h.shape with ⟨rfl, _⟩ | ⟨g', cur, rfl, _, _, h2, _⟩
  · simp [blockOf] at hg
  · simp [blockOf] at hg
    subst hg
    exact ⟨cur, h2⟩

/-- A walk in memory: its glyphs' slice, the way, how many glyphs and points it has met. -/
structure WS (w : World) (gw : Nat) (GA : Option Addr) (gn gc : Nat) (WA : Option Addr) (wn wc m q : Nat) (way : List Int) : Prop where
  box : w.heap[gw]? = some (.cells #[.slice GA gn gc, .slice WA wn wc, .int .i64 m, .int .i64 q] 100 (0, 0))
  own : Own 3 .i64 w (gw + 1) WA wn wc way
theorem cells4W {w : World} {b : Nat} {t : TypeId} {x0 x1 x2 x3 : Value} (h : w.heap[b]? = some (.cells #[x0, x1, x2, x3] t (0, 0))) : w.cell? ⟨b, 0, none⟩ = some x0 ∧ w.cell? ⟨b, 1, none⟩ = some x1 ∧ w.cell? ⟨b, 2, none⟩ = some x2 ∧ w.cell? ⟨b, 3, none⟩ = some x3 :=
  ⟨cell_of_row _ _ 0 _ _ _ h, cell_of_row _ _ 1 _ _ _ h, cell_of_row _ _ 2 _ _ _ h, cell_of_row _ _ 3 _ _ _ h⟩
theorem WS.below {w w' : World} {gw : Nat} {GA : Option Addr} {gn gc : Nat} {WA : Option Addr} {wn wc m q : Nat} {way : List Int} (h : WS w gw GA gn gc WA wn wc m q way) (hb : Below w.heap.size w w') : WS w' gw GA gn gc WA wn wc m q way := ⟨kept_block h.box hb, h.own.below hb⟩
theorem WS.typed {w : World} {gw : Nat} {GA : Option Addr} {gn gc : Nat} {WA : Option Addr} {wn wc m q : Nat} {way : List Int} (h : WS w gw GA gn gc WA wn wc m q way) : Typed w gw 100 := ⟨_, h.box⟩
theorem WS.lt {w : World} {gw : Nat} {GA : Option Addr} {gn gc : Nat} {WA : Option Addr} {wn wc m q : Nat} {way : List Int} (h : WS w gw GA gn gc WA wn wc m q way) : gw < w.heap.size := lt_of_block h.box
theorem WS.apart {w : World} {gw : Nat} {GA : Option Addr} {gn gc : Nat} {WA : Option Addr} {wn wc m q : Nat} {way : List Int} (h : WS w gw GA gn gc WA wn wc m q way) : ∀ g, blockOf WA = some g → g ≠ gw := fun g hg => (h.own.typed g hg).ne h.typed (by decide)
/-- A cell of the walk, turned. -/
theorem WS.setPts {w : World} {gw : Nat} {GA : Option Addr} {gn gc : Nat} {WA : Option Addr} {wn wc m q : Nat} {way : List Int} (h : WS w gw GA gn gc WA wn wc m q way) (x : Nat) : WS (w.setCell ⟨gw, 3, none⟩ (.int .i64 x)) gw GA gn gc WA wn wc m x way := by
  refine ⟨?_, h.own.keep fun g hg => Below.heap_setCell w ⟨gw, 3, none⟩ _ g (h.apart g hg)⟩
  have h1 := set_block h.box 3 (.int .i64 x)
  simpa only [List.setIfInBounds_toArray, List.set_cons_zero, List.set_cons_succ] using h1
theorem WS.setMet {w : World} {gw : Nat} {GA : Option Addr} {gn gc : Nat} {WA : Option Addr} {wn wc m q : Nat} {way : List Int} (h : WS w gw GA gn gc WA wn wc m q way) (x : Nat) : WS (w.setCell ⟨gw, 2, none⟩ (.int .i64 x)) gw GA gn gc WA wn wc x q way := by
  refine ⟨?_, h.own.keep fun g hg => Below.heap_setCell w ⟨gw, 2, none⟩ _ g (h.apart g hg)⟩
  have h1 := set_block h.box 2 (.int .i64 x)
  simpa only [List.setIfInBounds_toArray, List.set_cons_zero, List.set_cons_succ] using h1

theorem Own.cut {t : TypeId} {k : IntKind} {w : World} {B : Nat} {A : Option Addr} {n c : Nat} {l : List Int} {x : Int} (h : Own t k w B A (n + 1) c (l ++ [x])) : Own t k w B A n c l := by
  have hl := h.len
  simp at hl
  refine ⟨by rw [cellsOf_length]; omega, ?_⟩
  rcases h.shape with ⟨_, h0, _, _⟩ | ⟨g, cur, rfl, h1, h2, h3, h4, h5, h6, h7⟩
  · simp at h0
  · refine .inr ⟨g, c, cur, rfl, h1, h3, by omega, h5, by omega, ?_⟩
    have h8 : cur.toList.take n = (cur.toList.take (n + 1)).take n := by rw [List.take_take]; congr 1; omega
    rw [Nat.mul_one, h8, h7, ← cellsOf_append, List.take_append_of_le_length (by rw [cellsOf_length]; omega), List.take_of_length_le (by rw [cellsOf_length]; omega)]
/-- The last of the way, taken off. -/
theorem WS.leave {w : World} {gw : Nat} {GA : Option Addr} {gn gc : Nat} {WA : Option Addr} {wn wc m q : Nat} {way : List Int} {x : Int} (h : WS w gw GA gn gc WA (wn + 1) wc m q (way ++ [x])) : WS (w.setCell ⟨gw, 1, none⟩ (.slice WA wn wc)) gw GA gn gc WA wn wc m q way := by
  refine ⟨?_, h.own.cut.keep fun g hg => Below.heap_setCell w ⟨gw, 1, none⟩ _ g (h.apart g hg)⟩
  have h1 := set_block h.box 1 (.slice WA wn wc)
  simpa only [List.setIfInBounds_toArray, List.set_cons_zero, List.set_cons_succ] using h1

/-- All is as it was, but for the walk's own block and the way's. -/
structure KW (gw : Nat) (WA : Option Addr) (w w' : World) : Prop where
  bel : Below gw w w'
  kept : ∀ g, g < w.heap.size → g ≠ gw → blockOf WA ≠ some g → w'.heap[g]? = w.heap[g]?
theorem KW.of {gw : Nat} {WA : Option Addr} {w w' : World} (hb : Below w.heap.size w w') (h : gw ≤ w.heap.size) : KW gw WA w w' := ⟨hb.mono h, fun g hg _ _ => hb.block g hg⟩
theorem KW.size {gw : Nat} {WA : Option Addr} {w w' : World} (h : KW gw WA w w') : w.heap.size ≤ w'.heap.size := h.bel.size
theorem KW.trans {gw : Nat} {WA WB : Option Addr} {w w1 w2 : World} (h1 : KW gw WA w w1) (h2 : KW gw WB w1 w2) (hAB : blockOf WB = blockOf WA ∨ ∀ g, blockOf WB = some g → w.heap.size ≤ g) : KW gw WA w w2 := by
  refine ⟨h1.bel.trans h2.bel, fun g hg hn hne => ?_⟩
  refine (h2.kept g (by have := h1.size; omega) hn ?_).trans (h1.kept g hg hn hne)
  intro h
  rcases hAB with e | e
  · exact hne (e ▸ h)
  · have := e g h
    omega
theorem KW.set {gw : Nat} {WA : Option Addr} {w w' : World} (h : KW gw WA w w') (o : Nat) (x : Value) : KW gw WA w (w'.setCell ⟨gw, o, none⟩ x) :=
  ⟨h.bel.setCell (p := ⟨gw, o, none⟩) (Nat.le_refl _) x, fun g hg hn hne => (Below.heap_setCell w' ⟨gw, o, none⟩ x g hn).trans (h.kept g hg hn hne)⟩
/-- What has another type than these two is kept. -/
theorem KW.same {gw : Nat} {GA : Option Addr} {gn gc : Nat} {WA : Option Addr} {wn wc m q : Nat} {way : List Int} {w w' : World} (h : KW gw WA w w') (hs : WS w gw GA gn gc WA wn wc m q way) {g : Nat} {t : TypeId} (ht : Typed w g t) (h1 : t ≠ 100) (h2 : t ≠ 3) : w'.heap[g]? = w.heap[g]? :=
  h.kept g ht.lt (ht.ne hs.typed h1) fun e => (ht.ne (hs.own.typed g e) h2) rfl

/-- Contours in memory: the rows' points lie in blocks of points. -/
def InT (tp : TypeId) (w : World) (L : List Sl) (cs : List (List Sp)) : Prop := L.length = cs.length ∧ ∀ (i : Nat) (s : Sl) (c : List Sp), L[i]? = some s → cs[i]? = some c → RowS encRp 3 w s.1 s.2.1 c ∧ s.2.1 ≤ s.2.2 ∧ ∀ g, blockOf s.1 = some g → Typed w g tp
theorem InT.keep {tp : TypeId} {w w' : World} {L : List Sl} {cs : List (List Sp)} (h : InT tp w L cs) (hs : w.heap.size ≤ w'.heap.size) (hk : ∀ g, Typed w g tp → w'.heap[g]? = w.heap[g]?) : InT tp w' L cs :=
  ⟨h.1, fun i s c a b => by
    obtain ⟨h1, h2, h3⟩ := h.2 i s c a b
    exact ⟨h1.keep hs (fun g hg _ => hk g (h3 g hg)), h2, fun g hg => (h3 g hg).keep (hk g (h3 g hg))⟩⟩
theorem InT.below {tp : TypeId} {w w' : World} {L : List Sl} {cs : List (List Sp)} (h : InT tp w L cs) (hb : Below w.heap.size w w') : InT tp w' L cs := h.keep hb.size fun g hg => hb.block g hg.lt
theorem InT.nil {tp : TypeId} (w : World) : InT tp w [] [] := ⟨rfl, fun i s c h => by simp at h⟩
theorem InT.push {tp : TypeId} {w : World} {L : List Sl} {cs : List (List Sp)} (h : InT tp w L cs) {A : Option Addr} {n k : Nat} {c : List Sp} (hr : RowS encRp 3 w A n c) (hk : n ≤ k) (ht : ∀ g, blockOf A = some g → Typed w g tp) : InT tp w (L ++ [(A, n, k)]) (cs ++ [c]) := by
  refine ⟨by simp [h.1], fun i s d a b => ?_⟩
  by_cases hi : i < L.length
  · rw [List.getElem?_append_left hi] at a
    rw [List.getElem?_append_left (by rw [← h.1]; exact hi)] at b
    exact h.2 i s d a b
  · have hi2 : i = L.length := by
      have := (List.getElem?_eq_some_iff.1 a).1
      simp at this
      omega
    subst hi2
    rw [List.getElem?_append_right (Nat.le_refl _), Nat.sub_self] at a
    rw [h.1, List.getElem?_append_right (Nat.le_refl _), Nat.sub_self] at b
    simp at a b
    subst a b
    exact ⟨hr, hk, ht⟩
/-- Contours in a row of their own. -/
def AccT (tp tq : TypeId) (w : World) (B : Nat) (A : Option Addr) (n c : Nat) (cs : List (List Sp)) : Prop := ∃ L : List Sl, OwnS tq encSl 1 w B A n c L ∧ InT tp w L cs
theorem AccT.len {tp tq : TypeId} {w : World} {B : Nat} {A : Option Addr} {n c : Nat} {cs : List (List Sp)} (h : AccT tp tq w B A n c cs) : cs.length = n := by obtain ⟨L, h1, h2⟩ := h; rw [← h2.1]; exact h1.len
theorem AccT.nil {tp tq : TypeId} (w : World) (B : Nat) : AccT tp tq w B none 0 0 [] := ⟨[], OwnS.nil _ _ _ _ _, InT.nil _⟩
theorem AccT.keep {tp tq : TypeId} {w w' : World} {B : Nat} {A : Option Addr} {n c : Nat} {cs : List (List Sp)} (h : AccT tp tq w B A n c cs) (hs : w.heap.size ≤ w'.heap.size) (hk : ∀ g t, Typed w g t → t = tq ∨ t = tp → w'.heap[g]? = w.heap[g]?) : AccT tp tq w' B A n c cs := by
  obtain ⟨L, h1, h2⟩ := h
  exact ⟨L, h1.keep fun g hg => hk g _ (h1.typed g hg) (.inl rfl), h2.keep hs fun g hg => hk g _ hg (.inr rfl)⟩
theorem AccT.below {tp tq : TypeId} {w w' : World} {B : Nat} {A : Option Addr} {n c : Nat} {cs : List (List Sp)} (h : AccT tp tq w B A n c cs) (hb : Below w.heap.size w w') : AccT tp tq w' B A n c cs := h.keep hb.size fun g t hg _ => hb.block g hg.lt
theorem AccT.mono {tp tq : TypeId} {w : World} {B B' : Nat} {A : Option Addr} {n c : Nat} {cs : List (List Sp)} (h : AccT tp tq w B A n c cs) (hB : B' ≤ B) : AccT tp tq w B' A n c cs := by
  obtain ⟨L, h1, h2⟩ := h
  exact ⟨L, h1.mono hB, h2⟩
theorem AccT.kw {gw : Nat} {GA : Option Addr} {gn gc : Nat} {WA : Option Addr} {wn wc m q : Nat} {way : List Int} {w w' : World} {B : Nat} {A : Option Addr} {n c : Nat} {cs : List (List Sp)} (h : AccT 59 51 w B A n c cs) (hk : KW gw WA w w') (hs : WS w gw GA gn gc WA wn wc m q way) : AccT 59 51 w' B A n c cs :=
  h.keep hk.size fun g t hg ht => hk.same hs hg (by rcases ht with rfl | rfl <;> decide) (by rcases ht with rfl | rfl <;> decide)

/-- The glyphs' bytes in memory. -/
def GlsIn (w : World) (GA : Option Addr) (gn : Nat) (L : List (List Int)) : Prop := ∃ S : List Sl, RowS encSl 1 w GA gn S ∧ S.length = L.length ∧ ∀ (i : Nat) (s : Sl) (z : List Int), S[i]? = some s → L[i]? = some z → Row w s.1 s.2.1 (cellsOf .u8 z) ∧ Bytes z ∧ s.2.1 ≤ 68747 ∧ s.2.1 ≤ s.2.2
theorem GlsIn.below {w w' : World} {GA : Option Addr} {gn : Nat} {L : List (List Int)} (h : GlsIn w GA gn L) (hb : Below w.heap.size w w') : GlsIn w' GA gn L := by
  obtain ⟨S, h1, h2, h3⟩ := h
  exact ⟨S, h1.below hb, h2, fun i s z a b => by
    obtain ⟨r, x⟩ := h3 i s z a b
    exact ⟨r.below hb, x⟩⟩
theorem GlsIn.len {w : World} {GA : Option Addr} {gn : Nat} {L : List (List Int)} (h : GlsIn w GA gn L) : L.length = gn := by
  obtain ⟨S, h1, h2, _⟩ := h
  rw [← h2]
  exact h1.len
theorem GlsIn.at {w : World} {GA : Option Addr} {gn : Nat} {L : List (List Int)} (h : GlsIn w GA gn L) {i : Nat} (hi : i < gn) : ∃ g off A n c, GA = some ⟨g, off, none⟩ ∧ g < w.heap.size ∧ w.cell? ⟨g, off + i, none⟩ = some (.slice A n c) ∧ Row w A n (cellsOf .u8 (L.getD i [])) ∧ Bytes (L.getD i []) ∧ n ≤ 68747 ∧ n ≤ c := by
  have hl := h.len
  obtain ⟨S, h1, h2, h3⟩ := h
  have hz : L[i]? = some (L.getD i []) := by rw [List.getD_eq_getElem?_getD, List.getElem?_eq_getElem (by omega)]; rfl
  obtain ⟨s, hs⟩ : ∃ s, S[i]? = some s := ⟨_, List.getElem?_eq_getElem (by omega)⟩
  obtain ⟨g, off, e, hg, hc⟩ := atSl h1 hs
  obtain ⟨r1, r2, r3, r4⟩ := h3 i s _ hs hz
  exact ⟨g, off, s.1, s.2.1, s.2.2, e, hg, hc, r1, r2, r3, r4⟩

end Go.Proofs.Ytdaeffnaoeblpaa

/- flat: onto the way, and off it; how many points: contracts over this seat's translation. -/
namespace Go.Proofs.Ytdaeffnaoeblpaa
open Go.RowKit
set_option linter.unusedVariables false
set_option linter.unusedSimpArgs false

theorem contains_take {l : List Int} {k : Nat} {z x : Int} (h : l[k]? = some z) : (l.take (k + 1)).contains x = ((l.take k).contains x || (x == z)) := by
  rw [List.take_add_one, h]
  simp [List.contains_eq_any_beq, List.any_append]
  rfl

set_option maxHeartbeats 1000000 in
theorem iindex_any (A : Option Addr) (n c : Nat) (l : List Int) (x : Int) (w : World) (hr : Row w A n (cellsOf .i64 l)) (hn : n ≤ 1000000) :
    Calls Try.prog 177 #[.slice A n c, .int .i64 x] w fun e w' => (∃ r : Int, e = .returned (.int .i64 r) ∧ decide (0 ≤ r) = l.contains x) ∧ w = w' := by
  have hl : l.length = n := by have := hr.len; simpa [cellsOf] using this
  have Hl := Lib.hid hl
  clear hl
  go_enter Try.func177, Try.ntmps177
  go_wp2
  go_loop [8] (fun i => ∃ k : Nat, k ≤ n ∧ i = .int .i64 k ∧ Hid ((l.take k).contains x = false)) (fun i => n - (intOf i).toNat)
  case atStart => exact ⟨0, Nat.zero_le _, rfl, Lib.hid rfl⟩
  case round =>
    obtain ⟨k, hk, rfl, HR⟩ := hrel
    by_cases hlt : k < n
    · obtain ⟨z, hz⟩ := get_some (zs := l) (k := k) (by have := Hl.out; omega)
      obtain ⟨g, off, rfl, hg, hc⟩ := hr.at (cellsOf_get (k := .i64) hz)
      by_cases hxz : x = z
      · have HM := Lib.hid (List.mem_of_getElem? hz)
        subst hxz
        clear hz HR
        go_wp2
        go_ret
        exact ⟨⟨k, rfl, by simp [HM.out]⟩, rfl⟩
      · have HS : Hid ((l.take (k + 1)).contains x = false) := by show _ = _; rw [contains_take hz, HR.out]; simp [hxz]
        clear hz HR
        go_wp2
        go_round
        case rel => exact ⟨k + 1, by omega, by go_num, HS⟩
        case measure => simp [intOf]; omega
    · obtain rfl : k = n := by omega
      have h1 : Hid (l.contains x = false) := by have h := HR.out; rwa [List.take_of_length_le (by have := Hl.out; omega)] at h
      go_wp2
      go_ret
      exact ⟨⟨-1, rfl, by have := h1.out; simp at this; simp [this]⟩, rfl⟩

theorem icontains_any (A : Option Addr) (n c : Nat) (l : List Int) (x : Int) (w : World) (hr : Row w A n (cellsOf .i64 l)) (hn : n ≤ 1000000) :
    Calls Try.prog 145 #[.slice A n c, .int .i64 x] w fun e w' => e = .returned (.bool (l.contains x)) ∧ w = w' := by
  have HI := Lib.hid (iindex_any A n c l x w hr hn)
  go_enter Try.func145, Try.ntmps145
  go_wp2_with fail
  refine HI.out.mono ?_
  rintro e w' ⟨⟨r, rfl, hd⟩, rfl⟩
  have HD := Lib.hid hd
  clear hd
  go_wp2
  go_ret
  rw [← HD.out]
  exact ⟨rfl, rfl⟩

set_option maxHeartbeats 1000000 in
theorem fcount_any (A : Option Addr) (n c : Nat) (L : List Sl) (cs : List (List Sp)) (w : World) (hr : RowS encSl 1 w A n L) (hi : InT 59 w L cs) (hn : n ≤ 1000000) (hq : ptsN cs ≤ 1000000000000) :
    Calls Try.prog 64 #[.slice A n c] w fun e w' => e = .returned (.int .i64 (ptsN cs : Nat)) ∧ w = w' := by
  have Hl : Hid (L.length = n) := hr.len
  have HIn := Lib.hid hi
  have HQ : Hid (∀ k, ptsN (cs.take k) ≤ 1000000000000) := fun k => Nat.le_trans (ptsN_le k) hq
  clear hi hq
  go_enter Try.func64, Try.ntmps64
  go_wp2
  go_loop [3, 8] (fun s i => ∃ k : Nat, k ≤ n ∧ i = .int .i64 k ∧ s = .int .i64 (ptsN (cs.take k) : Nat)) (fun _ i => n - (intOf i).toNat)
  case atStart => exact ⟨0, Nat.zero_le _, rfl, rfl⟩
  case round =>
    obtain ⟨k, hk, rfl, rfl⟩ := hrel
    by_cases hlt : k < n
    · obtain ⟨s, hs⟩ : ∃ s, L[k]? = some s := ⟨_, List.getElem?_eq_getElem (by have := Hl.out; omega)⟩
      obtain ⟨d, hd⟩ : ∃ d, cs[k]? = some d := ⟨_, List.getElem?_eq_getElem (by have := Hl.out; have := HIn.out.1; omega)⟩
      obtain ⟨g, off, rfl, hg, hc⟩ := atSl hr hs
      have hdl := (HIn.out.2 k s d hs hd).1.len
      have hT := ptsN_take hd
      have hq1 := HQ.out k
      have hq2 := HQ.out (k + 1)
      have hsn : s.2.1 ≤ 1000000000000 := by omega
      have HT : Hid (((ptsN (cs.take (k + 1)) : Nat) : Int) = (ptsN (cs.take k) : Nat) + (s.2.1 : Nat)) := by show _ = _; rw [hT, hdl]; simp
      obtain ⟨sa, sn, sc⟩ := s
      simp only at hc hdl HT hsn
      clear hs hd hT
      go_wp2
      go_round
      case rel => exact ⟨k + 1, by omega, by go_num, by rw [HT.out]⟩
      case measure => simp [intOf]; omega
    · obtain rfl : k = n := by omega
      have hE : cs.take k = cs := List.take_of_length_le (by have := Hl.out; have := HIn.out.1; omega)
      rw [hE]
      go_wp2
      go_ret
      exact ⟨rfl, rfl⟩

theorem fpoints_any (A : Option Addr) (n c : Nat) (L : List Sl) (cs : List (List Sp)) (w : World) (hr : RowS encSl 1 w A n L) (hi : InT 59 w L cs) (hn : n ≤ 1000000) (hq : ptsN cs ≤ 1000000000000) :
    Calls Try.prog 22 #[.slice A n c] w fun e w' => e = .returned (.int .i64 (ptsN cs : Nat)) ∧ w = w' := by
  have HI := Lib.hid (fcount_any A n c L cs w hr hi hn hq)
  go_enter Try.func22, Try.ntmps22
  go_wp2_with fail
  refine HI.out.mono ?_
  rintro e w' ⟨rfl, rfl⟩
  go_wp2
  go_ret
  exact ⟨rfl, rfl⟩

/-- What keeps a glyph off the way. -/
def codeE (gn : Nat) (way : List Int) (id : Int) (m : Nat) : Int := if id < 0 ∨ (gn : Int) ≤ id then 6 else if way.contains id then 8 else if 16 < way.length then 7 else if m = 20000 then 9 else 0
def RetEn (w : World) (gw : Nat) (GA : Option Addr) (gn gc : Nat) (WA : Option Addr) (wn m q : Nat) (way : List Int) (id : Int) (e : Ending) (w' : World) : Prop :=
  (codeE gn way id m ≠ 0 ∧ e = .returned (.int .i64 (codeE gn way id m)) ∧ w' = w) ∨
  (codeE gn way id m = 0 ∧ e = .returned (.int .i64 0) ∧ ∃ WA' wc', WS w' gw GA gn gc WA' (wn + 1) wc' (m + 1) q (way ++ [id]) ∧ KW gw WA w w' ∧ (blockOf WA' = blockOf WA ∨ ∀ g, blockOf WA' = some g → w.heap.size ≤ g))

theorem Try.i64infoW : (Try.prog.info? 3).map (fun i => (i.zero, i.size, i.bytes)) = some (some (.int .i64 0), 1, 8) := by kernel_rfl

set_option maxRecDepth 100000 in
set_option maxHeartbeats 2000000 in
theorem wenter_any (w : World) (gw : Nat) (GA : Option Addr) (gn gc : Nat) (WA : Option Addr) (wn wc m q : Nat) (way : List Int) (id : Int) (hs : WS w gw GA gn gc WA wn wc m q way) (hgn : gn ≤ 1000000000000) (hwn : wn ≤ 100) (hm : m ≤ 20000) (hid0 : -9223372036854775808 ≤ id) (hid1 : id ≤ 9223372036854775807) :
    Calls Try.prog 104 #[.pointer (some ⟨gw, 0, none⟩), .int .i64 id] w (RetEn w gw GA gn gc WA wn m q way id) := by
  obtain ⟨i0, hi, hz0, hz1, hz2⟩ := info_parts Try.i64infoW
  have HS := Lib.hid hs
  obtain ⟨c0, c1, c2, c3⟩ := cells4W hs.box
  have fz := fun o => thawed hs.box o
  have HC := Lib.hid (icontains_any WA wn wc way id w hs.own.row (by omega))
  have Hwl : Hid (way.length = wn) := hs.own.len
  have hlt := hs.lt
  clear hs
  go_enter Try.func104, Try.ntmps104
  by_cases h0 : id < 0 ∨ (gn : Int) ≤ id
  · have HE : Hid (codeE gn way id m = 6) := by show _ = _; unfold codeE; rw [if_pos h0]
    rcases h0 with h0 | h0
    · go_wp2_with fail
      go_ret
      exact .inl ⟨by rw [HE.out]; decide, by rw [HE.out]; rfl, rfl⟩
    · by_cases h1 : id < 0
      · exfalso; omega
      · go_wp2_with fail
        go_ret
        exact .inl ⟨by rw [HE.out]; decide, by rw [HE.out]; rfl, rfl⟩
  · have h1 : ¬ id < 0 := by omega
    have h2 : ¬ (gn : Int) ≤ id := by omega
    go_wp2_with fail
    with_reducible refine HC.out.mono ?_
    rintro e w1 ⟨rfl, rfl⟩
    cases hct : way.contains id with
    | true =>
      have HE : Hid (codeE gn way id m = 8) := by show _ = _; unfold codeE; rw [if_neg h0, if_pos hct]
      clear hct HC h0
      go_wp2_with fail
      go_ret
      exact .inl ⟨by rw [HE.out]; decide, by rw [HE.out]; rfl, rfl⟩
    | false =>
      by_cases h3 : 16 < wn
      · have HE : Hid (codeE gn way id m = 7) := by show _ = _; unfold codeE; rw [if_neg h0, if_neg (by rw [hct]; simp), if_pos (by rw [Hwl.out]; exact h3)]
        clear hct HC h0
        go_wp2_with fail
        go_ret
        exact .inl ⟨by rw [HE.out]; decide, by rw [HE.out]; rfl, rfl⟩
      · by_cases h4 : m = 20000
        · have HE : Hid (codeE gn way id m = 9) := by show _ = _; unfold codeE; rw [if_neg h0, if_neg (by rw [hct]; simp), if_neg (by rw [Hwl.out]; exact h3), if_pos h4]
          clear hct HC h0
          subst h4
          go_wp2_with fail
          go_ret
          exact .inl ⟨by rw [HE.out]; decide, by rw [HE.out]; rfl, rfl⟩
        · have HE : Hid (codeE gn way id m = 0) := by show _ = _; unfold codeE; rw [if_neg h0, if_neg (by rw [hct]; simp), if_neg (by rw [Hwl.out]; exact h3), if_neg h4]
          have h4' : ¬ ((m : Int) = 20000) := by omega
          have hs2 := HS.out.setMet (m + 1)
          have hk2 := (KW.of (WA := WA) (Below.refl w.heap.size w) (Nat.le_of_lt hlt)).set 2 (.int .i64 ((m + 1 : Nat) : Int))
          rw [show ((m + 1 : Nat) : Int) = (m : Int) + 1 by omega] at hs2 hk2
          have hwv : w.heap.size = (w.setCell ⟨gw, 2, none⟩ (.int .i64 ((m : Int) + 1))).heap.size := by simp [World.setCell]
          clear hct HC h0 HS
          go_upto_region 10 with fail
          generalize w.setCell ⟨gw, 2, none⟩ (.int .i64 ((m : Int) + 1)) = V at *
          clear c0 c1 c2 c3 fz
          have hA := (Below.refl V.heap.size V).alloc (Nat.le_refl _) (.cells #[.int .i64 id] 3)
          have hs3 := hs2.below hA
          have hrow : Row (V.alloc (.cells #[.int .i64 id] 3)) (some ⟨V.heap.size, 0, none⟩) 1 (cellsOf .i64 [id]) := (own_lit V 0 3 .i64 [id] 1 rfl (Nat.zero_le _) (by simp only [maxLen]; omega)).row
          obtain ⟨c0, c1, c2, c3⟩ := cells4W hs2.box
          have hk3 := hk2.trans (KW.of (WA := WA) hA (by have := hs2.lt; omega)) (.inl rfl)
          have HOwn := Lib.hid hs3.own
          go_wp2_with (at_builtin; refine wpList_append_at rfl (.tmp 48) (.tmp 50) _ rfl 3 .i64 (gw + 1) i0 8 Try.underlying71 hi hz0 hz1 hz2 WA wn wc way rfl HOwn.out (some ⟨V.heap.size, 0, none⟩) 1 1 [id] rfl hrow (by omega) (by omega) (by omega) (by have := hs2.lt; simp; omega) ?_)
          intro A2 c2' w5 hown5 hg5 hA2
          have hbne : ∀ g, blockOf WA = some g → g ≠ gw := hs3.apart
          have hbox5 := (hg5.block gw hs3.lt (by intro e; exact hbne gw e.symm rfl)).trans hs3.box
          have hk5 : KW gw WA w w5 := hk3.trans ⟨(Below.refl gw _).grown hg5 (Nat.le_of_lt hs3.lt) (fun k e => by have := (hs3.own.from_ k e).1; omega), fun g hg _ hne => hg5.block g hg (fun e => hne (by rw [← e]))⟩ (.inl rfl)
          have hs6 : WS (w5.setCell ⟨gw, 1, none⟩ (.slice A2 (wn + 1) c2')) gw GA gn gc A2 (wn + 1) c2' (m + 1) q (way ++ [id]) := by
            refine ⟨?_, hown5.keep fun g hg => Below.heap_setCell w5 ⟨gw, 1, none⟩ _ g ((hown5.typed g hg).ne ⟨_, hbox5⟩ (by decide))⟩
            have h1 := set_block hbox5 1 (.slice A2 (wn + 1) c2')
            simpa only [List.setIfInBounds_toArray, List.set_cons_zero, List.set_cons_succ] using h1
          have hk6 := hk5.set 1 (.slice A2 (wn + 1) c2')
          have hA3 : blockOf A2 = blockOf WA ∨ ∀ g, blockOf A2 = some g → w.heap.size ≤ g := hA2.imp (fun h => h) fun h g hg => by
            rw [h] at hg
            cases hg
            omega
          clear c0 c1 c2 c3
          obtain ⟨c0, c1, c2, c3⟩ := cells4W hbox5
          have fz := fun o => thawed hbox5 o
          have HS6 := Lib.hid hs6
          have HK6 := Lib.hid hk6
          have HA3 := Lib.hid hA3
          clear hs2 hk2 hs3 hk3 hk5 hown5 hg5 hA2 hbox5 hbne hs6 hk6 hA3 hA HOwn hrow
          go_wp2_with fail
          go_ret
          exact .inr ⟨HE.out, rfl, A2, c2', HS6.out, HK6.out, HA3.out⟩

set_option maxRecDepth 100000 in
set_option maxHeartbeats 1000000 in
theorem wleave_any (u : FrameMode) (w : World) (gw : Nat) (GA : Option Addr) (gn gc : Nat) (WA : Option Addr) (wn wc m q : Nat) (way : List Int) (x : Int) (hs : WS w gw GA gn gc WA (wn + 1) wc m q (way ++ [x])) (hwn : wn ≤ 100) :
    CallsD Try.prog 105 #[.pointer (some ⟨gw, 0, none⟩)] u w fun e u' w' => u' = u ∧ (e = .returned (.tuple #[]) ∧ w' = (w.setCell ⟨gw, 1, none⟩ (.slice WA wn wc)).drew) := by
  obtain ⟨c0, c1, c2, c3⟩ := cells4W hs.box
  have fz := fun o => thawed hs.box o
  have hcap := hs.own.cap
  clear hs
  have hwr : IntKind.i64.wrap (wn : Int) = wn := IntWalk.i64_in _ (by omega)
  have hz0 : (0 : Int) ≤ (wn : Int) := by omega
  have hz1 : (wn : Int) ≤ (wc : Int) := by omega
  go_enter_d Try.func105, Try.ntmps105
  refine wp_region_still_tail 14 (by kernel_rfl) (by kernel_rfl) ?_
  simp only [List.take_succ_cons, List.take_zero, List.drop_succ_cons, List.drop_zero]
  repeat still_step
  refine wpStill_nil ?_
  go_wp2
  go_end0
  exact ⟨rfl, rfl⟩

end Go.Proofs.Ytdaeffnaoeblpaa

/- flat: what a glyph's bytes tell: of points; and of any bytes: the program's read, as a contract over this seat's translation. -/
namespace Go.Proofs.Ytdaeffnaoeblpaa
open Go.RowKit
set_option linter.unusedVariables false
set_option linter.unusedSimpArgs false

theorem gl0_right : oRight glV0.g = true := by decide
theorem gl0_rows (w : World) : glV0.rows w := ⟨Row.empty _ _, Row.empty _ _, RowS.empty _ _⟩
theorem gl0_mid : glV0.mid := ⟨by decide, by decide, by decide⟩
theorem gl0_ok : glV0.g.ok := ⟨fun x hx => (by simp [Gl.box, glV0] at hx; omega), fun x hx => (by cases hx), fun x hx => (by cases hx), fun x hx => (by cases hx)⟩

/-- What read leaves. -/
def RetFd (w : World) (zs : List Int) (e : Ending) (w' : World) : Prop :=
  Below w.heap.size w w' ∧ (shZ zs = none → ∃ DA d dc TA t tc, e = .returned (.tuple #[.agg #[.slice DA d dc, .slice TA t tc], .bool false])) ∧ ∀ cs ps, shZ zs = some (cs, ps) → ∃ CA c cc TA t tc, e = .returned (.tuple #[.agg #[.slice CA c cc, .slice TA t tc], .bool true]) ∧ AccT 59 51 w' w.heap.size CA c cc cs ∧ RowS encPt 8 w' TA t ps ∧ t ≤ 201 ∧ ∀ g, blockOf TA = some g → ∃ t', Typed w' g t' ∧ (t' = 46 ∨ t' = 5)

/-- Contours, as Contours leaves them. -/
theorem acc_of_ct {w w' : World} {g : Gl} (hr : oRight g = true) {gp : Nat} {L : List Sl} (ho : OwnS 51 encSl 1 w' w.heap.size (some ⟨gp, 0, none⟩) g.es.length g.es.length L) (hi : ∀ i, i < g.es.length → ∃ h m, L[i]? = some (some ⟨h, 0, none⟩, m, m) ∧ gp < h ∧ (∃ cur, w'.heap[h]? = some (.cells cur 59 (0, 0))) ∧ RowS encRp 3 w' (some ⟨h, 0, none⟩) m (seg g.ps g.es i)) : AccT 59 51 w' w.heap.size (some ⟨gp, 0, none⟩) g.es.length g.es.length (ctsG g) := by
  refine ⟨L, ho, by rw [ho.len, ctsG_len hr], fun i s c a b => ?_⟩
  have hil : i < g.es.length := by have := (List.getElem?_eq_some_iff.1 a).1; rw [ho.len] at this; exact this
  obtain ⟨h, m, e, _, ht, hrow⟩ := hi i hil
  rw [e] at a
  rw [ctsG_get hr hil] at b
  cases a
  cases b
  exact ⟨hrow, Nat.le_refl _, fun q hq => by simp [blockOf] at hq; subst hq; exact ht⟩

set_option maxRecDepth 1000000 in
set_option maxHeartbeats 4000000 in
theorem fread_pts (A : Option Addr) (n c : Nat) (zs : List Int) (w : World) (hr : Row w A n (cellsOf .u8 zs)) (hB : Bytes zs) (hn : n ≤ 68747) (hc : n ≤ c) (hn0 : n ≠ 0) (hi : cIs zs = false) : Calls Try.prog 70 #[.slice A n c] w (RetFd w zs) := by
  have hl : zs.length = n := by have := hr.len; simpa [cellsOf] using this
  have HL := Lib.hid hl
  have HR := Lib.hid hr
  have HB := Lib.hid hB
  have HZ : Hid (shZ zs = match oParse zs with | some (g, a) => if fillB (zs.drop a) then some (ctsG g, []) else none | none => none) := by show _ = _; unfold shZ; rw [if_neg (by rw [hl]; exact hn0), if_neg (by rw [hi]; simp)]; rfl
  have hA := (Below.refl w.heap.size w).alloc (Nat.le_refl _) (.cells sh0 128)
  have hk := heap_alloc_new w (.cells sh0 128)
  have HI := Lib.hid (cis_any A n c zs (w.alloc (.cells sh0 128)) (hr.below hA) hB (by omega) hc)
  rw [hi] at HI
  have hn1 : ¬ ((n : Int) = 0) := by omega
  clear hr hB hl hi
  unfold sh0 at *
  go_enter Try.func70, Try.ntmps70
  go_wp2_with fail
  generalize w.alloc _ = V at *
  with_reducible refine HI.out.mono ?_
  rintro e w1 ⟨rfl, hb1⟩
  have hk1 := kept_block hk hb1
  have hbw1 := hA.trans (hb1.mono hA.size)
  have HP := Lib.hid (oparse_anyC A n c zs w1 (HR.out.below hbw1) HB.out (by omega) hc)
  clear HI hk hA hb1
  go_wp2_with fail
  with_reducible refine HP.out.mono ?_
  rintro e w2 ⟨hb2, hway⟩
  have hk2 := kept_block hk1 hb2
  have hbw2 := hbw1.trans (hb2.mono hbw1.size)
  have hlt2 := lt_of_block hk2
  clear HP hk1 hb2 hbw1
  rcases hway with ⟨hno, rfl⟩ | ⟨g, a, v, hsome, rfl, hvr, hvg, hvc⟩
  · have HRet : Hid (∀ DA d dc TA t tc W, Below w.heap.size w W → RetFd w zs (.returned (.tuple #[.agg #[.slice DA d dc, .slice TA t tc], .bool false])) W) := fun DA d dc TA t tc W h => ⟨h, fun _ => ⟨DA, d, dc, TA, t, tc, rfl⟩, fun cs ps h2 => by rw [HZ.out, hno] at h2; cases h2⟩
    clear hno HZ
    have hnew := heap_alloc_new w2 (.cells glZ 44)
    have hnew2 := heap_alloc_new w2 (.cells #[.int .i16 0, .int .i16 0, .int .i16 0, .int .i16 0, .slice none 0 0, .slice none 0 0, .slice none 0 0] 44)
    have hA3 := (Below.refl w2.heap.size w2).alloc (Nat.le_refl _) (.cells #[.int .i16 0, .int .i16 0, .int .i16 0, .int .i16 0, .slice none 0 0, .slice none 0 0, .slice none 0 0] 44)
    have hk3 := kept_block hk2 hA3
    have hbw3 := hbw2.trans (hA3.mono hbw2.size)
    have HCt : Hid (Calls Try.prog 121 #[GlV.val glV0] (w2.alloc (.cells #[.int .i16 0, .int .i16 0, .int .i16 0, .int .i16 0, .slice none 0 0, .slice none 0 0, .slice none 0 0] 44)) (RetCtF (w2.alloc (.cells #[.int .i16 0, .int .i16 0, .int .i16 0, .int .i16 0, .slice none 0 0, .slice none 0 0, .slice none 0 0] 44)) (GlV.g glV0))) := ocont_yesF glV0 _ (gl0_rows _) gl0_mid gl0_ok gl0_right (by decide)
    unfold GlV.val GlV.cells at HCt
    unfold GlV.val GlV.cells
    unfold glV0 at *
    unfold glZ at hnew
    simp only at HCt
    simp only
    clear hk2 hbw2 hA3
    go_wp2_with (first | (with_reducible refine wpList_store_row rfl 44 (.tmp 7) (.tmp 36) rfl w2.heap.size #[.int .i16 0, .int .i16 0, .int .i16 0, .int .i16 0, .slice none 0 0, .slice none 0 0, .slice none 0 0] rfl rfl 44 #[.int .i16 0, .int .i16 0, .int .i16 0, .int .i16 0, .slice none 0 0, .slice none 0 0, .slice none 0 0] hnew (gl7 _ _ _ _ _ _ _ _ _ _ _ _ _).1 (gl7 _ _ _ _ _ _ _ _ _ _ _ _ _).2.1 (gl7 _ _ _ _ _ _ _ _ _ _ _ _ _).2.2 ?_; rw [World.setRow_alloc_new]) | (with_reducible refine wpList_load_row rfl 44 (.tmp 7) rfl w2.heap.size rfl 44 #[.int .i16 0, .int .i16 0, .int .i16 0, .int .i16 0, .slice none 0 0, .slice none 0 0, .slice none 0 0] (0, 0) _ hnew2 Try.underlying44 rfl (gl7 _ _ _ _ _ _ _ _ _ _ _ _ _).1 ?_))
    generalize w2.alloc _ = w3 at *
    with_reducible refine HCt.out.mono ?_
    rintro e w4 ⟨hb4, gp, L, rfl, hown, hinn⟩
    have hk4 := kept_block hk3 hb4
    have hbw4 := hbw3.trans (hb4.mono hbw3.size)
    obtain ⟨c0, c1⟩ := cells2 hk4
    have fz := thawed hk4
    have hb5 := (hbw4.setCell (p := ⟨w.heap.size, 0, none⟩) (Nat.le_refl _) (.slice (some ⟨gp, 0, none⟩) 0 0)).setCell (p := ⟨w.heap.size, 1, none⟩) (Nat.le_refl _) (.slice none 0 0)
    have hk5 := set_block (set_block hk4 0 (.slice (some ⟨gp, 0, none⟩) 0 0)) 1 (.slice none 0 0)
    simp only [List.setIfInBounds_toArray, List.set_cons_zero, List.set_cons_succ] at hk5
    have HK5 := Lib.hid hk5
    have HB5 := Lib.hid hb5
    clear HCt hown hinn hk3 hk4 hbw3 hbw4 hb4 hb5 hk5 hnew hnew2
    go_wp2
    exact bodyPost_ret (v := .tuple #[.agg #[.slice (some ⟨gp, 0, none⟩) 0 0, .slice none 0 0], .bool false]) (results_two2 Try.results70 _ _ w.heap.size 128 _ (0, 0) _ rfl rfl HK5.out Try.underlying128 rfl Try.shapesize) rfl (HRet.out _ _ _ _ _ _ _ HB5.out)
  · subst hvg
    have hright := oParse_right HB.out hsome
    have hok := (oParse_ok HB.out hsome).1
    have hps := (oParse_ok HB.out hsome).2.2.2
    obtain ⟨m, rfl⟩ : ∃ m, a = m := ⟨a, rfl⟩
    have hmn : a ≤ n := by
      have h := (oParse_ext (ms := []) hsome).2
      have := HL.out
      omega
    have hmz : (0 : Int) ≤ (a : Int) := by omega
    have hmi : (a : Int) ≤ (n : Int) := by omega
    have hmc : (a : Int) ≤ (c : Int) := by omega
    obtain ⟨hq1, hq2, _⟩ := (oRight_parts hright).1
    have hmid : v.mid := ⟨by have h := hvr.es.len; omega, by have h := hvr.pr.len; omega, by have h := hvr.ps.len; omega⟩
    have HRn : Hid (fillB (zs.drop a) = false → ∀ DA d dc TA t tc W, Below w.heap.size w W → RetFd w zs (.returned (.tuple #[.agg #[.slice DA d dc, .slice TA t tc], .bool false])) W) := fun hf DA d dc TA t tc W h => ⟨h, fun _ => ⟨DA, d, dc, TA, t, tc, rfl⟩, fun cs ps h2 => by rw [HZ.out, hsome] at h2; simp [hf] at h2⟩
    have HRy : Hid (fillB (zs.drop a) = true → ∀ CA cn cc W, Below w.heap.size w W → AccT 59 51 W w.heap.size CA cn cc (ctsG v.g) → RetFd w zs (.returned (.tuple #[.agg #[.slice CA cn cc, .slice none 0 0], .bool true])) W) := fun hf CA cn cc W h h2 => ⟨h, fun h3 => (by rw [HZ.out, hsome] at h3; simp [hf] at h3), fun cs ps h3 => by
      rw [HZ.out, hsome] at h3
      simp only [hf, if_true, Option.some.injEq, Prod.mk.injEq] at h3
      obtain ⟨rfl, rfl⟩ := h3
      exact ⟨CA, cn, cc, none, 0, 0, rfl, h2, RowS.empty _ _, by decide, fun g hg => by simp [blockOf] at hg⟩⟩
    clear HZ hsome
    have HRt := Lib.hid hright
    have HOk := Lib.hid hok
    have HMid := Lib.hid hmid
    have HVr := Lib.hid hvr
    have HVc := Lib.hid hvc
    clear hright hok hmid hvr hvc hq1 hq2 hps
    obtain ⟨⟨x0, x1, x2, x3, es, pr, ps⟩, EA, en, ec, PA, pn, pc, SA, sn, sc⟩ := v
    have hnew := heap_alloc_new w2 (.cells glZ 44)
    have hnew2 := heap_alloc_new w2 (.cells #[.int .i16 x0, .int .i16 x1, .int .i16 x2, .int .i16 x3, .slice EA en ec, .slice PA pn pc, .slice SA sn sc] 44)
    have hA3 := (Below.refl w2.heap.size w2).alloc (Nat.le_refl _) (.cells #[.int .i16 x0, .int .i16 x1, .int .i16 x2, .int .i16 x3, .slice EA en ec, .slice PA pn pc, .slice SA sn sc] 44)
    have hk3 := kept_block hk2 hA3
    have hbw3 := hbw2.trans (hA3.mono hbw2.size)
    have HCt : Hid (Calls Try.prog 121 #[GlV.val ⟨⟨x0, x1, x2, x3, es, pr, ps⟩, EA, en, ec, PA, pn, pc, SA, sn, sc⟩] (w2.alloc (.cells #[.int .i16 x0, .int .i16 x1, .int .i16 x2, .int .i16 x3, .slice EA en ec, .slice PA pn pc, .slice SA sn sc] 44)) (RetCtF (w2.alloc (.cells #[.int .i16 x0, .int .i16 x1, .int .i16 x2, .int .i16 x3, .slice EA en ec, .slice PA pn pc, .slice SA sn sc] 44)) (GlV.g ⟨⟨x0, x1, x2, x3, es, pr, ps⟩, EA, en, ec, PA, pn, pc, SA, sn, sc⟩))) := ocont_yesF ⟨⟨x0, x1, x2, x3, es, pr, ps⟩, EA, en, ec, PA, pn, pc, SA, sn, sc⟩ _ (HVr.out.below hA3) HMid.out HOk.out HRt.out HVc.out
    unfold GlV.val GlV.cells at HCt
    unfold GlV.val GlV.cells
    unfold glZ at hnew
    simp only at HCt
    simp only
    clear hk2 hbw2 hA3
    go_wp2_with (first | (with_reducible refine wpList_store_row rfl 44 (.tmp 7) (.tmp 36) rfl w2.heap.size #[.int .i16 x0, .int .i16 x1, .int .i16 x2, .int .i16 x3, .slice EA en ec, .slice PA pn pc, .slice SA sn sc] rfl rfl 44 #[.int .i16 0, .int .i16 0, .int .i16 0, .int .i16 0, .slice none 0 0, .slice none 0 0, .slice none 0 0] hnew (gl7 _ _ _ _ _ _ _ _ _ _ _ _ _).1 (gl7 _ _ _ _ _ _ _ _ _ _ _ _ _).2.1 (gl7 _ _ _ _ _ _ _ _ _ _ _ _ _).2.2 ?_; rw [World.setRow_alloc_new]) | (with_reducible refine wpList_load_row rfl 44 (.tmp 7) rfl w2.heap.size rfl 44 #[.int .i16 x0, .int .i16 x1, .int .i16 x2, .int .i16 x3, .slice EA en ec, .slice PA pn pc, .slice SA sn sc] (0, 0) _ hnew2 Try.underlying44 rfl (gl7 _ _ _ _ _ _ _ _ _ _ _ _ _).1 ?_))
    generalize w2.alloc _ = w3 at *
    with_reducible refine HCt.out.mono ?_
    rintro e w4 ⟨hb4, gp, L, rfl, hown, hinn⟩
    have hk4 := kept_block hk3 hb4
    have hbw4 := hbw3.trans (hb4.mono hbw3.size)
    obtain ⟨c0, c1⟩ := cells2 hk4
    have fz := thawed hk4
    have hacc := (acc_of_ct HRt.out hown hinn).mono hbw3.size
    have hlen : es.length = en := by exact HVr.out.es.len
    rw [hlen] at hacc
    rw [hlen]
    have hb5 := (hbw4.setCell (p := ⟨w.heap.size, 0, none⟩) (Nat.le_refl _) (.slice (some ⟨gp, 0, none⟩) en en)).setCell (p := ⟨w.heap.size, 1, none⟩) (Nat.le_refl _) (.slice none 0 0)
    have hk5 := set_block (set_block hk4 0 (.slice (some ⟨gp, 0, none⟩) en en)) 1 (.slice none 0 0)
    simp only [List.setIfInBounds_toArray, List.set_cons_zero, List.set_cons_succ] at hk5
    have hac5 : AccT 59 51 ((w4.setCell ⟨w.heap.size, 0, none⟩ (.slice (some ⟨gp, 0, none⟩) en en)).setCell ⟨w.heap.size, 1, none⟩ (.slice none 0 0)) w.heap.size (some ⟨gp, 0, none⟩) en en (ctsG ⟨x0, x1, x2, x3, es, pr, ps⟩) := by
      refine hacc.keep (by simp [World.setCell]) fun g t ht hor => ?_
      have hne : g ≠ w.heap.size := ht.ne ⟨_, hk4⟩ (by rcases hor with rfl | rfl <;> decide)
      exact (Below.heap_setCell _ ⟨w.heap.size, 1, none⟩ _ g hne).trans (Below.heap_setCell w4 ⟨w.heap.size, 0, none⟩ _ g hne)
    have HK5 := Lib.hid hk5
    have HB5 := Lib.hid hb5
    have HA5 := Lib.hid hac5
    have hr4 := HR.out.below hbw4
    clear HCt hown hinn hk3 hk4 hbw3 hbw4 hb4 hb5 hk5 hac5 hacc hnew hnew2 hlen
    by_cases hcm : c = a
    · obtain rfl : n = a := by omega
      subst hcm
      have hr6 : Row w4 A 0 (cellsOf .u8 (zs.drop c)) := by
        rw [List.drop_of_length_le (by have := HL.out; omega)]
        exact ⟨rfl, fun h => absurd h (by omega)⟩
      have HNo := Lib.hid (ffill_any A 0 0 (zs.drop c) w4 hr6 (by omega))
      clear hr6 hr4
      go_wp2_with fail
      with_reducible refine HNo.out.mono ?_
      rintro e W ⟨rfl, rfl⟩
      obtain ⟨fl, hfl⟩ : ∃ fl, fillB (zs.drop c) = fl := ⟨_, rfl⟩
      rw [hfl]
      have HFin : Hid (RetFd w zs (.returned (.tuple #[.agg #[.slice (some ⟨gp, 0, none⟩) en en, .slice none 0 0], .bool fl])) ((w4.setCell ⟨w.heap.size, 0, none⟩ (.slice (some ⟨gp, 0, none⟩) en en)).setCell ⟨w.heap.size, 1, none⟩ (.slice none 0 0))) := by
        cases fl
        · exact HRn.out hfl _ _ _ _ _ _ _ HB5.out
        · exact HRy.out hfl _ _ _ _ HB5.out HA5.out
      clear HNo hfl
      go_wp2
      exact bodyPost_ret (v := .tuple #[.agg #[.slice (some ⟨gp, 0, none⟩) en en, .slice none 0 0], .bool fl]) (results_two2 Try.results70 _ _ w.heap.size 128 _ (0, 0) _ rfl rfl HK5.out Try.underlying128 rfl Try.shapesize) rfl HFin.out
    · have hcm2 : ¬ a = c := fun h => hcm h.symm
      have HNo := Lib.hid (ffill_any (A.map (·.add a)) (n - a) (c - a) (zs.drop a) w4 (row_dropF hr4 a) (by omega))
      clear hr4
      go_wp2_with fail
      with_reducible refine HNo.out.mono ?_
      rintro e W ⟨rfl, rfl⟩
      obtain ⟨fl, hfl⟩ : ∃ fl, fillB (zs.drop a) = fl := ⟨_, rfl⟩
      rw [hfl]
      have HFin : Hid (RetFd w zs (.returned (.tuple #[.agg #[.slice (some ⟨gp, 0, none⟩) en en, .slice none 0 0], .bool fl])) ((w4.setCell ⟨w.heap.size, 0, none⟩ (.slice (some ⟨gp, 0, none⟩) en en)).setCell ⟨w.heap.size, 1, none⟩ (.slice none 0 0))) := by
        cases fl
        · exact HRn.out hfl _ _ _ _ _ _ _ HB5.out
        · exact HRy.out hfl _ _ _ _ HB5.out HA5.out
      clear HNo hfl
      go_wp2
      exact bodyPost_ret (v := .tuple #[.agg #[.slice (some ⟨gp, 0, none⟩) en en, .slice none 0 0], .bool fl]) (results_two2 Try.results70 _ _ w.heap.size 128 _ (0, 0) _ rfl rfl HK5.out Try.underlying128 rfl Try.shapesize) rfl HFin.out

theorem fread_any (A : Option Addr) (n c : Nat) (zs : List Int) (w : World) (hr : Row w A n (cellsOf .u8 zs)) (hB : Bytes zs) (hn : n ≤ 68747) (hc : n ≤ c) : Calls Try.prog 70 #[.slice A n c] w (RetFd w zs) := by
  have hl : zs.length = n := by have := hr.len; simpa [cellsOf] using this
  by_cases h0 : n = 0
  · subst h0
    refine (fread_none A c w).mono ?_
    rintro e w' ⟨rfl, hb⟩
    have hz : shZ zs = some ([], []) := by unfold shZ; rw [if_pos hl]
    exact ⟨hb, fun h => (by rw [hz] at h; cases h), fun cs ps h => by
      rw [hz] at h
      cases h
      exact ⟨none, 0, 0, none, 0, 0, rfl, AccT.nil _ _, RowS.empty _ _, by decide, fun g hg => by simp [blockOf] at hg⟩⟩
  · cases hi : cIs zs with
    | false => exact fread_pts A n c zs w hr hB hn hc h0 hi
    | true =>
      refine (fread_parts A n c zs w hr hB hn hc h0 hi).mono ?_
      rintro e w' ⟨hb, h1, h2⟩
      have hz : shZ zs = if cOk zs && fillB (zs.drop (cgEnd zs 2)) then some ([], (cgRd zs 2).ps) else none := by unfold shZ; rw [if_neg (by omega), if_pos hi]
      cases ho : (cOk zs && fillB (zs.drop (cgEnd zs 2))) with
      | false => exact ⟨hb, fun _ => h1 ho, fun cs ps h => by rw [hz, ho] at h; cases h⟩
      | true =>
        obtain ⟨TA, t, tc, rfl, hrow, ht, hok, hty⟩ := h2 ho
        exact ⟨hb, fun h => (by rw [hz, ho] at h; cases h), fun cs ps h => by
          rw [hz, ho] at h
          cases h
          exact ⟨none, 0, 0, TA, t, tc, rfl, AccT.nil _ _, hrow, ht, fun g hg => by
            obtain ⟨cur, t', hc, ht⟩ := hty g hg
            exact ⟨t', ⟨cur, hc⟩, ht⟩⟩⟩

end Go.Proofs.Ytdaeffnaoeblpaa

/- An append onto a fresh slice of structs, and where the grown one lies. -/
namespace Go.Proofs.Ytdaeffnaoeblpaa
open Go.RowKit
set_option linter.unusedVariables false

theorem run_append_atS {P : Program} {α : Type} (w : World) (t : TypeId) (enc : α → List Value) (k : Nat) (hk : ∀ x, (enc x).length = k) (hk0 : 0 < k) (h1 : ∀ x, ∀ u ∈ enc x, u.oneCell' = true) (base T ty : Nat) (i : TypeInfo) (z : Value) (b : Nat) (ht : P.underlying T = some (.slice t)) (hi : P.info? t = some i) (hz : i.zero = some z) (hs : i.size = k) (hzs : z.cells.size = k) (hby : i.bytes = b)
    (A : Option Addr) (n c : Nat) (l : List α) (hown : OwnS t enc k w base A n c l) (A' : Option Addr) (n' c' : Nat) (l' : List α) (hr : RowS enc k w A' n' l') (hn' : 0 < n')
    (hb : (n + n') * b ≤ 140737488355328) (hm : n + n' ≤ 140737488355328) (hbase : base ≤ w.heap.size) :
    ∃ A2 c2 w', (Builtin.append_ #[T, T] ty #[.slice A n c, .slice A' n' c']).run P w = .ok (.slice A2 (n + n') c2) w' ∧ OwnS t enc k w' base A2 (n + n') c2 (l ++ l') ∧ w.grownBy w' (blockOf A) ∧ (blockOf A2 = blockOf A ∨ blockOf A2 = some w.heap.size) := by
  have hbo : (Value.slice A n c).ownBlock = blockOf A := by
    rcases hown.shape with ⟨rfl, _⟩ | ⟨g, cur, rfl, _⟩ <;> rfl
  have hyl := hr.len
  obtain ⟨g, off, rfl, hg, hc⟩ := hr.2.2 (Nat.mul_pos (by omega) hk0)
  obtain ⟨v', w', hrun, h2, h3, _, h5⟩ := run_append_own_at (P := P) (w := w) base T ty t i z k b ht hi hz hs hby hzs hk0 (.slice A n c) n (flat enc l) hown.2 ⟨g, off, none⟩ n' c' (flat enc l') (by rw [flat_length hk, hyl])
    (fun j u hu => by rw [Addr.add_lit]; exact hc j u hu) (fun u hu => by unfold flat at hu; obtain ⟨x, _, hx⟩ := List.mem_flatMap.1 hu; exact h1 x u hx) (by simp only [maxLen]; omega) hb hbase
  rw [flat_append] at h2
  obtain ⟨A2, c2, rfl, h2'⟩ := ownS_shape (by rw [List.length_append, hown.len, hyl]) h2
  have hbo2 : (Value.slice A2 (n + n') c2).ownBlock = blockOf A2 := by
    rcases h2'.shape with ⟨rfl, _⟩ | ⟨g, cur, rfl, _⟩ <;> rfl
  exact ⟨A2, c2, w', hrun, h2', by rw [← hbo]; exact h3, by rw [← hbo, ← hbo2]; exact h5⟩

/-- The same at an operation of the walk. -/
theorem wpList_append_atS {P : Program} {α : Type} {w : World} {ops : Array Oper} {rest : List Oper} {o : Oper} {a : Act} {Q : Exit → Act → World → Prop} (hgd : o.guard = none) (s x : Operand) (T : TypeId)
    (ho : o.op = .call { callee := .builtin .append, args := #[s, x], argTypes := #[T, T] }) (t : TypeId) (enc : α → List Value) (k : Nat) (hk : ∀ x, (enc x).length = k) (hk0 : 0 < k) (h1 : ∀ x, ∀ u ∈ enc x, u.oneCell' = true)
    (base : Nat) (i : TypeInfo) (z : Value) (b : Nat) (ht : P.underlying T = some (.slice t)) (hi : P.info? t = some i) (hz : i.zero = some z) (hs : i.size = k) (hzs : z.cells.size = k) (hby : i.bytes = b)
    (A : Option Addr) (n c : Nat) (l : List α) (hes : a.eval s = .slice A n c) (hown : OwnS t enc k w base A n c l) (A' : Option Addr) (n' c' : Nat) (l' : List α) (hex : a.eval x = .slice A' n' c') (hr : RowS enc k w A' n' l') (hn' : 0 < n')
    (hb : (n + n') * b ≤ 140737488355328) (hm : n + n' ≤ 140737488355328) (hbase : base ≤ w.heap.size)
    (h : ∀ A2 c2 w', OwnS t enc k w' base A2 (n + n') c2 (l ++ l') → w.grownBy w' (blockOf A) → (blockOf A2 = blockOf A ∨ blockOf A2 = some w.heap.size) → wpList P ops Q rest (a.put o.dst (.slice A2 (n + n') c2)) w') : wpList P ops Q (o :: rest) a w := by
  refine wpList_plain hgd fun _ hK => ?_
  obtain ⟨A2, c2, w', hrun, h2, h3, h4⟩ := run_append_atS (P := P) w t enc k hk hk0 h1 base T o.type i z b ht hi hz hs hzs hby A n c l hown A' n' c' l' hr hn' hb hm hbase
  unfold Oper.wp execOp
  simp only [ho, resolve, invoke, builtin, Sem.run_bind, Sem.run_pure, Result.andThen_ok, List.map_toArray, List.map_cons, List.map_nil, hes, hex, hrun]
  exact hK _ _ (h A2 c2 w' h2 h3 h4)

end Go.Proofs.Ytdaeffnaoeblpaa

/- flat: what a walk keeps: plain facts, and the doors of the program's visit. -/
namespace Go.Proofs.Ytdaeffnaoeblpaa
open Go.RowKit
set_option linter.unusedVariables false
set_option linter.unusedSimpArgs false

theorem visitZ_code (L : List (List Int)) (k : Nat) (way : List Int) (id : Int) (m q : Nat) : visitZ L (k + 1) way id m q = if codeE L.length way id m = 0 then stepZ (visitZ L k (way ++ [id])) (m + 1) q (shZ (L.getD id.toNat [])) else (codeE L.length way id m, [], m, q) := by
  show (if _ then _ else _) = _
  unfold codeE
  split
  · simp
  split
  · simp
  split
  · simp
  split
  · simp
  · simp

theorem codeE_zero {gn : Nat} {way : List Int} {id : Int} {m : Nat} (h : codeE gn way id m = 0) : ¬ (id < 0 ∨ (gn : Int) ≤ id) ∧ way.length ≤ 16 ∧ m ≠ 20000 := by
  unfold codeE at h
  split at h
  · omega
  split at h
  · omega
  split at h
  · omega
  split at h
  · omega
  rename_i a _ b c
  exact ⟨a, by omega, c⟩
theorem partsZ_step {f : Int → Nat → Nat → VR} {ps : List Pt} {j : Nat} {p : Pt} (h : ps[j]? = some p) (acc : List (List Sp)) (m q : Nat) : partsZ f (ps.drop j) acc m q = if (f p.i m q).1 = 0 then partsZ f (ps.drop (j + 1)) (acc ++ (f p.i m q).2.1.map (mvC p)) (f p.i m q).2.2.1 (f p.i m q).2.2.2 else ((f p.i m q).1, [], (f p.i m q).2.2.1, (f p.i m q).2.2.2) := by
  obtain ⟨hj, e⟩ := List.getElem?_eq_some_iff.1 h
  rw [List.drop_eq_getElem_cons hj, e]
  rfl
theorem map_take {f : List Sp → List Sp} {l : List (List Sp)} {j : Nat} {c : List Sp} (h : l[j]? = some c) : (l.take (j + 1)).map f = (l.take j).map f ++ [f c] := by
  rw [List.take_add_one, h]
  simp
theorem Try.ptsinfoW : (Try.prog.info? 51).map (fun i => (i.zero, i.size, i.bytes)) = some (some (.slice none 0 0), 1, 24) := by kernel_rfl
theorem nB15 : nB 15 ≤ 70368744177664 := by decide
theorem nB_le {j k : Nat} (h : j ≤ k) : nB j ≤ nB k := by
  induction k with
  | zero => rw [show j = 0 by omega]; exact Int.le_refl _
  | succ k ih =>
    by_cases hj : j = k + 1
    · subst hj; exact Int.le_refl _
    · have h1 := ih (by omega)
      have h2 := (nB_mono k).2
      omega
theorem visitZ_near {L : List (List Int)} (hL : ptsOk L) (k : Nat) (way : List Int) (id : Int) (m q : Nat) (hw : way.length + k = 18) (h1 : 1 ≤ way.length) : ∀ c ∈ (visitZ L k way id m q).2.1, c.length ≤ 1000000 ∧ ∀ p ∈ c, NearP p := by
  match k, hw with
  | 0, _ => intro c hc; cases hc
  | 1, hw =>
    intro c hc
    rw [visitZ_code] at hc
    have hne : codeE L.length way id m ≠ 0 := by
      unfold codeE
      split
      · decide
      split
      · decide
      rw [if_pos (by omega)]
      decide
    rw [if_neg hne] at hc
    cases hc
  | k + 2, hw =>
    intro c hc
    obtain ⟨h2, h3⟩ := visitZ_in hL k way id m q hw c hc
    refine ⟨h2, fun p hp => ?_⟩
    obtain ⟨⟨a1, a2⟩, a3, a4⟩ := h3 p hp
    have h4 := nB_le (show k ≤ 15 by omega)
    have h5 := nB15
    exact ⟨⟨by omega, by omega⟩, by omega, by omega⟩
theorem shZ_pts {zs : List Int} (hB : Bytes zs) {cs : List (List Sp)} {ps : List Pt} (h : shZ zs = some (cs, ps)) : ptsN cs ≤ 1000000 := by
  unfold shZ at h
  split at h
  · cases h; decide
  split at h
  · split at h
    · cases h; decide
    · cases h
  · split at h
    · rename_i g a hp
      split at h
      · cases h
        rw [ctsG_pts (oParse_ok hB hp).1 (oParse_right hB hp)]
        exact (oParse_ok hB hp).2.2.2
      · cases h
    · cases h

/-- What a visit leaves. -/
def RetV (r : VR) (gw : Nat) (GA : Option Addr) (gn gc : Nat) (way : List Int) (w : World) (WA : Option Addr) (wn : Nat) (e : Ending) (w' : World) : Prop :=
  ∃ WA' wc' CA n c, e = .returned (.tuple #[.slice CA n c, .int .i64 r.1]) ∧ WS w' gw GA gn gc WA' wn wc' r.2.2.1 r.2.2.2 way ∧ KW gw WA w w' ∧ (blockOf WA' = blockOf WA ∨ ∀ g, blockOf WA' = some g → w.heap.size ≤ g) ∧ AccT 59 51 w' w.heap.size CA n c r.2.1

/-- On the way out: the last of the way comes off. -/
theorem retV_leave {r : VR} {gw : Nat} {GA : Option Addr} {gn gc : Nat} {way : List Int} {id : Int} {w wr : World} {WA WB : Option Addr} {wn wc : Nat} {CA : Option Addr} {n c : Nat} (hs : WS wr gw GA gn gc WB (wn + 1) wc r.2.2.1 r.2.2.2 (way ++ [id])) (hk : KW gw WA w wr) (hA : blockOf WB = blockOf WA ∨ ∀ g, blockOf WB = some g → w.heap.size ≤ g) (ha : AccT 59 51 wr w.heap.size CA n c r.2.1) :
    RetV r gw GA gn gc way w WA wn (.returned (.tuple #[.slice CA n c, .int .i64 r.1])) ((wr.setCell ⟨gw, 1, none⟩ (.slice WB wn wc)).drew) := by
  refine ⟨WB, wc, CA, n, c, rfl, ?_, ?_, hA, ?_⟩
  · exact hs.leave.below (Below.refl _ _).drew
  · exact (hk.set 1 _).trans (KW.of (WA := WA) (Below.refl _ _).drew (by have := hs.lt; simp [World.setCell]; omega)) (.inl rfl)
  · refine AccT.below ?_ (Below.refl _ _).drew
    exact ha.keep (by simp [World.setCell]) fun g t ht hor => Below.heap_setCell wr ⟨gw, 1, none⟩ _ g (ht.ne hs.typed (by rcases hor with rfl | rfl <;> decide))

/-- The way out ahead of the deferred call. -/
theorem door0 {R : Ending → World → Prop} {tmps : Array Value} {w : World} {CA : Option Addr} {n c : Nat} {x : Int} (h4 : tmps.getD 4 undef = .slice CA n c) (h5 : tmps.getD 5 undef = .int .i64 x) (hR : R (.returned (.tuple #[.slice CA n c, .int .i64 x])) w) : bodyPostD Try.prog Try.f44 R .ret ⟨tmps, []⟩ w := by
  have h4' : tmps[4]?.getD undef = .slice CA n c := by simpa using h4
  have h5' : tmps[5]?.getD undef = .int .i64 x := by simpa using h5
  exact ⟨.tuple #[.slice CA n c, .int .i64 x], by simp [results, Try.results44, h4', h5', go_sem], hR⟩
/-- The way out through it. -/
theorem door1 {r : VR} {gw : Nat} {GA : Option Addr} {gn gc : Nat} {way : List Int} {id : Int} {tmps : Array Value} {w wr : World} {WA WB : Option Addr} {wn wc : Nat} {CA : Option Addr} {n c : Nat} {x : Int} (hwn : wn ≤ 100) (hx : r.1 = x) (hs : WS wr gw GA gn gc WB (wn + 1) wc r.2.2.1 r.2.2.2 (way ++ [id])) (hk : KW gw WA w wr) (hA : blockOf WB = blockOf WA ∨ ∀ g, blockOf WB = some g → w.heap.size ≤ g) (ha : AccT 59 51 wr w.heap.size CA n c r.2.1)
    (h4 : tmps.getD 4 undef = .slice CA n c) (h5 : tmps.getD 5 undef = .int .i64 x) : bodyPostD Try.prog Try.f44 (RetV r gw GA gn gc way w WA wn) .ret ⟨tmps, [{ target := .fn (.func 105) #[], args := #[.pointer (some ⟨gw, 0, none⟩)] }]⟩ wr := by
  subst hx
  have h4' : tmps[4]?.getD undef = .slice CA n c := by simpa using h4
  have h5' : tmps[5]?.getD undef = .int .i64 r.1 := by simpa using h5
  refine leaves_cons (f := 105) (args := #[.pointer (some ⟨gw, 0, none⟩)]) (by simp) (by simp [go_sem]) ?_
  refine (wleave_any .returning wr gw GA gn gc WB wn wc _ _ way id hs hwn).mono ?_
  rintro e u' w'' ⟨rfl, rfl, rfl⟩
  exact ⟨.tuple #[.slice CA n c, .int .i64 r.1], by simp [results, Try.results44, h4', h5', go_sem], retV_leave hs hk hA ha⟩

/-- A visit under way. -/
structure LV (w wr : World) (gw : Nat) (GA : Option Addr) (gn gc : Nat) (WA : Option Addr) (wn : Nat) (wy : List Int) (WB : Option Addr) (wcB mr qr : Nat) (DA : Option Addr) (dn dc : Nat) (acc : List (List Sp)) (TA : Option Addr) (t : Nat) (ps : List Pt) : Prop where
  g0 : gw < w.heap.size
  ws : WS wr gw GA gn gc WB wn wcB mr qr wy
  kw : KW gw WA w wr
  ab : blockOf WB = blockOf WA ∨ ∀ g, blockOf WB = some g → w.heap.size ≤ g
  acc : AccT 59 51 wr w.heap.size DA dn dc acc
  ps : RowS encPt 8 wr TA t ps
  ty : ∀ g, blockOf TA = some g → ∃ t', Typed wr g t' ∧ (t' = 46 ∨ t' = 5)
section
variable {w wr w' : World} {gw : Nat} {GA : Option Addr} {gn gc : Nat} {WA : Option Addr} {wn : Nat} {wy : List Int} {WB : Option Addr} {wcB mr qr : Nat} {DA : Option Addr} {dn dc : Nat} {acc : List (List Sp)} {TA : Option Addr} {t : Nat} {ps : List Pt}
theorem LV.gws (h : LV w wr gw GA gn gc WA wn wy WB wcB mr qr DA dn dc acc TA t ps) : gw ≤ wr.heap.size := Nat.le_of_lt h.ws.lt
theorem LV.below (h : LV w wr gw GA gn gc WA wn wy WB wcB mr qr DA dn dc acc TA t ps) (hb : Below wr.heap.size wr w') : LV w w' gw GA gn gc WA wn wy WB wcB mr qr DA dn dc acc TA t ps :=
  ⟨h.g0, h.ws.below hb, h.kw.trans (KW.of (WA := WA) hb h.gws) (.inl rfl), h.ab, h.acc.below hb, h.ps.below hb, fun g hg => by
    obtain ⟨t', a, b⟩ := h.ty g hg
    exact ⟨t', a.keep (hb.block g a.lt), b⟩⟩
/-- The points' count, turned. -/
theorem LV.setPts (h : LV w wr gw GA gn gc WA wn wy WB wcB mr qr DA dn dc acc TA t ps) (x : Nat) : LV w (wr.setCell ⟨gw, 3, none⟩ (.int .i64 x)) gw GA gn gc WA wn wy WB wcB mr x DA dn dc acc TA t ps := by
  have hsame : ∀ g t', Typed wr g t' → t' ≠ 100 → (wr.setCell ⟨gw, 3, none⟩ (.int .i64 x)).heap[g]? = wr.heap[g]? := fun g t' a b => Below.heap_setCell wr ⟨gw, 3, none⟩ _ g (a.ne h.ws.typed b)
  have hsz : wr.heap.size ≤ (wr.setCell ⟨gw, 3, none⟩ (.int .i64 x)).heap.size := by simp [World.setCell]
  refine ⟨h.g0, h.ws.setPts x, h.kw.set 3 _, h.ab, h.acc.keep hsz (fun g t' ht hor => hsame g t' ht (by rcases hor with rfl | rfl <;> decide)), ?_, fun g hq => ?_⟩
  · refine h.ps.keep hsz fun g hq _ => ?_
    obtain ⟨t', a, b⟩ := h.ty g hq
    exact hsame g _ a (by rcases b with rfl | rfl <;> decide)
  · obtain ⟨t', a, b⟩ := h.ty g hq
    exact ⟨t', a.keep (hsame g _ a (by rcases b with rfl | rfl <;> decide)), b⟩
/-- Behind another visit. -/
theorem LV.visit {WC : Option Addr} {wcC m2 q2 : Nat} (h : LV w wr gw GA gn gc WA wn wy WB wcB mr qr DA dn dc acc TA t ps) (hw : WS w' gw GA gn gc WC wn wcC m2 q2 wy) (hk : KW gw WB wr w') (hb : blockOf WC = blockOf WB ∨ ∀ g, blockOf WC = some g → wr.heap.size ≤ g) : LV w w' gw GA gn gc WA wn wy WC wcC m2 q2 DA dn dc acc TA t ps := by
  have hsz := h.kw.size
  refine ⟨h.g0, hw, h.kw.trans hk h.ab, ?_, h.acc.kw hk h.ws, ?_, fun g hg => ?_⟩
  · rcases hb with e | e
    · rw [e]; exact h.ab
    · exact .inr fun g hg => by have := e g hg; omega
  · refine h.ps.keep hk.size fun g hg _ => ?_
    obtain ⟨t', a, b⟩ := h.ty g hg
    exact hk.same h.ws a (by rcases b with rfl | rfl <;> decide) (by rcases b with rfl | rfl <;> decide)
  · obtain ⟨t', a, b⟩ := h.ty g hg
    exact ⟨t', a.keep (hk.same h.ws a (by rcases b with rfl | rfl <;> decide) (by rcases b with rfl | rfl <;> decide)), b⟩
end

/-- The contours of a part in memory, beside those that are gathered. -/
structure LJ (wr : World) (DA LA : Option Addr) (ln : Nat) (cs : List (List Sp)) : Prop where
  row : ∃ S : List Sl, RowS encSl 1 wr LA ln S ∧ InT 59 wr S cs
  ty : ∀ g, blockOf LA = some g → Typed wr g 51
  ne : ∀ g, blockOf LA = some g → blockOf DA ≠ some g
theorem LJ.below {wr w' : World} {DA LA : Option Addr} {ln : Nat} {cs : List (List Sp)} (h : LJ wr DA LA ln cs) (hb : Below wr.heap.size wr w') : LJ w' DA LA ln cs := by
  obtain ⟨⟨S, a, b⟩, c, d⟩ := h
  exact ⟨⟨S, a.below hb, b.below hb⟩, fun g hg => (c g hg).keep (hb.block g (c g hg).lt), d⟩
theorem LJ.len {wr : World} {DA LA : Option Addr} {ln : Nat} {cs : List (List Sp)} (h : LJ wr DA LA ln cs) : cs.length = ln := by
  obtain ⟨⟨S, a, b⟩, c, d⟩ := h
  rw [← b.1]
  exact a.len
theorem LJ.at {wr : World} {DA LA : Option Addr} {ln : Nat} {cs : List (List Sp)} (h : LJ wr DA LA ln cs) {j : Nat} {c : List Sp} (hj : cs[j]? = some c) : ∃ g off A n k, LA = some ⟨g, off, none⟩ ∧ g < wr.heap.size ∧ wr.cell? ⟨g, off + j, none⟩ = some (.slice A n k) ∧ RowS encRp 3 wr A n c ∧ n ≤ k := by
  obtain ⟨⟨S, a, b⟩, _, _⟩ := h
  have hjl := (List.getElem?_eq_some_iff.1 hj).1
  obtain ⟨s, hs⟩ : ∃ s, S[j]? = some s := ⟨_, List.getElem?_eq_getElem (by rw [b.1]; exact hjl)⟩
  obtain ⟨g, off, e, hg, hc⟩ := atSl a hs
  obtain ⟨r1, r2, _⟩ := b.2 j s c hs hj
  exact ⟨g, off, s.1, s.2.1, s.2.2, e, hg, hc, r1, r2⟩

/-- Behind an append of one contour. -/
theorem LV.push {w wr w' : World} {gw : Nat} {GA : Option Addr} {gn gc : Nat} {WA : Option Addr} {wn : Nat} {wy : List Int} {WB : Option Addr} {wcB mr qr : Nat} {DA : Option Addr} {dn dc : Nat} {acc : List (List Sp)} {TA : Option Addr} {t : Nat} {ps : List Pt} {S : List Sl} {D2 : Option Addr} {d2 : Nat} {MA : Option Addr} {mn mc : Nat} {c : List Sp}
    (h : LV w wr gw GA gn gc WA wn wy WB wcB mr qr DA dn dc acc TA t ps) (hd : OwnS 51 encSl 1 wr w.heap.size DA dn dc S) (hi : InT 59 wr S acc) (ho : OwnS 51 encSl 1 w' w.heap.size D2 (dn + 1) d2 (S ++ [(MA, mn, mc)])) (hg : wr.grownBy w' (blockOf DA)) (hr : RowS encRp 3 wr MA mn c) (hk : mn ≤ mc) (ht : ∀ g, blockOf MA = some g → Typed wr g 59) :
    LV w w' gw GA gn gc WA wn wy WB wcB mr qr D2 (dn + 1) d2 (acc ++ [c]) TA t ps := by
  have hty := hd.typed
  have hsame : ∀ g t', Typed wr g t' → t' ≠ 51 → w'.heap[g]? = wr.heap[g]? := fun g t' a b => hg.block g a.lt fun e => (a.ne (hty g e.symm) b) rfl
  have hgw := h.ws.lt
  have hgs : wr.heap.size ≤ w'.heap.size := hg.size
  have hwb := h.kw.size
  have h0 := h.g0
  have hkeep : ∀ g, g < w.heap.size → w'.heap[g]? = wr.heap[g]? := fun g hgl => hg.block g (by omega) fun e => by
    have := (hd.from_ g e.symm).1
    omega
  have hkw : KW gw WA w w' := ⟨h.kw.bel.trans ⟨hg.os, hg.tape, hg.output, hg.size, fun k hk => hkeep k (by omega)⟩, fun g a b c => (hkeep g a).trans (h.kw.kept g a b c)⟩
  refine ⟨h.g0, ⟨(hsame gw _ h.ws.typed (by decide)).trans h.ws.box, h.ws.own.keep fun g hq => hsame g _ (h.ws.own.typed g hq) (by decide)⟩, hkw, h.ab, ⟨_, ho, ?_⟩, ?_, fun g hq => ?_⟩
  · refine (hi.keep hgs fun g hq => hsame g _ hq (by decide)).push (hr.keep hgs fun g hq _ => hsame g _ (ht g hq) (by decide)) hk fun g hq => (ht g hq).keep (hsame g _ (ht g hq) (by decide))
  · refine h.ps.keep hgs fun g hq _ => ?_
    obtain ⟨t', a, b⟩ := h.ty g hq
    exact hsame g _ a (by rcases b with rfl | rfl <;> decide)
  · obtain ⟨t', a, b⟩ := h.ty g hq
    exact ⟨t', a.keep (hsame g _ a (by rcases b with rfl | rfl <;> decide)), b⟩
theorem LJ.push {w wr w' : World} {DA D2 LA : Option Addr} {ln dn dc : Nat} {cs : List (List Sp)} {S : List Sl} (h : LJ wr DA LA ln cs) (hd : OwnS 51 encSl 1 wr w.heap.size DA dn dc S) (hg : wr.grownBy w' (blockOf DA)) (hb : blockOf D2 = blockOf DA ∨ blockOf D2 = some wr.heap.size) : LJ w' D2 LA ln cs := by
  obtain ⟨⟨Q, a, b⟩, c, d⟩ := h
  have hne : ∀ g, blockOf LA = some g → w'.heap[g]? = wr.heap[g]? := fun g hq => hg.block g (c g hq).lt fun e => d g hq e.symm
  refine ⟨⟨Q, a.keep hg.size (fun g hq _ => hne g hq), b.keep hg.size fun g hq => hg.block g hq.lt fun e => (hq.ne (hd.typed g e.symm) (by decide)) rfl⟩, fun g hq => (c g hq).keep (hne g hq), fun g hq => ?_⟩
  rcases hb with e | e
  · rw [e]; exact d g hq
  · rw [e]
    intro e2
    have := (c g hq).lt
    cases e2
    omega

end Go.Proofs.Ytdaeffnaoeblpaa

/- flat: the walk: the program's visit, as a contract over this seat's translation. -/
namespace Go.Proofs.Ytdaeffnaoeblpaa
open Go.RowKit
set_option linter.unusedVariables false
set_option linter.unusedSimpArgs false

set_option maxRecDepth 1000000 in
set_option maxHeartbeats 8000000 in
theorem visit_any (L : List (List Int)) (hL : ptsOk L) (w0 : World) (gc : Nat) : ∀ (k : Nat) (GA : Option Addr) (gn : Nat) (way : List Int) (id : Int) (m q : Nat) (w : World) (WA : Option Addr) (wn wc : Nat), GlsIn w0 GA gn L → gn ≤ 1000000000000 → way.length + k = 18 → 1 ≤ k → WS w w0.heap.size GA gn gc WA wn wc m q way → Below w0.heap.size w0 w → m ≤ 20000 → q ≤ 20000 → -9223372036854775808 ≤ id → id ≤ 9223372036854775807 →
    Calls Try.prog 44 #[.pointer (some ⟨w0.heap.size, 0, none⟩), .int .i64 id] w (RetV (visitZ L k way id m q) w0.heap.size GA gn gc way w WA wn) := by
  intro k
  induction k with
  | zero => intro GA gn way id m q w WA wn wc hG hgn hk hk1; omega
  | succ k ih =>
    intro GA gn way id m q w WA wn wc hG hgn hk hk1 hs hb hm hq hid0 hid1
    generalize hgw : w0.heap.size = gw at *
    have hwl : way.length = wn := hs.own.len
    have hLl := hG.len
    have HEn := Lib.hid (wenter_any w gw GA gn gc WA wn wc m q way id hs hgn (by omega) hm hid0 hid1)
    have HV : Hid (visitZ L (k + 1) way id m q = if codeE gn way id m = 0 then stepZ (visitZ L k (way ++ [id])) (m + 1) q (shZ (L.getD id.toNat [])) else (codeE gn way id m, [], m, q)) := by show _ = _; rw [visitZ_code, hLl]
    have HS := Lib.hid hs
    have HOk := Lib.hid (visitZ_ok L (k + 1) way id m q)
    clear hs
    go_enter_defers Try.func44, Try.ntmps44
    go_wp2_with fail
    with_reducible refine HEn.out.mono ?_
    rintro e w1 hway
    rcases hway with ⟨hne, rfl, rfl⟩ | ⟨h0, rfl, WA1, wc1, hs1, hk1, hA1⟩
    · have HV2 : Hid (visitZ L (k + 1) way id m q = (codeE gn way id m, [], m, q)) := by show _ = _; rw [HV.out, if_neg hne]
      clear HV
      generalize codeE gn way id m = ce at *
      clear HEn HOk
      go_wp2
      rw [HV2.out]
      refine door0 (CA := none) (n := 0) (c := 0) (x := ce) rfl rfl ?_
      exact ⟨WA, wc, none, 0, 0, rfl, HS.out, KW.of (Below.refl _ _) (Nat.le_of_lt HS.out.lt), .inl rfl, AccT.nil _ _⟩
    · obtain ⟨hrng, hw16, hmn⟩ := codeE_zero h0
      obtain ⟨i, rfl⟩ : ∃ i : Nat, id = i := ⟨id.toNat, by omega⟩
      have hin : i < gn := by omega
      have HV2 : Hid (visitZ L (k + 1) way (i : Int) m q = stepZ (visitZ L k (way ++ [(i : Int)])) (m + 1) q (shZ (L.getD i []))) := by show _ = _; rw [HV.out, if_pos h0]; rfl
      clear HV h0 HEn
      have hb1 : Below gw w0 w1 := hb.trans hk1.bel
      obtain ⟨gg, off, A, n, c, rfl, hgg, hcell, hrow, hB, hn, hnc⟩ := (hG.below (by rw [hgw]; exact hb1)).at hin
      obtain ⟨c0, c1, c2, c3⟩ := cells4W hs1.box
      have HRd := Lib.hid (fread_any A n c (L.getD i []) w1 hrow hB hn hnc)
      have HB := Lib.hid hB
      have Hrng : Hid (¬ ((i : Int) < 0 ∨ (gn : Int) ≤ i)) := Lib.hid hrng
      have HS1 := Lib.hid hs1
      have HK1 := Lib.hid hk1
      have HA1 := Lib.hid hA1
      clear hrow hB hrng hs1 hk1 hA1
      go_wp2_with fail
      with_reducible refine HRd.out.mono ?_
      rintro e w2 ⟨hb2, hno, hyes⟩
      cases hz : shZ (L.getD i []) with
      | none =>
        obtain ⟨DA, d, dc, TA, t, tc, rfl⟩ := hno hz
        have HV3 : Hid (visitZ L (k + 1) way (i : Int) m q = (2, [], m + 1, q)) := by show _ = _; rw [HV2.out, hz]; rfl
        have hA := (Below.refl w2.heap.size w2).alloc (Nat.le_refl _) (.cells #[.slice DA d dc, .slice TA t tc] 128)
        have hs2 := (HS1.out.below hb2).below hA
        have hk2 := (HK1.out.trans (KW.of (WA := WA) hb2 (Nat.le_of_lt HS1.out.lt)) (.inl rfl)).trans (KW.of (WA := WA) hA (by have := hb2.size; have := HS1.out.lt; omega)) (.inl rfl)
        clear HV2 HRd hno hyes hz HOk
        go_wp2_with fail
        rw [HV3.out]
        refine door1 (r := (2, [], m + 1, q)) (x := 2) (by omega) rfl hs2 hk2 HA1.out (AccT.nil _ _) ?_ ?_
        · rfl
        · rfl
      | some z =>
        obtain ⟨cs, ps⟩ := z
        obtain ⟨CA, cn, cc, TA, t, tc, rfl, hacc, hprow, ht, hty⟩ := hyes cs ps hz
        have hpts := shZ_pts HB.out hz
        have HPok := Lib.hid (shZ_ok HB.out hz)
        have hcl := shZ_len hz
        have hcn := hacc.len
        have HV3 : Hid (visitZ L (k + 1) way (i : Int) m q = if 20000 < q + ptsN cs then (9, [], m + 1, q + ptsN cs) else partsZ (visitZ L k (way ++ [(i : Int)])) ps cs (m + 1) (q + ptsN cs)) := by show _ = _; rw [HV2.out, hz]; rfl
        have hA := (Below.refl w2.heap.size w2).alloc (Nat.le_refl _) (.cells #[.slice CA cn cc, .slice TA t tc] 128)
        have hkS := heap_alloc_new w2 (.cells #[.slice CA cn cc, .slice TA t tc] 128)
        have hlv : LV w (w2.alloc (.cells #[.slice CA cn cc, .slice TA t tc] 128)) gw (some ⟨gg, off, none⟩) gn gc WA (wn + 1) (way ++ [(i : Int)]) WA1 wc1 (m + 1) q CA cn cc cs TA t ps :=
          LV.below ⟨HS.out.lt, HS1.out.below hb2, HK1.out.trans (KW.of (WA := WA) hb2 (Nat.le_of_lt HS1.out.lt)) (.inl rfl), HA1.out, hacc.mono HK1.out.size, hprow, hty⟩ hA
        clear HV2 HRd hno hyes hz HOk hA hacc hprow hty hcell c0 c1 c2 c3
        go_upto_region 8 with fail
        generalize w2.alloc _ = V at *
        generalize w2.heap.size = gS at *
        obtain ⟨c0, c1, c2, c3⟩ := cells4W hlv.ws.box
        have fz := fun o => thawed hlv.ws.box o
        obtain ⟨s0, s1⟩ := cells2 hkS
        obtain ⟨S, hSo, hSi⟩ := hlv.acc
        have HPt := Lib.hid (fpoints_any CA cn cc S cs V.drew ((hSo.row encSl_len).drew) (hSi.below (Below.refl _ _).drew) (by omega) (by omega) |>.mono fun e w' h => (⟨h.1, h.2.symm⟩ : e = .returned (.int .i64 ((ptsN cs : Nat) : Int)) ∧ w' = V.drew))
        have hlv2 := hlv.setPts (q + ptsN cs)
        rw [show ((q + ptsN cs : Nat) : Int) = (q : Int) + (ptsN cs : Nat) by omega] at hlv2
        clear hSo hSi
        have hneS : gS ≠ gw := Typed.ne ⟨_, hkS⟩ hlv.ws.typed (by decide)
        have hneS' : gw ≠ gS := fun h => hneS h.symm
        have hkS2 := (Below.heap_setCell V ⟨gw, 3, none⟩ (.int .i64 ((q : Int) + (ptsN cs : Nat))) gS hneS).trans hkS
        have hlv3 := hlv2.below (Below.refl _ _).drew
        by_cases hov : 20000 < q + ptsN cs
        · have hov2 : 20000 < (q : Int) + (ptsN cs : Nat) := by omega
          have HV4 : Hid (visitZ L (k + 1) way (i : Int) m q = (9, [], m + 1, q + ptsN cs)) := by show _ = _; rw [HV3.out, if_pos hov]
          clear HV3
          refine wp_region_still_tail 10 (by kernel_rfl) (by kernel_rfl) ?_
          simp only [List.take_succ_cons, List.take_zero, List.drop_succ_cons, List.drop_zero]
          repeat still_step
          still_call HPt.out
          repeat still_step
          refine wpStill_nil ?_
          go_wp2_with fail
          rw [HV4.out]
          refine door1 (r := (9, [], m + 1, q + ptsN cs)) (x := 9) (by omega) rfl hlv3.ws hlv3.kw hlv3.ab (AccT.nil _ _) ?_ ?_
          · rfl
          · rfl
        · have hov2 : ¬ 20000 < (q : Int) + (ptsN cs : Nat) := by omega
          have HV4 : Hid (visitZ L (k + 1) way (i : Int) m q = partsZ (visitZ L k (way ++ [(i : Int)])) ps cs (m + 1) (q + ptsN cs)) := by show _ = _; rw [HV3.out, if_neg hov]
          clear HV3
          refine wp_region_still_tail 10 (by kernel_rfl) (by kernel_rfl) ?_
          simp only [List.take_succ_cons, List.take_zero, List.drop_succ_cons, List.drop_zero]
          repeat still_step
          still_call HPt.out
          repeat still_step
          refine wpStill_nil ?_
          go_upto_region 11 with fail
          have hkS3 : (V.setCell ⟨gw, 3, none⟩ (.int .i64 ((q : Int) + (ptsN cs : Nat)))).drew.heap[gS]? = some (.cells #[.slice CA cn cc, .slice TA t tc] 128 (0, 0)) := hkS2
          clear s0 s1 c0 c1 c2 c3 fz hlv hlv2 hkS hkS2 HPt
          generalize (V.setCell ⟨gw, 3, none⟩ (.int .i64 ((q : Int) + (ptsN cs : Nat)))).drew = V2 at *
          obtain ⟨s0, s1⟩ := cells2 hkS3
          go_wp2_with fail
          obtain ⟨i0, hi, hz0, hz1, hz2⟩ := info_parts Try.ptsinfoW
          clear s0 s1 hkS3
          go_loopw [9, 56] (fun a i' wr => ∃ (j : Nat) (DA : Option Addr) (dn dc : Nat) (acc : List (List Sp)) (WB : Option Addr) (wcB mr qr : Nat), j ≤ t ∧ i' = .int .i64 j ∧ a = .slice DA dn dc ∧ LV w wr gw (some ⟨gg, off, none⟩) gn gc WA (wn + 1) (way ++ [(i : Int)]) WB wcB mr qr DA dn dc acc TA t ps ∧ Hid (partsZ (visitZ L k (way ++ [(i : Int)])) (ps.drop j) acc mr qr = visitZ L (k + 1) way (i : Int) m q) ∧ m + 1 ≤ mr ∧ mr ≤ 20000 ∧ qr ≤ 20000 ∧ dn ≤ 32767 * (mr - m)) (fun _ i' _ => t - (intOf i').toNat)
          case atStart => exact ⟨0, CA, cn, cc, cs, WA1, wc1, m + 1, q + ptsN cs, Nat.zero_le _, rfl, rfl, hlv3, Lib.hid HV4.out.symm, Nat.le_refl _, by omega, by omega, by omega⟩
          case round =>
            clear hlv3 HV4
            obtain ⟨j, DA, dn, dc, acc, WB, wcB, mr, qr, hj, rfl, rfl, hlv, HPz, hm1, hm2, hq2, hdn⟩ := hrel
            by_cases hlt : j < t
            · have hpl := hlv.ps.len
              obtain ⟨p, hp⟩ : ∃ p, ps[j]? = some p := ⟨_, List.getElem?_eq_getElem (by omega)⟩
              obtain ⟨gt, ot, rfl, hgt, d0, d1, d2, d3, d4, d5, d6, d7⟩ := atPt hlv.ps hp
              have hpo := HPok.out p (List.mem_of_getElem? hp)
              have hPs := partsZ_step (f := visitZ L k (way ++ [(i : Int)])) hp acc mr qr
              rw [HPz.out] at hPs
              have hA := (Below.refl wr.heap.size wr).alloc (Nat.le_refl _) (.cells #[.int .u16 p.f, .int .u16 p.i, .int .i16 p.x, .int .i16 p.y, .int .i16 p.xx, .int .i16 p.xy, .int .i16 p.yx, .int .i16 p.yy] 46)
              have hkP := heap_alloc_new wr (.cells #[.int .u16 p.f, .int .u16 p.i, .int .i16 p.x, .int .i16 p.y, .int .i16 p.xx, .int .i16 p.xy, .int .i16 p.yx, .int .i16 p.yy] 46)
              have hlvA := hlv.below hA
              have hpi := hpo.i
              have HVs := Lib.hid (ih (some ⟨gg, off, none⟩) gn (way ++ [(i : Int)]) p.i mr qr (wr.alloc (.cells #[.int .u16 p.f, .int .u16 p.i, .int .i16 p.x, .int .i16 p.y, .int .i16 p.xx, .int .i16 p.xy, .int .i16 p.yx, .int .i16 p.yy] 46)) WB (wn + 1) wcB hG hgn (by rw [List.length_append, List.length_singleton]; omega) (by omega) hlvA.ws (hb.trans hlvA.kw.bel) hm2 hq2 (by omega) (by omega))
              have hvok := visitZ_ok L k (way ++ [(i : Int)]) p.i mr qr
              have hnear := visitZ_near hL k (way ++ [(i : Int)]) p.i mr qr (by rw [List.length_append, List.length_singleton]; omega) (by simp)
              have hDA : ∀ g, blockOf DA = some g → g < wr.heap.size := fun g hg => by
                obtain ⟨S, hSo, _⟩ := hlv.acc
                exact (hSo.from_ g hg).2
              have hsA : (wr.alloc (.cells #[.int .u16 p.f, .int .u16 p.i, .int .i16 p.x, .int .i16 p.y, .int .i16 p.xx, .int .i16 p.xy, .int .i16 p.yx, .int .i16 p.yy] 46)).heap.size = wr.heap.size + 1 := by simp
              generalize visitZ L k (way ++ [(i : Int)]) p.i mr qr = R at *
              have HPs := Lib.hid hPs
              have Hnear := Lib.hid hnear
              have Hvok := Lib.hid hvok
              have Hpo := Lib.hid hpo
              obtain ⟨pf, pi, px, py, xx, xy, yx, yy⟩ := p
              simp only at d0 d1 d2 d3 d4 d5 d6 d7 hpi
              clear hPs hnear hvok hpo hp hlv hA
              go_wp2_with fail
              with_reducible refine HVs.out.mono ?_
              rintro e w5 ⟨WC, wcC, LA, ln, lc, rfl, hws5, hkw5, hab5, hlacc⟩
              have hlv5 := hlvA.visit hws5 hkw5 hab5
              have hkP5 := (hkw5.same hlvA.ws ⟨_, hkP⟩ (by decide) (by decide)).trans hkP
              obtain ⟨re, rcs, rm, rq⟩ := R
              simp only at hws5 hlv5 hlacc
              obtain ⟨hvo1, hvo2, hvo3, hvo4, hvo5⟩ := Hvok.out
              simp only at hvo1 hvo2 hvo3 hvo4 hvo5
              have hbP := hkw5.size
              generalize hbp : wr.heap.size = bp at *
              by_cases he : re = 0
              · subst he
                have HPs2 : Hid (partsZ (visitZ L k (way ++ [(i : Int)])) (ps.drop (j + 1)) (acc ++ rcs.map (mvC ⟨pf, pi, px, py, xx, xy, yx, yy⟩)) rm rq = visitZ L (k + 1) way (i : Int) m q) := by
                  show _ = _
                  have h := HPs.out
                  simp only [if_true] at h
                  exact h.symm
                have hlj5 : LJ w5 DA LA ln rcs := by
                  obtain ⟨S, hSo, hSi⟩ := hlacc
                  exact ⟨⟨S, hSo.row encSl_len, hSi⟩, hSo.typed, fun g hg e => by
                    have h1 := (hSo.from_ g hg).1
                    have h2 := hDA g e
                    omega⟩
                have hm3 := hvo3 hm2
                have hq3 := hvo4 hq2 rfl
                have hll := hlj5.len
                clear HPs hws5 hkw5 hab5 hlacc hlvA hkP HVs hDA d0 d1 d2 d3 d4 d5 d6 d7
                go_wp2_with fail
                have hdn5 : dn + ln ≤ 655340000 := by omega
                go_loopw [9, 73] (fun a i2 wr2 => ∃ (jj : Nat) (D2 : Option Addr) (dn2 dc2 : Nat), jj ≤ ln ∧ i2 = .int .i64 jj ∧ a = .slice D2 dn2 dc2 ∧ dn2 = dn + jj ∧ LV w wr2 gw (some ⟨gg, off, none⟩) gn gc WA (wn + 1) (way ++ [(i : Int)]) WC wcC rm rq D2 dn2 dc2 (acc ++ (rcs.take jj).map (mvC ⟨pf, pi, px, py, xx, xy, yx, yy⟩)) (some ⟨gt, ot, none⟩) t ps ∧ LJ wr2 D2 LA ln rcs ∧ wr2.heap[bp]? = some (.cells #[.int .u16 pf, .int .u16 pi, .int .i16 px, .int .i16 py, .int .i16 xx, .int .i16 xy, .int .i16 yx, .int .i16 yy] 46 (0, 0))) (fun _ i2 _ => ln - (intOf i2).toNat)
                case atStart => exact ⟨0, DA, dn, dc, Nat.zero_le _, rfl, rfl, rfl, by rw [List.take_zero, List.map_nil, List.append_nil]; exact hlv5, hlj5, hkP5⟩
                case round =>
                  clear hlv5 hlj5 hkP5
                  obtain ⟨jj, D2, dn2, dc2, hjj, rfl, rfl, rfl, hlv6, hlj6, hkP6⟩ := hrel
                  by_cases hlt2 : jj < ln
                  · obtain ⟨c', hc'⟩ : ∃ c', rcs[jj]? = some c' := ⟨_, List.getElem?_eq_getElem (by omega)⟩
                    obtain ⟨g2, o2, MA0, mn0, mk0, rfl, hg2, hcell2, hcrow, hck⟩ := hlj6.at hc'
                    obtain ⟨hcl', hcn'⟩ := Hnear.out c' (List.mem_of_getElem? hc')
                    have hmt := map_take (f := mvC ⟨pf, pi, px, py, xx, xy, yx, yy⟩) hc'
                    have hcrl := hcrow.len
                    have hpx := Hpo.out.x
                    have hpy := Hpo.out.y
                    have hxx := Hpo.out.xx
                    have hxy := Hpo.out.xy
                    have hyx := Hpo.out.yx
                    have hyy := Hpo.out.yy
                    simp only at hpx hpy hxx hxy hyx hyy
                    have HAll : Hid (Calls Try.prog 106 #[.slice MA0 mn0 mk0, mxV xx xy yx yy, .int .i64 px, .int .i64 py] wr (RetS 59 encPd 3 wr (c'.map (moveP xx xy yx yy px py)))) := all_any MA0 mn0 mk0 c' xx xy yx yy px py wr hcrow (by omega) hcn' hxx.1 hxx.2 hxy.1 hxy.2 hyx.1 hyx.2 hyy.1 hyy.2 ⟨by omega, by omega⟩ ⟨by omega, by omega⟩
                    unfold mxV at HAll
                    obtain ⟨e0, e1, e2, e3, e4, e5, e6, e7⟩ := cells8 hkP6
                    clear hc' hcrow hcn'
                    go_wp2_with fail
                    with_reducible refine HAll.out.mono ?_
                    rintro e w7 ⟨MA, mn, mc, rfl, hmo, hb7⟩
                    have hA7 := (Below.refl w7.heap.size w7).alloc (Nat.le_refl _) (.cells #[.slice MA mn mc] 51)
                    have hlv7 := (hlv6.below hb7).below hA7
                    have hlj7 := (hlj6.below hb7).below hA7
                    have hkP7 := kept_block (kept_block hkP6 hb7) hA7
                    have hmr : RowS encRp 3 (w7.alloc (.cells #[.slice MA mn mc] 51)) MA mn (mvC ⟨pf, pi, px, py, xx, xy, yx, yy⟩ c') := (hmo.row encPd_len).below hA7
                    have hmty : ∀ g, blockOf MA = some g → Typed (w7.alloc (.cells #[.slice MA mn mc] 51)) g 59 := fun g hg => ((hmo.typed g hg)).keep (hA7.block g (hmo.typed g hg).lt)
                    obtain ⟨S, hSo, hSi⟩ := hlv7.acc
                    have HSo := Lib.hid hSo
                    have hrow7 : RowS encSl 1 (w7.alloc (.cells #[.slice MA mn mc] 51)) (some ⟨w7.heap.size, 0, none⟩) 1 [(MA, mn, mc)] := rowS_vals encSl_len w7 51 [(MA, mn, mc)] _ rfl 1 rfl
                    have hwb : w.heap.size ≤ w7.heap.size + 1 := by
                      have := hlv7.kw.size
                      simpa using this
                    clear HAll e0 e1 e2 e3 e4 e5 e6 e7 hkP6 hlv6 hlj6
                    go_wp2_with (at_builtin; refine wpList_append_atS rfl (.tmp 77) (.tmp 88) _ rfl 51 encSl 1 encSl_len (by omega) encSl_one w.heap.size i0 _ 24 Try.underlying26 hi hz0 hz1 rfl hz2 D2 (dn + jj) dc2 S rfl HSo.out (some ⟨w7.heap.size, 0, none⟩) 1 1 [(MA, mn, mc)] rfl hrow7 (by omega) (by omega) (by omega) (by simpa using hwb) ?_)
                    intro D3 dc3 w8 hown8 hg8 hb8
                    have hlv8 := hlv7.push hSo hSi hown8 hg8 hmr hmo.cap hmty
                    rw [List.append_assoc, ← hmt] at hlv8
                    have hlj8 := hlj7.push hSo hg8 (by simpa using hb8)
                    have hkP8 := (hg8.block bp (lt_of_block hkP7) (fun e => (Typed.ne ⟨_, hkP7⟩ (hSo.typed bp e.symm) (by decide)) rfl)).trans hkP7
                    have H8 := Lib.hid hlv8
                    have J8 := Lib.hid hlj8
                    have K8 := Lib.hid hkP8
                    clear hlv7 hlj7 hkP7 hmr hmty hSo hSi HSo hrow7 hown8 hg8 hb8 hlv8 hlj8 hkP8 hA7 hb7 hmo
                    go_wp2_with fail
                    go_roundw
                    case rel => exact ⟨jj + 1, D3, dn + jj + 1, dc3, by omega, by go_num, rfl, by omega, H8.out, J8.out, K8.out⟩
                    case measure => simp [intOf]; omega
                  · obtain rfl : jj = ln := by omega
                    rw [List.take_of_length_le (by omega)] at hlv6
                    go_wp2_with fail
                    go_roundw
                    case rel => exact ⟨j + 1, D2, dn + jj, dc2, _, WC, wcC, rm, rq, by omega, by go_num, rfl, hlv6, HPs2, by omega, hm3, hq3, by omega⟩
                    case measure => simp [intOf]; omega
              · have hne2 : (re == 0) = false := by simpa using he
                have HV5 : Hid (visitZ L (k + 1) way (i : Int) m q = (re, [], rm, rq)) := by
                  show _ = _
                  have h := HPs.out
                  simp only [if_neg he] at h
                  exact h
                clear HPs HVs hlvA hkP
                go_wp2_with fail
                rw [HV5.out]
                refine door1 (r := (re, [], rm, rq)) (x := re) (by omega) rfl hlv5.ws hlv5.kw hlv5.ab (AccT.nil _ _) ?_ ?_
                · rfl
                · rfl
            · obtain rfl : j = t := by omega
              have HV5 : Hid (visitZ L (k + 1) way (i : Int) m q = (0, acc, mr, qr)) := by
                show _ = _
                have h := HPz.out
                rw [List.drop_of_length_le (by have := hlv.ps.len; omega)] at h
                exact h.symm
              clear HPz
              go_wp2_with fail
              rw [HV5.out]
              refine door1 (r := (0, acc, mr, qr)) (x := 0) (by omega) rfl hlv.ws hlv.kw hlv.ab hlv.acc ?_ ?_
              · rfl
              · rfl

end Go.Proofs.Ytdaeffnaoeblpaa

/- flat: Flat, Parts and Same, as contracts over this seat's translation. -/
namespace Go.Proofs.Ytdaeffnaoeblpaa
open Go.RowKit
set_option linter.unusedVariables false
set_option linter.unusedSimpArgs false

/-- What Flat leaves. -/
def RetFlat (w : World) (L : List (List Int)) (id : Int) (e : Ending) (w' : World) : Prop :=
  Below w.heap.size w w' ∧ ∃ CA n c, e = .returned (.tuple #[.slice CA n c, .int .i64 (flatZ L id).1]) ∧ AccT 59 51 w' w.heap.size CA n c (flatZ L id).2.1

set_option maxRecDepth 100000 in
theorem flat_any (L : List (List Int)) (hL : ptsOk L) (w : World) (GA : Option Addr) (gn gc : Nat) (id : Int) (hG : GlsIn w GA gn L) (hgn : gn ≤ 1000000000000) (hid0 : -9223372036854775808 ≤ id) (hid1 : id ≤ 9223372036854775807) :
    Calls Try.prog 16 #[.slice GA gn gc, .int .i64 id] w (RetFlat w L id) := by
  have hA := (Below.refl w.heap.size w).alloc (Nat.le_refl _) (.cells #[.slice GA gn gc, .slice none 0 0, .int .i64 0, .int .i64 0] 100)
  have hk := heap_alloc_new w (.cells #[.slice GA gn gc, .slice none 0 0, .int .i64 0, .int .i64 0] 100)
  have HV := Lib.hid (visit_any L hL w gc 18 GA gn [] id 0 0 (w.alloc (.cells #[.slice GA gn gc, .slice none 0 0, .int .i64 0, .int .i64 0] 100)) none 0 0 hG hgn rfl (by decide) ⟨hk, Own.nil _ _ _ _⟩ hA (by decide) (by decide) hid0 hid1)
  go_enter Try.func16, Try.ntmps16
  go_wp2_with fail
  with_reducible refine HV.out.mono ?_
  rintro e w1 ⟨WA, wc, CA, n, c, rfl, -, hkw, -, hacc⟩
  have hb := hA.trans hkw.bel
  have hacc2 := hacc.mono hA.size
  clear HV
  go_wp2_with fail
  exact bodyPost_ret (v := .tuple #[.slice CA n c, .int .i64 (flatZ L id).1]) (by simp [results, Try.results16, go_sem]; rfl) rfl ⟨hb, CA, n, c, rfl, hacc2⟩

end Go.Proofs.Ytdaeffnaoeblpaa

/- flat: what the law asks first: its own awake, as a contract over this seat's translation. -/
namespace Go.Proofs.Ytdaeffnaoeblpaa
open Go.RowKit
set_option linter.unusedVariables false
set_option linter.unusedSimpArgs false

theorem oParse_le {zs : List Int} {g : Gl} {a : Nat} (h : oParse zs = some (g, a)) : n2at zs 0 ≤ 32767 ∧ 0 < zs.length := by
  obtain ⟨s, hg, he, rfl, rfl⟩ := oParse_inv h
  obtain ⟨h1, h2, h3, h4⟩ := hg
  refine ⟨h1, ?_⟩
  have h5 := oXe_le zs s
  unfold oFs at h3
  have h6 := (fAll_some _ _ _ (Nat.sub_le _ _) (Nat.zero_le _) h3).2
  simp only at h6
  unfold oA at h6
  omega
/-- Bytes of an outline are one's. -/
theorem shZ_points {zs : List Int} (hB : Bytes zs) {g : Gl} {a : Nat} (h : oParse zs = some (g, a)) (hf : fillB (zs.drop a) = true) : shZ zs = some (ctsG g, []) := by
  obtain ⟨h1, h2⟩ := oParse_le h
  have h3 := (n2at_lt hB 0).1
  have hc : cIs zs = false := by
    rw [cIs_n2v hB]
    refine decide_eq_false ?_
    match zs, h1 with
    | [], _ => decide
    | [x], _ => show ¬ 32767 < (0 : Int); decide
    | x :: y :: r, h1 =>
      have e : n2at (x :: y :: r) 0 = 256 * x + y := by
        show be [x, y] = _
        simp [be]
        omega
      show ¬ 32767 < 256 * x + y
      omega
  unfold shZ
  rw [if_neg (by omega), hc, h]
  simp [hf]
theorem shZ_oB (g : Gl) (ho : g.ok) (hr : oRight g = true) : shZ (oB g) = some (ctsG g, []) :=
  shZ_points (oB_bytes g ho.pr) (oParse_oB g ho hr) (by rw [List.drop_length]; decide)
theorem flatZ_leaf {L : List (List Int)} {i : Nat} {z : List Int} {cs : List (List Sp)} (hi : L[i]? = some z) (hs : shZ z = some (cs, [])) (hq : ptsN cs ≤ 20000) : flatZ L i = (0, cs, 1, ptsN cs) := by
  have hl := (List.getElem?_eq_some_iff.1 hi).1
  unfold flatZ
  rw [visitZ_code]
  have hz : L.getD ((i : Int).toNat) [] = z := by rw [List.getD_eq_getElem?_getD, show ((i : Int).toNat) = i by omega, hi]; rfl
  have h0 : codeE L.length [] (i : Int) 0 = 0 := by
    unfold codeE
    rw [if_neg (by omega), if_neg (by simp), if_neg (by simp), if_neg (by decide)]
  rw [if_pos h0, hz, hs]
  unfold stepZ
  simp only
  rw [if_neg (by omega)]
  unfold partsZ
  rw [Nat.zero_add, Nat.zero_add]

/-- Slices of bytes written out in a row. -/
theorem glsIn_lit (w : World) (t : TypeId) (S : List Sl) (L : List (List Int)) (cs : Array Value) (hcs : cs = (flat encSl S).toArray) (n : Nat) (hn : S.length = n) (hl : S.length = L.length) (h : ∀ (i : Nat) (s : Sl) (z : List Int), S[i]? = some s → L[i]? = some z → Row w s.1 s.2.1 (cellsOf .u8 z) ∧ Bytes z ∧ s.2.1 ≤ 68747 ∧ s.2.1 ≤ s.2.2) : GlsIn (w.alloc (.cells cs t)) (some ⟨w.heap.size, 0, none⟩) n L := by
  refine ⟨S, rowS_vals encSl_len w t S cs hcs n hn, hl, fun i s z a b => ?_⟩
  obtain ⟨r, x⟩ := h i s z a b
  exact ⟨r.below ((Below.refl _ _).alloc (Nat.le_refl _) _), x⟩
theorem glsIn_one (w : World) (t : TypeId) {A : Option Addr} {n c : Nat} {z : List Int} (hr : Row w A n (cellsOf .u8 z)) (hB : Bytes z) (hn : n ≤ 68747) (hc : n ≤ c) : GlsIn (w.alloc (.cells #[.slice A n c] t)) (some ⟨w.heap.size, 0, none⟩) 1 [z] := by
  refine glsIn_lit w t [(A, n, c)] [z] _ rfl 1 rfl rfl fun i s y a b => ?_
  match i, a, b with
  | 0, a, b =>
    simp at a b
    subst a b
    exact ⟨hr, hB, hn, hc⟩
  | i + 1, a, _ => simp at a
theorem glsIn_two (w : World) (t : TypeId) {A B : Option Addr} {n c m d : Nat} {z y : List Int} (hr : Row w A n (cellsOf .u8 z)) (hB : Bytes z) (hn : n ≤ 68747) (hc : n ≤ c) (hr2 : Row w B m (cellsOf .u8 y)) (hB2 : Bytes y) (hn2 : m ≤ 68747) (hc2 : m ≤ d) : GlsIn (w.alloc (.cells #[.slice A n c, .slice B m d] t)) (some ⟨w.heap.size, 0, none⟩) 2 [z, y] := by
  refine glsIn_lit w t [(A, n, c), (B, m, d)] [z, y] _ rfl 2 rfl rfl fun i s x a b => ?_
  match i, a, b with
  | 0, a, b =>
    simp at a b
    subst a b
    exact ⟨hr, hB, hn, hc⟩
  | 1, a, b =>
    simp at a b
    subst a b
    exact ⟨hr2, hB2, hn2, hc2⟩
  | i + 2, a, _ => simp at a
theorem bytes_nil : Bytes [] := fun x hx => by cases hx

def ex14 : Gl := ⟨0, 0, 0, 0, [0], [], [(1, 2, false)]⟩
theorem ex14_ok : ex14.ok := ⟨by decide, by decide, (fun x hx => by cases hx), by decide⟩
theorem ex14_right : oRight ex14 = true := by decide
theorem ex14_cts : ctsG ex14 = [[(1, 2, false)]] := by decide
theorem ex14_len : (oB ex14).length = 17 := by decide

set_option maxRecDepth 100000 in
set_option maxHeartbeats 2000000 in
theorem awake14_any (w : World) : Calls Try.prog 13 #[] w (True_ w) := by
  have hA1 := (Below.refl w.heap.size w).alloc (Nat.le_refl _) (.cells #[.int .u16 0] 39)
  have hA := hA1.alloc hA1.size (.cells #[.int .i16 1, .int .i16 2, .bool false] 54)
  have hr : GlV.rows ((w.alloc (.cells #[.int .u16 0] 39)).alloc (.cells #[.int .i16 1, .int .i16 2, .bool false] 54)) ⟨ex14, some ⟨w.heap.size, 0, none⟩, 1, 1, none, 0, 0, some ⟨w.heap.size + 1, 0, none⟩, 1, 1⟩ := by
    refine ⟨(row_one w .u16 0 39).below ((Below.refl _ _).alloc (Nat.le_refl _) _), Row.empty _ _, ?_⟩
    have := rowS_vals encSp_len (w.alloc (.cells #[.int .u16 0] 39)) 54 [(1, 2, false)] #[.int .i16 1, .int .i16 2, .bool false] rfl 1 rfl
    rwa [show (w.alloc (.cells #[.int .u16 0] 39)).heap.size = w.heap.size + 1 by simp] at this
  have HB := Lib.hid (obytes_any _ _ hr ⟨by show (1 : Nat) ≤ 10000; omega, by show (0 : Nat) ≤ 10000; omega, by show (1 : Nat) ≤ 10000; omega⟩ ex14_ok)
  rw [show oBytes ex14 = oB ex14 by unfold oBytes; rw [if_pos ex14_right]] at HB
  have HB2 : Hid (Calls Try.prog 21 #[.agg #[.int .i16 0, .int .i16 0, .int .i16 0, .int .i16 0, .slice (some ⟨w.heap.size, 0, none⟩) 1 1, .slice none 0 0, .slice (some ⟨w.heap.size + 1, 0, none⟩) 1 1]] ((w.alloc (.cells #[.int .u16 0] 39)).alloc (.cells #[.int .i16 1, .int .i16 2, .bool false] 54)) (RetB ((w.alloc (.cells #[.int .u16 0] 39)).alloc (.cells #[.int .i16 1, .int .i16 2, .bool false] 54)) (oB ex14))) := HB
  have hZ := shZ_oB ex14 ex14_ok ex14_right
  have hPB := oB_bytes ex14 ex14_ok.pr
  have hPl := ex14_len
  rw [ex14_cts] at hZ
  have hL : ptsOk [[], oB ex14] := by
    intro z hz
    simp only [List.mem_cons, List.not_mem_nil, or_false] at hz
    rcases hz with rfl | rfl
    · exact bytes_nil
    · exact hPB
  have hF0 : flatZ [[], oB ex14] 0 = (0, [], 1, 0) := flatZ_leaf (i := 0) (z := []) rfl rfl (by decide)
  have hF1 : flatZ [[], oB ex14] 1 = (0, [[(1, 2, false)]], 1, 1) := flatZ_leaf (i := 1) (z := oB ex14) rfl hZ (by decide)
  generalize oB ex14 = P at *
  clear HB hr hA1 hZ
  go_enter Try.func13, Try.ntmps13
  go_wp2_with fail
  with_reducible refine HB2.out.mono ?_
  rintro e w1 ⟨A1, n1, c1, rfl, hown1, hb1⟩
  have hl1 := hown1.len
  obtain rfl : n1 = 17 := by omega
  have hbw := hA.trans (hb1.mono hA.size)
  have hrow := hown1.row
  have hcap := hown1.cap
  have hA2 := (Below.refl w1.heap.size w1).alloc (Nat.le_refl _) (.cells #[.slice none 0 0, .slice A1 17 c1] 42)
  have HFa := Lib.hid (flat_any [[], P] hL (w1.alloc (.cells #[.slice none 0 0, .slice A1 17 c1] 42)) (some ⟨w1.heap.size, 0, none⟩) 2 2 0 (glsIn_two w1 42 (Row.empty _ _) bytes_nil (by omega) (by omega) hrow hPB (by omega) hcap) (by omega) (by omega) (by omega))
  unfold RetFlat at HFa
  rw [hF0] at HFa
  have hrowA := hrow.below hA2
  have hbw2 := hbw.trans (hA2.mono hbw.size)
  clear HB2 hA hown1 hb1 hbw hA2 hF0 hl1
  go_wp2_with fail
  with_reducible refine HFa.out.mono ?_
  rintro e w2 ⟨hb2, CA, n, c, rfl, hacc⟩
  have hn := hacc.len
  obtain rfl : n = 0 := by simpa using hn.symm
  have hrow2 := hrowA.below hb2
  have hbw3 := hbw2.trans (hb2.mono hbw2.size)
  have hA3 := (Below.refl w2.heap.size w2).alloc (Nat.le_refl _) (.cells #[.slice none 0 0, .slice A1 17 c1] 42)
  have HFb := Lib.hid (flat_any [[], P] hL (w2.alloc (.cells #[.slice none 0 0, .slice A1 17 c1] 42)) (some ⟨w2.heap.size, 0, none⟩) 2 2 1 (glsIn_two w2 42 (Row.empty _ _) bytes_nil (by omega) (by omega) hrow2 hPB (by omega) hcap) (by omega) (by omega) (by omega))
  unfold RetFlat at HFb
  rw [hF1] at HFb
  have hbw4 := hbw3.trans (hA3.mono hbw3.size)
  clear HFa hrow hrowA hrow2 hA3 hF1 hacc hb2 hbw2 hbw3 hn
  go_wp2_with fail
  with_reducible refine HFb.out.mono ?_
  rintro e w3 ⟨hb3, CB, m, d, rfl, hacc⟩
  have hn := hacc.len
  obtain rfl : m = 1 := by simpa using hn.symm
  have hbw5 := hbw4.trans (hb3.mono hbw4.size)
  obtain ⟨S, hSo, hSl, hSi⟩ := hacc
  obtain ⟨s, hs⟩ : ∃ s, S[0]? = some s := ⟨_, List.getElem?_eq_getElem (by have : S.length = 1 := hSl; omega)⟩
  obtain ⟨g, o, rfl, hg, hcell⟩ := atSl (hSo.row encSl_len) hs
  obtain ⟨hr1, hr2, _⟩ := hSi 0 s _ hs rfl
  obtain ⟨sa, sn, sc⟩ := s
  simp only at hcell hr1 hr2
  obtain ⟨g', o', rfl, hg', q0, q1, q2⟩ := atRp hr1 (j := 0) rfl
  have hsn := hr1.len
  obtain rfl : sn = 1 := by simpa using hsn.symm
  simp only [Nat.zero_mul, Nat.add_zero] at q0 q1 q2 hcell
  clear HFb hSo hSl hSi hs hr1 hr2 hb3 hbw4 hn hsn
  go_wp2_with fail
  go_ret
  exact ⟨rfl, hbw5⟩

end Go.Proofs.Ytdaeffnaoeblpaa
