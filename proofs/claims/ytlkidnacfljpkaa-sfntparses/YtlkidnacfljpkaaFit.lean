/- What sfnt's rise and fit answer, as contracts over this seat's translation. -/
import Derived.Test.YtlkidnacfljpkaaDir
import Derived.Test.YtlkidnacfljpkaaFind
import Derived.Test.YtlkidnacfljpkaaCells
namespace Go.Proofs.Ytlkidnacfljpkaa
open Go.RowKit
set_option linter.unusedVariables false

/-- At most, of texts. -/
def leS (a b : List UInt8) : Bool := Op.bytesLess a b || (a == b)
def riseAt (ts : List (List UInt8)) (i : Nat) : Bool := decide (i = 0) || !leS (ts.getD i []) (ts.getD (i - 1) [])
def riseK (ts : List (List UInt8)) (k : Nat) : Bool := (List.range k).all (riseAt ts)
theorem riseK_succ (ts : List (List UInt8)) (k : Nat) : riseK ts (k + 1) = (riseK ts k && riseAt ts k) := by simp [riseK, List.range_succ]
theorem riseK_mono {ts : List (List UInt8)} {k n : Nat} (h : riseK ts k = true) (hn : n ≤ k) : riseK ts n = true := by
  unfold riseK at *
  rw [List.all_eq_true] at *
  intro x hx
  exact h x (List.mem_range.2 (by have := List.mem_range.1 hx; omega))
theorem riseK_not {ts : List (List UInt8)} {k n : Nat} (h : riseAt ts k = false) (hn : k < n) : riseK ts n = false := by
  unfold riseK
  rw [List.all_eq_false]
  exact ⟨k, List.mem_range.2 hn, by rw [h]; simp⟩
def tagsE (l : List Ent) : List (List UInt8) := l.map fun t => t.tag.toList
theorem tagsE_get {l : List Ent} {k : Nat} {t : Ent} (h : l[k]? = some t) : (tagsE l).getD k [] = t.tag.toList := by
  simp [tagsE, h]

set_option maxHeartbeats 1000000 in
theorem rise_any (A : Option Addr) (n c : Nat) (l : List Ent) (w : World) (hr : RowS encE 4 w A n l) (hn : n ≤ 1000000) :
    Calls Try.prog 35 #[.slice A n c] w (Quiet w (.bool (riseK (tagsE l) n))) := by
  have Hl := Lib.hid hr.len
  go_enter Try.func35, Try.ntmps35
  go_wp2
  go_loopw [3] (fun i wr => ∃ k q : Nat, 1 ≤ k ∧ k ≤ n + 1 ∧ i = .int .i64 k ∧ riseK (tagsE l) k = true ∧ wr = w.drewN q) (fun i _ => n + 1 - (intOf i).toNat)
  case atStart => exact ⟨1, 0, Nat.le_refl _, by omega, rfl, rfl, rfl⟩
  case round =>
    obtain ⟨k, q, hk1, hk, rfl, hR, rfl⟩ := hrel
    have HR := Lib.hid hR
    clear hR
    by_cases hlt : k < n
    · obtain ⟨x, hx⟩ : ∃ x, l[k]? = some x := ⟨_, List.getElem?_eq_getElem (by have := Hl.out; omega)⟩
      obtain ⟨y, hy⟩ : ∃ y, l[k - 1]? = some y := ⟨_, List.getElem?_eq_getElem (by have := Hl.out; omega)⟩
      obtain ⟨g, off, rfl, hg, hc⟩ := hr.at encE_len (by omega) hx
      obtain ⟨g', off', e', _, hc'⟩ := hr.at encE_len (by omega) hy
      simp only [Option.some.injEq, Addr.mk.injEq, and_true] at e'
      obtain ⟨rfl, rfl⟩ := e'
      have c0 : w.cell? ⟨g, off + k * 4, none⟩ = some (.string x.tag) := hc 0 _ rfl
      have c1 : w.cell? ⟨g, off + (k - 1) * 4, none⟩ = some (.string y.tag) := hc' 0 _ rfl
      have Hx := Lib.hid (tagsE_get hx)
      have Hy := Lib.hid (tagsE_get hy)
      obtain ⟨xt, _, _, _⟩ := x
      obtain ⟨yt, _, _, _⟩ := y
      simp only at c0 c1
      have hk0 : (0 : Int) ≤ (k : Int) - 1 := by omega
      have hk2 : (k : Int) - 1 < (n : Int) := by omega
      have hk3 : (k : Int) < (n : Int) := by omega
      have hk4 : (0 : Int) ≤ (k : Int) := by omega
      have hk5 : ((k : Int) - 1).toNat = k - 1 := by omega
      have hk6 : IntKind.i64.wrap ((k : Int) - 1) = (k : Int) - 1 := IntWalk.i64_in _ (by omega)
      clear hx hy hc hc' hr
      cases h1 : Op.bytesLess xt.toList yt.toList with
      | true =>
        have HF : Hid (riseK (tagsE l) n = false) := by
          refine riseK_not (k := k) ?_ hlt
          unfold riseAt leS
          rw [Hx.out, Hy.out]
          simp only at h1 ⊢
          rw [h1]
          simp
          omega
        go_wp2
        go_quiet (fail)
        go_wp2
        go_ret
        exact ⟨by rw [HF.out]; rfl, _, by first | rfl | (rw [World.drewN_drewN])⟩
      | false =>
        cases h2 : (xt.toList == yt.toList) with
        | true =>
          have HF : Hid (riseK (tagsE l) n = false) := by
            refine riseK_not (k := k) ?_ hlt
            unfold riseAt leS
            rw [Hx.out, Hy.out]
            simp only at h1 h2 ⊢
            rw [h1, h2]
            simp
            omega
          go_wp2
          go_quiet (fail)
          go_wp2
          go_ret
          exact ⟨by rw [HF.out]; rfl, _, by first | rfl | (rw [World.drewN_drewN])⟩
        | false =>
          have HT : Hid (riseK (tagsE l) (k + 1) = true) := by
            show riseK (tagsE l) (k + 1) = true
            rw [riseK_succ, HR.out]
            unfold riseAt leS
            rw [Hx.out, Hy.out]
            simp only at h1 h2 ⊢
            rw [h1, h2]
            simp
          go_wp2
          go_quiet (fail)
          go_wp2
          go_roundw
          case rel => exact ⟨k + 1, _, by omega, by omega, by go_num, HT.out, by first | rfl | (rw [World.drewN_drewN])⟩
          case measure => simp [intOf]; omega
    · have HT := Lib.hid (riseK_mono HR.out (show n ≤ k by omega))
      go_wp2
      go_ret
      exact ⟨by rw [HT.out]; rfl, q, rfl⟩

/-- Does a table not stand behind the directory, at a multiple of four, and within so many bytes? -/
def badE (F S : Int) (t : Ent) : Bool := (t.at_ % 4 != 0) || decide (t.at_ < F) || decide (S < t.at_ + t.sz)
def Ent.ok (t : Ent) : Prop := (0 ≤ t.sm ∧ t.sm < 4294967296) ∧ (0 ≤ t.at_ ∧ t.at_ < 4294967296) ∧ (0 ≤ t.sz ∧ t.sz < 4294967296)
/-- Rows of numbers that may be. -/
abbrev EntK := { t : Ent // t.ok }
instance : Inhabited EntK := ⟨⟨ent0, by decide, by decide, by decide⟩⟩
def encK (t : EntK) : List Value := encE t.1
theorem encK_len (t : EntK) : (encK t).length = 4 := rfl

set_option maxHeartbeats 1000000 in
theorem fit1_any (t : Ent) (ho : t.ok) (b1 b2 : Nat) (F S : Int) (w : World) (c1 : w.cell? ⟨b1, 0, none⟩ = some (.int .u64 F)) (c2 : w.cell? ⟨b2, 0, none⟩ = some (.int .i64 S)) (F0 : 0 ≤ F) (F1 : F ≤ 1000000) (S0 : 0 ≤ S) (S1 : S ≤ 140737488351232) (h1 : b1 < w.heap.size) (h2 : b2 < w.heap.size) :
    Calls Try.prog 68 #[.agg (encE t).toArray, .pointer (some ⟨b1, 0, none⟩), .pointer (some ⟨b2, 0, none⟩)] w (Ret w (.bool (badE F S t))) := by
  obtain ⟨tg, sm, at_, sz⟩ := t
  obtain ⟨⟨s0, s1⟩, ⟨a0, a1⟩, ⟨z0, z1⟩⟩ := ho
  simp only at s0 s1 a0 a1 z0 z1
  have hb1 : b1 ≠ w.heap.size := by omega
  have hb2 : b2 ≠ w.heap.size := by omega
  unfold badE
  simp only
  show Calls Try.prog 68 #[.agg #[.string tg, .int .u32 sm, .int .u32 at_, .int .u32 sz], .pointer (some ⟨b1, 0, none⟩), .pointer (some ⟨b2, 0, none⟩)] w _
  cases e1 : (at_ % 4 != 0) <;> cases e2 : decide (at_ < F) <;> cases e3 : decide (S < at_ + sz)
  all_goals
    go_enter Try.func68, Try.ntmps68
    go_wp2
    go_ret
    exact ⟨rfl, (Below.refl _ _).alloc (Nat.le_refl _) _⟩

theorem predE (F S : Int) (b1 b2 : Nat) (w : World) (c1 : w.cell? ⟨b1, 0, none⟩ = some (.int .u64 F)) (c2 : w.cell? ⟨b2, 0, none⟩ = some (.int .i64 S)) (F0 : 0 ≤ F) (F1 : F ≤ 1000000) (S0 : 0 ≤ S) (S1 : S ≤ 140737488351232) (h1 : b1 < w.heap.size) (h2 : b2 < w.heap.size) :
    PredBelow Try.prog 68 #[.pointer (some ⟨b1, 0, none⟩), .pointer (some ⟨b2, 0, none⟩)] (fun x : EntK => .agg (encK x).toArray) (fun x => badE F S x.1) w := fun W x hb => by
  have hsz := hb.size
  refine (fit1_any x.1 x.2 b1 b2 F S W ((hb.cell (p := ⟨b1, 0, none⟩) h1).trans c1) ((hb.cell (p := ⟨b2, 0, none⟩) h2).trans c2) F0 F1 S0 S1 (by omega) (by omega)).mono ?_
  rintro e w' ⟨rfl, hb'⟩
  exact ⟨rfl, hb.trans (hb'.mono hb.size)⟩

theorem containsE_any (F S : Int) (b1 b2 g off n c : Nat) (l : List Ent) (w : World) (hr : RowS encE 4 w (some ⟨g, off, none⟩) n l) (hok : ∀ t ∈ l, t.ok) (h0 : 0 < n) (hn : n ≤ 1000000)
    (c1 : w.cell? ⟨b1, 0, none⟩ = some (.int .u64 F)) (c2 : w.cell? ⟨b2, 0, none⟩ = some (.int .i64 S)) (F0 : 0 ≤ F) (F1 : F ≤ 1000000) (S0 : 0 ≤ S) (S1 : S ≤ 140737488351232) (h1 : b1 < w.heap.size) (h2 : b2 < w.heap.size) :
    Calls Try.prog 67 #[.slice (some ⟨g, off, none⟩) n c, .func (.func 68) #[] #[.pointer (some ⟨b1, 0, none⟩), .pointer (some ⟨b2, 0, none⟩)]] w (Ret w (.bool (l.any (badE F S)))) := by
  have eg : ∀ args w, (callFunc 68 args).run Try.prog w = .ok (.enter 68 args) w := enters_of Try.func68 (by kernel_rfl) rfl
  have hln := hr.len
  have hg : g < w.heap.size := by
    obtain ⟨g', off', e', hg', _⟩ := hr.2.2 (by omega)
    simp only [Option.some.injEq, Addr.mk.injEq, and_true] at e'
    omega
  have hal : (l.attachWith Ent.ok hok).length = l.length := by simp
  have hcon := AnyQ.slices_ContainsFunc Try.layContainsE 4 Try.isAgg73 Try.sizeOf73 encK encK_len (fun x => badE F S x.1) 68 #[.pointer (some ⟨b1, 0, none⟩), .pointer (some ⟨b2, 0, none⟩)] eg g off n c (l.attachWith Ent.ok hok) w
    (predE F S b1 b2 w c1 c2 F0 F1 S0 S1 h1 h2) (by omega) (by omega) hg (fun j hj i v hi => by
      have hj' : j < l.length := by omega
      rw [getElem!_pos _ j hj] at hi
      have hx : l[j]? = some ((l.attachWith Ent.ok hok)[j]).1 := by rw [List.getElem?_eq_getElem hj']; simp
      obtain ⟨g', off', e', _, hc⟩ := hr.at encE_len (by omega) (j := j) hx
      simp only [Option.some.injEq, Addr.mk.injEq, and_true] at e'
      obtain ⟨rfl, rfl⟩ := e'
      exact hc i v hi)
  change Calls Try.prog 67 _ _ _ at hcon
  rw [List.take_of_length_le (by omega)] at hcon
  refine hcon.mono ?_
  rintro e w' ⟨rfl, hb⟩
  refine ⟨?_, hb⟩
  rw [show (l.attachWith Ent.ok hok).any (fun x => badE F S x.1) = l.any (badE F S) by
    have := List.any_map (l := l.attachWith Ent.ok hok) (f := Subtype.val) (p := badE F S)
    rw [List.attachWith_map_subtype_val] at this
    rw [this]
    rfl]

set_option maxHeartbeats 1000000 in
theorem fit_any (g off n c : Nat) (l : List Ent) (S : Int) (w : World) (hr : RowS encE 4 w (some ⟨g, off, none⟩) n l) (hok : ∀ t ∈ l, t.ok) (h0 : 0 < n) (hn : n ≤ 60000) (S0 : 0 ≤ S) (S1 : S ≤ 140737488351232) :
    Calls Try.prog 36 #[.slice (some ⟨g, off, none⟩) n c, .int .i64 S] w (Ret w (.bool (!(l.any (badE (12 + 16 * n) S))))) := by
  have hA : Below w.heap.size w ((w.alloc (.cells #[.int .i64 S] 3)).alloc (.cells #[.int .u64 (12 + (n : Int) * 16)] 88)) := ((Below.refl _ _).alloc (Nat.le_refl _) _).alloc (by simp) _
  have hr' := hr.below hA
  have k1 := heap_alloc_new w (.cells #[.int .i64 S] 3)
  have k2 := heap_alloc_new (w.alloc (.cells #[.int .i64 S] 3)) (.cells #[.int .u64 (12 + (n : Int) * 16)] 88)
  rw [show (w.alloc (.cells #[.int .i64 S] 3)).heap.size = w.heap.size + 1 by simp] at k2
  have k1' := kept_alloc k1 (.cells #[.int .u64 (12 + (n : Int) * 16)] 88)
  have hn0 : (0 : Int) ≤ (n : Int) := by omega
  have hn1 : (n : Int) ≤ 60000 := by omega
  have Hok := Lib.hid hok
  have HC := Lib.hid (containsE_any (12 + (n : Int) * 16) S (w.heap.size + 1) w.heap.size g off n c l _ hr' Hok.out h0 (by omega) (cell_of_row _ _ 0 _ _ _ k2) (cell_of_row _ _ 0 _ _ _ k1') (by omega) (by omega) S0 S1 (lt_of_block k2) (lt_of_block k1'))
  have HE := Lib.hid (show (12 + 16 * (n : Int)) = 12 + (n : Int) * 16 by omega)
  clear hr hr' k1 k2 k1' hok
  go_enter Try.func36, Try.ntmps36
  go_wp2_with fail
  with_reducible refine (dirSize_any (n : Int) _ (by omega) (by omega)).mono ?_
  rintro e w' ⟨rfl, rfl⟩
  go_wp2_with fail
  with_reducible refine HC.out.mono ?_
  rintro e w1 ⟨rfl, hb1⟩
  go_wp2
  go_ret
  exact ⟨by rw [HE.out]; rfl, hA.trans (hb1.mono hA.size)⟩

end Go.Proofs.Ytlkidnacfljpkaa
