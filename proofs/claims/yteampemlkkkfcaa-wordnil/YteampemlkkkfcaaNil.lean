/- Nil Readers and Writers, and the law WordNil. -/
import Derived.Test.YteampemlkkkfcaaWrites
namespace Go.Proofs.Yteampemlkkkfcaa
open Go.RowKit
set_option linter.unusedVariables false

/-- What a call that changes nothing leaves. -/
def Pure (w : World) (v : Value) (e : Ending) (w' : World) : Prop := e = .returned v ∧ w = w'

theorem next_nil (m : Int) (w : World) : Calls Try.prog 49 #[.pointer none, .int .i64 m] w (Pure w (.slice none 0 0)) := by
  go_enter Try.func49, Try.ntmps49
  go_wp2
  go_ret
  exact ⟨rfl, rfl⟩

theorem number_nil (m : Int) (w : World) : Calls Try.prog 48 #[.pointer none, .int .i64 m] w (Pure w (.int .u32 0)) := by
  go_enter Try.func48, Try.ntmps48
  go_wp2_with fail
  refine (next_nil m w).mono ?_
  rintro e w' ⟨rfl, rfl⟩
  go_wp2
  refine wp_loop_rounds 1 ?_
  rw [rounds_succ]
  go_wp2
  go_ret
  exact ⟨rfl, rfl⟩

theorem u8_nil (w : World) : Calls Try.prog 20 #[.pointer none] w (Pure w (.int .u8 0)) := by
  go_enter Try.func20, Try.ntmps20
  go_wp2_with fail
  refine (number_nil _ w).mono ?_
  rintro e w' ⟨rfl, rfl⟩
  go_wp2
  go_ret
  exact ⟨rfl, rfl⟩

theorem u16_nil (w : World) : Calls Try.prog 21 #[.pointer none] w (Pure w (.int .u16 0)) := by
  go_enter Try.func21, Try.ntmps21
  go_wp2_with fail
  refine (number_nil _ w).mono ?_
  rintro e w' ⟨rfl, rfl⟩
  go_wp2
  go_ret
  exact ⟨rfl, rfl⟩

theorem i16_nil (w : World) : Calls Try.prog 22 #[.pointer none] w (Pure w (.int .i16 0)) := by
  go_enter Try.func22, Try.ntmps22
  go_wp2_with fail
  refine (u16_nil w).mono ?_
  rintro e w' ⟨rfl, rfl⟩
  go_wp2
  go_ret
  exact ⟨rfl, rfl⟩

theorem u32_nil (w : World) : Calls Try.prog 24 #[.pointer none] w (Pure w (.int .u32 0)) := by
  go_enter Try.func24, Try.ntmps24
  go_wp2_with fail
  refine (number_nil _ w).mono ?_
  rintro e w' ⟨rfl, rfl⟩
  go_wp2
  go_ret
  exact ⟨rfl, rfl⟩

theorem take_nil (m : Int) (w : World) : Calls Try.prog 26 #[.pointer none, .int .i64 m] w (Pure w (.slice none 0 0)) := by
  go_enter Try.func26, Try.ntmps26
  go_wp2_with fail
  refine (next_nil _ w).mono ?_
  rintro e w' ⟨rfl, rfl⟩
  go_wp2
  go_ret
  exact ⟨rfl, rfl⟩

theorem take_neg (B b : Nat) (m : Int) (zs : List Int) (a : Int) (bad : Bool) (w : World) (h : Rd w B b zs a bad) (hm : m < 0) :
    Calls Try.prog 26 #[.pointer (some ⟨b, 0, none⟩), .int .i64 m] w (RetNext w B b [] [] a true) := by
  go_enter Try.func26, Try.ntmps26
  go_wp2_with fail
  refine (next_bad B b m zs a bad w h (.inl hm)).mono ?_
  rintro e w1 ⟨A, n, c, rfl, hr⟩
  go_wp2
  go_ret
  exact ⟨A, n, c, rfl, hr⟩

theorem bad_nil (w : World) : Calls Try.prog 27 #[.pointer none] w (Pure w (.bool true)) := by
  go_enter Try.func27, Try.ntmps27
  go_wp2
  go_ret
  exact ⟨rfl, rfl⟩

theorem left_nil (w : World) : Calls Try.prog 28 #[.pointer none] w (Pure w (.int .i64 0)) := by
  go_enter Try.func28, Try.ntmps28
  go_wp2
  go_ret
  exact ⟨rfl, rfl⟩

theorem at_nil (w : World) : Calls Try.prog 29 #[.pointer none] w (Pure w (.int .i64 0)) := by
  go_enter Try.func29, Try.ntmps29
  go_wp2
  go_ret
  exact ⟨rfl, rfl⟩

theorem add_nil (A : Option Addr) (n c : Nat) (w : World) : Calls Try.prog 50 #[.pointer none, .slice A n c] w (Pure w (.pointer none)) := by
  go_enter Try.func50, Try.ntmps50
  go_wp2
  go_ret
  exact ⟨rfl, rfl⟩

theorem put_nil (A : Option Addr) (n c : Nat) (w : World) : Calls Try.prog 34 #[.pointer none, .slice A n c] w (Pure w (.pointer none)) := by
  go_enter Try.func34, Try.ntmps34
  go_wp2_with fail
  refine (add_nil _ _ _ w).mono ?_
  rintro e w' ⟨rfl, rfl⟩
  go_wp2
  go_ret
  exact ⟨rfl, rfl⟩

theorem done_nil (w : World) : Calls Try.prog 35 #[.pointer none] w (Pure w (.slice none 0 0)) := by
  go_enter Try.func35, Try.ntmps35
  go_wp2
  go_ret
  exact ⟨rfl, rfl⟩

theorem wu8_nil (x : Int) (w : World) (h0 : 0 ≤ x) (h1 : x < 256) : Calls Try.prog 30 #[.pointer none, .int .u8 x] w (Ret w (.pointer none)) := by
  go_enter Try.func30, Try.ntmps30
  go_wp2_with fail
  refine (add_nil _ _ _ _).mono ?_
  rintro e w' ⟨rfl, rfl⟩
  go_wp2
  go_ret
  exact ⟨rfl, (Below.refl _ _).alloc (Nat.le_refl _) _⟩

theorem wu16_nil (x : Int) (w : World) (h0 : 0 ≤ x) (h1 : x < 256) : Calls Try.prog 31 #[.pointer none, .int .u16 x] w (Ret w (.pointer none)) := by
  go_enter Try.func31, Try.ntmps31
  go_wp2_with fail
  refine (add_nil _ _ _ _).mono ?_
  rintro e w' ⟨rfl, rfl⟩
  go_wp2
  go_ret
  exact ⟨rfl, (Below.refl _ _).alloc (Nat.le_refl _) _⟩

theorem wu32_nil (x : Int) (w : World) (h0 : 0 ≤ x) (h1 : x < 256) : Calls Try.prog 33 #[.pointer none, .int .u32 x] w (Ret w (.pointer none)) := by
  go_enter Try.func33, Try.ntmps33
  go_wp2_with fail
  refine (add_nil _ _ _ _).mono ?_
  rintro e w' ⟨rfl, rfl⟩
  go_wp2
  go_ret
  exact ⟨rfl, (Below.refl _ _).alloc (Nat.le_refl _) _⟩

theorem wi16_nil (x : Int) (w : World) (h0 : 0 ≤ x) (h1 : x < 256) : Calls Try.prog 32 #[.pointer none, .int .i16 x] w (Ret w (.pointer none)) := by
  go_enter Try.func32, Try.ntmps32
  go_wp2_with fail
  refine (wu16_nil _ _ h0 h1).mono ?_
  rintro e w1 ⟨rfl, hb⟩
  go_wp2
  go_ret
  exact ⟨rfl, hb⟩

/-- One number stored into a fresh slice. -/
theorem Own.set {t : TypeId} {k : IntKind} {w : World} {B g n c : Nat} {zs : List Int} (h : Own t k w B (some ⟨g, 0, none⟩) n c zs) (j : Nat) (x : Int) : Own t k (w.setCell ⟨g, j, none⟩ (.int k x)) B (some ⟨g, 0, none⟩) n c (zs.set j x) := by
  have := (World.ownsRow.stored h j (.int k x)).1
  simpa [Own, cellsOf, List.map_set] using this

theorem set_grown {w : World} {g : Nat} (i : Nat) (u : Value) : w.grownBy (w.setCell ⟨g, i, none⟩ u) (some g) := grown_set (World.grownBy.refl w _) i u

/-- Behind a round that adds one to each number of a fresh slice. -/
def Inc (w : World) (B : Nat) (A : Option Addr) (n c : Nat) (wr : World) : Prop := (∃ ms, Own 5 .u8 wr B A n c ms) ∧ w.grownBy wr (blockOf A)

theorem Inc.start {w : World} {B : Nat} {A : Option Addr} {n c : Nat} {ms : List Int} (h : Own 5 .u8 w B A n c ms) : Inc w B A n c w := ⟨⟨ms, h⟩, World.grownBy.refl w _⟩

theorem Inc.at {w wr : World} {B : Nat} {A : Option Addr} {n c k : Nat} (h : Inc w B A n c wr) (hk : k < n) : ∃ g x, A = some ⟨g, 0, none⟩ ∧ wr.cell? ⟨g, k, none⟩ = some (.int .u8 x) ∧ wr.frozen? ⟨g, k, none⟩ = false ∧ ∀ y, Inc w B A n c (wr.setCell ⟨g, k, none⟩ (.int .u8 y)) := by
  obtain ⟨⟨ms, ho⟩, hg⟩ := h
  have hl := ho.len
  rcases ho.shape with ⟨_, _, rfl, _⟩ | ⟨g, cur, rfl, _, _, hh, _⟩
  · omega
  · obtain ⟨x, ex⟩ := get_some (zs := ms) (k := k) (by omega)
    obtain ⟨g', off, e, _, hc⟩ := ho.row.at (cellsOf_get (k := .u8) ex)
    simp only [Option.some.injEq, Addr.mk.injEq, and_true] at e
    obtain ⟨rfl, rfl⟩ := e
    rw [Nat.zero_add] at hc
    exact ⟨g, x, rfl, hc, by simp [World.frozen?, hh], fun y => ⟨⟨_, ho.set k y⟩, grown_set hg k _⟩⟩

set_option maxHeartbeats 4000000 in
theorem law_WordNil (A : Option Addr) (n c : Nat) (zs : List Int) (m : Int) (w : World) (hr : Row w A n (cellsOf .u8 zs)) (hB : Bytes zs) (hn : n ≤ 9223372036854775807) :
    Calls Try.prog 7 #[.slice A n c, .int .i64 m] w (True_ w) := by
  go_enter Try.func7, Try.ntmps7
  go_wp2_with fail
  refine (awake_any w).mono ?_
  rintro e w0 ⟨rfl, hb0⟩
  go_wp2_with fail
  refine (cut_any _ _ _ zs 20 _ (hr.below hb0) hn (by omega)).mono ?_
  rintro e w1 ⟨A1, n1, k1, rfl, hown, hb1'⟩
  have hb1 : Below w.heap.size w w1 := hb0.trans (hb1'.mono hb0.size)
  have hl1 : n1 ≤ 20 := by have := hown.len; rw [List.length_take] at this; simp at this; omega
  have hrow1 := hown.row
  have Hl := Lib.hid hown.len
  clear hb1' hb0 hr hB hn hown
  generalize zs.take (20 : Int).toNat = ps at *
  go_wp2_with fail
  refine (u8_nil _).mono ?_
  rintro e w' ⟨rfl, rfl⟩
  go_wp2_with fail
  refine (u16_nil _).mono ?_
  rintro e w' ⟨rfl, rfl⟩
  go_wp2_with fail
  refine (i16_nil _).mono ?_
  rintro e w' ⟨rfl, rfl⟩
  go_wp2_with fail
  refine (u32_nil _).mono ?_
  rintro e w' ⟨rfl, rfl⟩
  go_wp2_with fail
  refine (take_nil _ _).mono ?_
  rintro e w' ⟨rfl, rfl⟩
  go_wp2_with fail
  refine (at_nil _).mono ?_
  rintro e w' ⟨rfl, rfl⟩
  go_wp2_with fail
  refine (left_nil _).mono ?_
  rintro e w' ⟨rfl, rfl⟩
  go_wp2_with fail
  refine (bad_nil _).mono ?_
  rintro e w' ⟨rfl, rfl⟩
  go_wp2_with fail
  refine (wu8_nil _ _ (by omega) (by omega)).mono ?_
  rintro e w2 ⟨rfl, hb2'⟩
  have hrow2 := hrow1.below hb2'
  have hb2 : Below w.heap.size w w2 := hb1.trans (hb2'.mono hb1.size)
  clear hb2' hrow1 hb1
  go_wp2_with fail
  refine (wu16_nil _ _ (by omega) (by omega)).mono ?_
  rintro e w3 ⟨rfl, hb3'⟩
  have hrow3 := hrow2.below hb3'
  have hb3 : Below w.heap.size w w3 := hb2.trans (hb3'.mono hb2.size)
  clear hb3' hrow2 hb2
  go_wp2_with fail
  refine (wi16_nil _ _ (by omega) (by omega)).mono ?_
  rintro e w4 ⟨rfl, hb4'⟩
  have hrow4 := hrow3.below hb4'
  have hb4 : Below w.heap.size w w4 := hb3.trans (hb4'.mono hb3.size)
  clear hb4' hrow3 hb3
  go_wp2_with fail
  refine (wu32_nil _ _ (by omega) (by omega)).mono ?_
  rintro e w5 ⟨rfl, hb5'⟩
  have hrow5 := hrow4.below hb5'
  have hb5 : Below w.heap.size w w5 := hb4.trans (hb5'.mono hb4.size)
  clear hb5' hrow4 hb4
  go_wp2_with fail
  refine (put_nil _ _ _ _).mono ?_
  rintro e w' ⟨rfl, rfl⟩
  go_wp2_with fail
  refine (done_nil _).mono ?_
  rintro e w' ⟨rfl, rfl⟩
  have ha5 : Below w5.heap.size w5 (w5.alloc (.cells #[.slice A1 n1 k1] 22)) := (Below.refl _ _).alloc (Nat.le_refl _) _
  go_wp2_with fail
  refine (join_any _ _ _ [⟨A1, n1, k1, ps⟩] _ (row_vals w5 22 _ 1 rfl) ?_ (by omega) (by have := Hl.out; simp [joined]; omega)).mono ?_
  · intro p hp
    simp at hp
    subst hp
    exact hrow5.below ha5
  rintro e w6 ⟨A6, n6, k6, rfl, hown6, hb6'⟩
  rw [show joined [⟨A1, n1, k1, ps⟩] = ps by simp [joined]] at hown6
  have hs5 := hb5.size
  have hk6 : Below w5.heap.size w5 w6 := ha5.trans (hb6'.mono (by simp))
  have hrow6 := hrow5.below hk6
  have hb6 : Below w.heap.size w w6 := hb5.trans (hk6.mono hs5)
  have hown6 : OwnB w6 w5.heap.size A6 n6 k6 ps := hown6.mono (by simp)
  have hn6 : n6 ≤ 20 := by have := hown6.len; have := Hl.out; omega
  have Hpm := Lib.hid (fun (g : Nat) (hg : w5.heap.size ≤ g) => hrow5.ne hg)
  have hs56 : w5.heap.size ≤ w6.heap.size := hk6.size
  clear ha5 hb6' hk6 hrow5 hb5
  go_wp2_with fail
  refine (new_any _ _ _ _ _ hown6.row (by omega)).mono ?_
  rintro e w7 ⟨rx, rfl, hrx, hb7'⟩
  have hs6 := hb6.size
  have hown7 := hown6.below hb7'
  have hrow7 := hrow6.below hb7'
  have hb7 : Below w.heap.size w w7 := hb6.trans (hb7'.mono hs6)
  have Hm6 := Lib.hid (fun g e => (hown6.from_ g e).2)
  clear hb7' hrow6 hb6 hown6
  have hw7 := wr_new w7
  have ha7 : Below w7.heap.size w7 (w7.alloc (.cells #[.slice none 0 0] 46)) := (Below.refl _ _).alloc (Nat.le_refl _) _
  go_wp2_with fail
  refine (wput_any _ _ _ _ _ _ ps _ hw7 (hown7.row.below ha7) (by simp; omega)).mono ?_
  rintro e w8 ⟨rfl, hw8, ht8⟩
  have hs7 := hb7.size
  have hk8 : Below w7.heap.size w7 w8 := hw7.older ha7 (Nat.le_refl _) ht8
  have hown8 := hown7.below hk8
  have hrow8 := hrow7.below hk8
  have hrx8 := hrx.below hk8
  have hb8 : Below w.heap.size w w8 := hb7.trans (hk8.mono hs7)
  rw [List.nil_append] at hw8
  have hrl7 : w6.heap.size ≤ rx ∧ rx < w7.heap.size := ⟨hrx.from_, hrx.lt⟩
  have hs67 : w6.heap.size ≤ w7.heap.size := by have := hrx.from_; have := hrx.lt; omega
  clear ht8 hk8 hown7 hrow7 hrx hw7 ha7 hb7
  go_wp2
  go_loopw [80] (fun i wr => ∃ k : Nat, k ≤ n6 ∧ i = .int .i64 k ∧ Inc w8 w5.heap.size A6 n6 k6 wr) (fun i _ => n6 - (intOf i).toNat)
  case atStart => exact ⟨0, Nat.zero_le _, rfl, Inc.start hown8⟩
  case round =>
    obtain ⟨k, hk, rfl, hinc⟩ := hrel
    by_cases hlt : k < n6
    · obtain ⟨g, x, hA, hc, hf, hnext⟩ := hinc.at hlt
      subst hA
      have Hn := Lib.hid hnext
      clear hnext hinc
      go_wp2
      go_roundw
      case rel => exact ⟨k + 1, by omega, by go_num, Hn.out _⟩
      case measure => simp [intOf]; omega
    · obtain ⟨⟨ms, hm9⟩, hg9⟩ := hinc
      obtain ⟨w9, rfl⟩ : ∃ x, x = wr := ⟨wr, rfl⟩
      have hmlt : ∀ g, blockOf A6 = some g → w5.heap.size ≤ g ∧ g < w6.heap.size := fun g e => ⟨(hown8.from_ g e).1, Hm6.out g e⟩
      have hb9 : Below w.heap.size w w9 := hb8.grown hg9 hb8.size (fun g e => by have := (hmlt g e).1; omega)
      have hrow9 : Row w9 A1 n1 (cellsOf .u8 ps) := by
        cases hA6 : blockOf A6 with
        | none => rw [hA6] at hg9; exact hrow8.grown hg9 (fun g e => by simp)
        | some g => rw [hA6] at hg9; exact hrow8.ask hg9 (Hpm.out g (hmlt g hA6).1)
      have hrx9 : Rd w9 w6.heap.size rx ps 0 false := hrx8.keep hg9.size (fun g hg hB _ => hg9.block g hg (fun e => by have := (hmlt g e.symm).2; omega))
      have hw9 : Wr w9 w7.heap.size w7.heap.size ps := hw8.keep (fun g hs => hg9.block g (hw8.owns g hs).2 (fun e => by have := (hmlt g e.symm).2; have := (hw8.owns g hs).1; omega))
      clear hg9 hm9 hmlt hrx8 hw8 hrow8 hb8 hown8
      go_wp2_with fail
      refine (done_any _ _ _ _ hw9 (by have := Hl.out; omega)).mono ?_
      rintro e w10 ⟨A10, n10, k10, rfl, hown10, hb10'⟩
      have hn10 : n10 ≤ 20 := by have := hown10.len; have := Hl.out; omega
      have hs9 := hb9.size
      have HR9 := Lib.hid hrow9
      have Hw9 := Lib.hid hw9
      have Hrx9 := Lib.hid hrx9
      have Hb10 := Lib.hid hb10'
      have Hb9 := Lib.hid hb9
      have Hq := Lib.hid (fun g e => (hown10.from_ g e).1)
      clear hrow9 hrx9 hw9 hb9 hb10'
      go_wp2
      go_loopw [93] (fun i wq => ∃ k : Nat, k ≤ n10 ∧ i = .int .i64 k ∧ Inc w10 w9.heap.size A10 n10 k10 wq) (fun i _ => n10 - (intOf i).toNat)
      case atStart => exact ⟨0, Nat.zero_le _, rfl, Inc.start hown10⟩
      case round =>
        obtain ⟨k', hk', rfl, hinc⟩ := hrel
        by_cases hlt' : k' < n10
        · obtain ⟨g, x, hA, hc, hf, hnext⟩ := hinc.at hlt'
          subst hA
          have Hn := Lib.hid hnext
          clear hnext hinc
          go_wp2
          go_roundw
          case rel => exact ⟨k' + 1, by omega, by go_num, Hn.out _⟩
          case measure => simp [intOf]; omega
        · obtain ⟨_, hg11⟩ := hinc
          have hk11 : Below w9.heap.size w9 wr := Hb10.out.grown hg11 Hb10.out.size (fun g e => Hq.out g e)
          have hb11 : Below w.heap.size w wr := Hb9.out.trans (hk11.mono hs9)
          have hrow11 := HR9.out.below hk11
          have hrx11 := Hrx9.out.below hk11
          have hw11 := Hw9.out.below hk11
          have Hrxp := Lib.hid (Hpm.out rx (by omega))
          clear hg11 hk11 HR9 Hw9 Hrx9 Hb10 Hb9 Hq hown10
          have hq := ask_front ps [] 0 false n1 Hl.out
          rw [List.append_nil] at hq
          have Hq := Lib.hid hq
          clear hq
          go_wp2_with fail
          refine (take_any _ rx _ _ _ _ hrx11 (by have := Hl.out; omega) (by omega) (by omega) n1).mono ?_
          rintro e w12 ⟨A12, n12, k12, rfl, hrow12, _, hrd12, hg⟩
          have hb12 : Below w.heap.size w w12 := hb11.grown hg hb11.size (fun k e => by cases e; omega)
          have hp12 := hrow11.ask hg Hrxp.out
          have hw12 := hw11.keep (fun g hs => hg.block g (hw11.owns g hs).2 (fun e => by cases e; have := (hw11.owns rx hs).1; omega))
          rw [Hq.out.1] at hrow12
          have hn12 : n12 ≤ 20 := by have := hrow12.len; have := Hl.out; omega
          clear hg hrx11 hb11 hrow11 hw11 hrd12
          go_wp2_with fail
          refine (same_any _ _ _ _ _ _ _ _ _ hrow12 hp12 (by omega) (by omega)).mono ?_
          rintro e w13 ⟨rfl, q, rfl⟩
          rw [sameB_refl]
          have hp13 := hp12.drewN q
          have hw13 := hw12.drewN q
          have hb13 := below_drewN hb12 q
          generalize w12.drewN q = w13 at *
          clear hrow12 hp12 hw12 hb12
          go_wp2_with fail
          refine (done_any _ _ _ _ hw13 (by have := Hl.out; omega)).mono ?_
          rintro e w14 ⟨A14, n14, k14, rfl, hown14, hb14'⟩
          have hp14 := hp13.below hb14'
          have hb14 : Below w.heap.size w w14 := hb13.trans (hb14'.mono hb13.size)
          have hn14 : n14 ≤ 20 := by have := hown14.len; have := Hl.out; omega
          have hrow14 := hown14.row
          clear hp13 hw13 hb13 hb14' hown14
          go_wp2_with fail
          refine (same_any _ _ _ _ _ _ _ _ _ hrow14 hp14 (by omega) (by omega)).mono ?_
          rintro e w15 ⟨rfl, q', rfl⟩
          rw [sameB_refl]
          have hp15 := hp14.drewN q'
          have hb15 := below_drewN hb14 q'
          generalize w14.drewN q' = w15 at *
          clear hrow14 hp14 hb14
          by_cases hm : 0 ≤ m
          · have hmb : decide (0 ≤ m) = true := by simp [hm]
            go_wp2
            go_ret
            exact ⟨rfl, hb15⟩
          · have hmb : decide (0 ≤ m) = false := by simp [hm]
            go_wp2_with fail
            refine (new_any _ _ _ _ _ hp15 (by omega)).mono ?_
            rintro e w16 ⟨ry, rfl, hry, hb16'⟩
            have hs15 := hb15.size
            have hb16 : Below w.heap.size w w16 := hb15.trans (hb16'.mono hs15)
            clear hb16' hb15 hp15
            go_wp2_with fail
            refine (take_neg _ ry m _ _ _ _ hry (by omega)).mono ?_
            rintro e w17 ⟨A17, n17, k17, rfl, hrow17, _, hrd17, hg⟩
            have hb17 : Below w.heap.size w w17 := hb16.grown hg hb16.size (fun k e => by cases e; have := hry.from_; omega)
            obtain rfl : n17 = 0 := hrow17.len.symm
            clear hg hry hb16 hrow17 hrd17
            go_wp2
            go_ret
            exact ⟨rfl, hb17⟩

end Go.Proofs.Yteampemlkkkfcaa
