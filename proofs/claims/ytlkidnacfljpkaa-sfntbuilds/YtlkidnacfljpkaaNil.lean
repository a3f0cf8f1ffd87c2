/- Nil Readers and Writers, and the law WordNil. -/
import Derived.Test.YtlkidnacfljpkaaWrites
namespace Go.Proofs.Ytlkidnacfljpkaa
open Go.RowKit
set_option linter.unusedVariables false

/-- What a call that changes nothing leaves. -/
def Pure (w : World) (v : Value) (e : Ending) (w' : World) : Prop := e = .returned v ∧ w = w'

theorem next_nil (m : Int) (w : World) : Calls Try.prog 85 #[.pointer none, .int .i64 m] w (Pure w (.slice none 0 0)) := by
  go_enter Try.func85, Try.ntmps85
  go_wp2
  go_ret
  exact ⟨rfl, rfl⟩

theorem number_nil (m : Int) (w : World) : Calls Try.prog 84 #[.pointer none, .int .i64 m] w (Pure w (.int .u32 0)) := by
  go_enter Try.func84, Try.ntmps84
  go_wp2_with fail
  refine (next_nil m w).mono ?_
  rintro e w' ⟨rfl, rfl⟩
  go_wp2
  refine wp_loop_rounds 1 ?_
  rw [rounds_succ]
  go_wp2
  go_ret
  exact ⟨rfl, rfl⟩

theorem u16_nil (w : World) : Calls Try.prog 64 #[.pointer none] w (Pure w (.int .u16 0)) := by
  go_enter Try.func64, Try.ntmps64
  go_wp2_with fail
  refine (number_nil _ w).mono ?_
  rintro e w' ⟨rfl, rfl⟩
  go_wp2
  go_ret
  exact ⟨rfl, rfl⟩

theorem u32_nil (w : World) : Calls Try.prog 63 #[.pointer none] w (Pure w (.int .u32 0)) := by
  go_enter Try.func63, Try.ntmps63
  go_wp2_with fail
  refine (number_nil _ w).mono ?_
  rintro e w' ⟨rfl, rfl⟩
  go_wp2
  go_ret
  exact ⟨rfl, rfl⟩

theorem take_nil (m : Int) (w : World) : Calls Try.prog 65 #[.pointer none, .int .i64 m] w (Pure w (.slice none 0 0)) := by
  go_enter Try.func65, Try.ntmps65
  go_wp2_with fail
  refine (next_nil _ w).mono ?_
  rintro e w' ⟨rfl, rfl⟩
  go_wp2
  go_ret
  exact ⟨rfl, rfl⟩

theorem take_neg (B b : Nat) (m : Int) (zs : List Int) (a : Int) (bad : Bool) (w : World) (h : Rd w B b zs a bad) (hm : m < 0) :
    Calls Try.prog 65 #[.pointer (some ⟨b, 0, none⟩), .int .i64 m] w (RetNext w B b [] [] a true) := by
  go_enter Try.func65, Try.ntmps65
  go_wp2_with fail
  refine (next_bad B b m zs a bad w h (.inl hm)).mono ?_
  rintro e w1 ⟨A, n, c, rfl, hr⟩
  go_wp2
  go_ret
  exact ⟨A, n, c, rfl, hr⟩

theorem bad_nil (w : World) : Calls Try.prog 66 #[.pointer none] w (Pure w (.bool true)) := by
  go_enter Try.func66, Try.ntmps66
  go_wp2
  go_ret
  exact ⟨rfl, rfl⟩

theorem left_nil (w : World) : Calls Try.prog 71 #[.pointer none] w (Pure w (.int .i64 0)) := by
  go_enter Try.func71, Try.ntmps71
  go_wp2
  go_ret
  exact ⟨rfl, rfl⟩

theorem add_nil (A : Option Addr) (n c : Nat) (w : World) : Calls Try.prog 61 #[.pointer none, .slice A n c] w (Pure w (.pointer none)) := by
  go_enter Try.func61, Try.ntmps61
  go_wp2
  go_ret
  exact ⟨rfl, rfl⟩

theorem put_nil (A : Option Addr) (n c : Nat) (w : World) : Calls Try.prog 56 #[.pointer none, .slice A n c] w (Pure w (.pointer none)) := by
  go_enter Try.func56, Try.ntmps56
  go_wp2_with fail
  refine (add_nil _ _ _ w).mono ?_
  rintro e w' ⟨rfl, rfl⟩
  go_wp2
  go_ret
  exact ⟨rfl, rfl⟩

theorem done_nil (w : World) : Calls Try.prog 33 #[.pointer none] w (Pure w (.slice none 0 0)) := by
  go_enter Try.func33, Try.ntmps33
  go_wp2
  go_ret
  exact ⟨rfl, rfl⟩

theorem wu16_nil (x : Int) (w : World) (h0 : 0 ≤ x) (h1 : x < 256) : Calls Try.prog 55 #[.pointer none, .int .u16 x] w (Ret w (.pointer none)) := by
  go_enter Try.func55, Try.ntmps55
  go_wp2_with fail
  refine (add_nil _ _ _ _).mono ?_
  rintro e w' ⟨rfl, rfl⟩
  go_wp2
  go_ret
  exact ⟨rfl, (Below.refl _ _).alloc (Nat.le_refl _) _⟩

theorem wu32_nil (x : Int) (w : World) (h0 : 0 ≤ x) (h1 : x < 256) : Calls Try.prog 31 #[.pointer none, .int .u32 x] w (Ret w (.pointer none)) := by
  go_enter Try.func31, Try.ntmps31
  go_wp2_with fail
  refine (add_nil _ _ _ _).mono ?_
  rintro e w' ⟨rfl, rfl⟩
  go_wp2
  go_ret
  exact ⟨rfl, (Below.refl _ _).alloc (Nat.le_refl _) _⟩

/-- One number stored into a fresh slice. -/
theorem Own.set {t : TypeId} {k : IntKind} {w : World} {B g n c : Nat} {zs : List Int} (h : Own t k w B (some ⟨g, 0, none⟩) n c zs) (j : Nat) (x : Int) : Own t k (w.setCell ⟨g, j, none⟩ (.int k x)) B (some ⟨g, 0, none⟩) n c (zs.set j x) := by
  have := (World.ownsRow.stored h j (.int k x)).1
  simpa [Own, cellsOf, List.map_set] using this

theorem set_grown {w : World} {g : Nat} (i : Nat) (u : Value) : w.grownBy (w.setCell ⟨g, i, none⟩ u) (some g) := grown_set (World.grownBy.refl w _) i u

/-- Behind a round that adds one to each number of a fresh slice. -/
def Inc (w : World) (B : Nat) (A : Option Addr) (n c : Nat) (wr : World) : Prop := (∃ ms, Own 5 .u8 wr B A n c ms) ∧ w.grownBy wr (blockOf A)

theorem Inc.start {w : World} {B : Nat} {A : Option Addr} {n c : Nat} {ms : List Int} (h : Own 5 .u8 w B A n c ms) : Inc w B A n c w := ⟨⟨ms, h⟩, World.grownBy.refl w _⟩

theorem Inc.at {w wr : World} {B : Nat} {A : Option Addr} {n c k : Nat} (h : Inc w B A n c wr) (hk : k < n) : ∃ g x, A = some ⟨g, 0, none⟩ ∧ wr.cell? ⟨g, k, none⟩ = some (.int .u8 x) ∧ wr.frozen? ⟨g, k, none⟩ = false ∧ ∀ y, Inc w B A n c (wr.setCell ⟨g, k, none⟩ (.int .u8 y)) := by
  obtain ⟨⟨ms, ho⟩, hg⟩ := h
  have hl := ho.len
  rcases ho.shape with ⟨_, _, rfl, _⟩ | ⟨g, cur, rfl, _, _, hh, _⟩
  · omega
  · obtain ⟨x, ex⟩ := get_some (zs := ms) (k := k) (by omega)
    obtain ⟨g', off, e, _, hc⟩ := ho.row.at (cellsOf_get (k := .u8) ex)
    simp only [Option.some.injEq, Addr.mk.injEq, and_true] at e
    obtain ⟨rfl, rfl⟩ := e
    rw [Nat.zero_add] at hc
    exact ⟨g, x, rfl, hc, by simp [World.frozen?, hh], fun y => ⟨⟨_, ho.set k y⟩, grown_set hg k _⟩⟩

end Go.Proofs.Ytlkidnacfljpkaa
