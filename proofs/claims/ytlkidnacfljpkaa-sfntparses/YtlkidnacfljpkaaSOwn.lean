/- What Build and Parse answer for the tables that few lays. -/
import Derived.Test.YtlkidnacfljpkaaSRt
import Derived.Test.YtlkidnacfljpkaaRefuses
namespace Go.Proofs.Ytlkidnacfljpkaa
open Go.RowKit
set_option linter.unusedVariables false

theorem place_le (l : List Nat) (h : ∀ x ∈ l, x ≤ 60) : ∀ a, placeL a l ≤ a + l.length * 60 := by
  unfold placeL
  induction l with
  | nil => intro a; simp
  | cons x l ih =>
    intro a
    have hx : padN x ≤ 60 := by have := h x (by simp); unfold padN; omega
    have := ih (fun y hy => h y (by simp [hy])) (a + padN x)
    rw [List.foldl_cons, List.length_cons]
    omega

/-- Tables as few lays them, wherever they lie. -/
structure FineL (L : List Tab) : Prop where
  rise : riseT L
  tab : ∀ t ∈ L, t.tag.size = 4 ∧ t.n ≤ 60 ∧ Bytes t.zs ∧ t.zs.length = t.n
  few : L.length ≤ 9

theorem few_fineL {w wr : World} {A1 A2 : Option Addr} {m c1 c2 : Nat} {L : List Tab} (hF : FewL w wr A1 A2 m c1 c2 L) (h9 : m ≤ 9) : FineL L :=
  ⟨hF.2.2.2.1, fun t ht => by
    obtain ⟨a, b, c, d⟩ := hF.2.2.1 t ht
    exact ⟨d, c, b, a.len⟩, by rw [hF.1.len]; exact h9⟩

theorem FineL.fine {L : List Tab} (h : FineL L) (h1 : 1 ≤ L.length) : FineT (L.map Tab.pure) where
  h1 := by simpa using h1
  h64 := by have := h.few; simp; omega
  tag := fun t ht => by
    obtain ⟨x, hx, rfl⟩ := List.mem_map.1 ht
    show x.tag.toList.length = 4
    rw [size_toList]
    exact (h.tab x hx).1
  rise := by rw [List.pairwise_map]; exact h.rise
  bytes := fun t ht => by
    obtain ⟨x, hx, rfl⟩ := List.mem_map.1 ht
    exact (h.tab x hx).2.2.1
  size := by
    rw [placeT_full]
    have := place_le ((L.map Tab.pure).map fun t => t.2.length) (fun y hy => by
      obtain ⟨t, ht, rfl⟩ := List.mem_map.1 hy
      obtain ⟨x, hx, rfl⟩ := List.mem_map.1 ht
      have := h.tab x hx
      show x.zs.length ≤ 60
      omega) (12 + 16 * (L.map Tab.pure).length)
    have h9 := h.few
    simp only [List.length_map] at this ⊢
    omega

theorem FineL.build {L : List Tab} (h : FineL L) : buildB L = true := by
  refine rise_build L h.rise (fun t ht => (h.tab t ht).1) ?_
  have := place_le (L.map Tab.n) (fun y hy => by
    obtain ⟨x, hx, rfl⟩ := List.mem_map.1 hy
    exact (h.tab x hx).2.1) (12 + 16 * L.length)
  have h9 := h.few
  rw [List.length_map] at this
  omega

/-- The font of tables. -/
def fontOf (L : List Tab) : List Int := if L = [] then [] else fontL (wholeX (L.map Tab.pure)) (L.map Tab.pure)
theorem fontOf_some {L : List Tab} (h1 : 1 ≤ L.length) : fontOf L = fontL (wholeX (L.map Tab.pure)) (L.map Tab.pure) := by
  unfold fontOf
  rw [if_neg]
  rintro rfl
  simp at h1
theorem FineL.len {L : List Tab} (h : FineL L) : (fontOf L).length ≤ 696 := by
  rcases Nat.eq_zero_or_pos L.length with h0 | h1
  · obtain rfl := List.length_eq_zero_iff.1 h0
    simp [fontOf]
  · rw [fontOf_some h1, fontL_len (h.fine h1), placeT_full]
    have := place_le ((L.map Tab.pure).map fun t => t.2.length) (fun y hy => by
      obtain ⟨t, ht, rfl⟩ := List.mem_map.1 hy
      obtain ⟨x, hx, rfl⟩ := List.mem_map.1 ht
      have := h.tab x hx
      show x.zs.length ≤ 60
      omega) (12 + 16 * (L.map Tab.pure).length)
    have h9 := h.few
    simp only [List.length_map] at this ⊢
    omega
theorem FineL.bytes {L : List Tab} (h : FineL L) : Bytes (fontOf L) := by
  rcases Nat.eq_zero_or_pos L.length with h0 | h1
  · obtain rfl := List.length_eq_zero_iff.1 h0
    intro x hx
    simp [fontOf] at hx
  · rw [fontOf_some h1]
    exact font_bytes (h.fine h1) _

/-- What Build answers of them, in whatever order. -/
theorem build_few (A : Option Addr) (n c : Nat) (l L : List Tab) (W : World) (hr : RowS encT 2 W A n l) (hok : ∀ t ∈ l, t.ok W) (hp : l.Perm L) (h : FineL L) : Calls Try.prog 8 #[.slice A n c] W (RetB W (fontOf L)) := by
  have hl := hp.length_eq
  have hn := hr.len
  have h9 := h.few
  rcases Nat.eq_zero_or_pos n with h0 | h1
  · subst h0
    obtain rfl : L = [] := List.length_eq_zero_iff.1 (by omega)
    refine (build_none A 0 c W (by decide)).mono ?_
    rintro e w' ⟨rfl, rfl⟩
    exact ⟨none, 0, 0, rfl, by simpa [fontOf] using Own.nil _ _ _ _, Below.refl _ _⟩
  · refine (build_any A n c l W hr hok h1 (by omega)).mono ?_
    rintro e w' ⟨l', hp', hs, hR⟩
    have e1 := rise_sorted (hp'.trans hp) hs h.rise
    subst e1
    rw [h.build, if_pos rfl, build_font (h.fine (by omega)), ← fontOf_some (by omega)] at hR
    exact hR

/-- What Parse tells of a font of them. -/
def RetPF (L : List Tab) (w : World) (e : Ending) (w' : World) : Prop :=
  ∃ A n c ts, e = .returned (.tuple #[.slice A n c, .int .i64 0]) ∧ OwnS 30 encT 2 w' w.heap.size A n c ts ∧ (∀ t ∈ ts, OwnB w' w.heap.size t.A t.n t.c t.zs ∧ Bytes t.zs ∧ t.n ≤ 100000000) ∧
    ts.map Tab.pure = L.map (fun t => (t.tag.toList, laidL (wholeX (L.map Tab.pure)) t.pure)) ∧ Below w.heap.size w w'

theorem parse_font (A : Option Addr) (n c : Nat) (L : List Tab) (W : World) (hr : Row W A n (cellsOf .u8 (fontOf L))) (hc : n ≤ c) (h : FineL L) (h1 : 1 ≤ L.length) : Calls Try.prog 9 #[.slice A n c] W (RetPF L W) := by
  have hlen := h.len
  have hn := hr.len
  refine (parse_any A n c (fontOf L) W hr h.bytes (by omega) hc).mono ?_
  rintro e w' ⟨hb, hR⟩
  rw [fontOf_some h1] at hR
  have hF := h.fine h1
  rcases hR with ⟨h2, _⟩ | ⟨_, ts, hp, hR⟩
  · rw [font_form hF] at h2
    cases h2
  · have hp' := hp
    rw [font_pures hF] at hp'
    rcases hR with ⟨h2, _⟩ | ⟨_, A2, n2, c2, rfl, ho, ht⟩
    · rw [hp', font_summed hF] at h2
      cases h2
    · refine ⟨A2, n2, c2, ts, rfl, ho, ht, ?_, hb⟩
      rw [hp', List.map_map]
      rfl

theorem sameL_pure {a b : List Tab} (h : a.map Tab.pure = b.map Tab.pure) : sameL a b = true := by
  have hl : a.length = b.length := by have := congrArg List.length h; simpa using this
  unfold sameL eqK
  rw [Bool.and_eq_true, List.all_eq_true, decide_eq_true_iff]
  refine ⟨hl, fun i hi => ?_⟩
  have hi := List.mem_range.1 hi
  have ha : a[i]? = some a[i] := List.getElem?_eq_getElem hi
  have hb : b[i]? = some (b[i]'(by omega)) := List.getElem?_eq_getElem (by omega)
  have e := congrArg (fun l => l[i]?) h
  simp only [List.getElem?_map, ha, hb, Option.map_some, Option.some.injEq] at e
  rw [getD_get ha, getD_get hb]
  have e1 : (a[i]).tag.toList = (b[i]'(by omega)).tag.toList := congrArg Prod.fst e
  have e2 : (a[i]).zs = (b[i]'(by omega)).zs := congrArg Prod.snd e
  unfold eqT sameB
  rw [e1, e2]
  simp

end Go.Proofs.Ytlkidnacfljpkaa
