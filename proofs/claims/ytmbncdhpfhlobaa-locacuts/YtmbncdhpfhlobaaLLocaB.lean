/- The law LocaBuilds. -/
import Derived.Test.YtmbncdhpfhlobaaLLoca
import Derived.Test.YtmbncdhpfhlobaaLocaRT
namespace Go.Proofs.Ytmbncdhpfhlobaa
open Go.RowKit
set_option linter.unusedVariables false

theorem parse_built (A : Option Addr) (n c m : Nat) (l : List Int) (size : Int) (w : World) (hr : Row w A n (cellsOf .u8 (bytesOf l))) (hok : okS 0 l = true) (hm : l.length = m) (hl : m < 65536) (hs : sumI l ≤ size) :
    Calls Try.prog 30 #[.slice A n c, .bool (longOf l), .int .u16 m, .int .i64 size] w fun e w' => ∃ A c, e = .returned (.tuple #[.slice A (m + 1) c, .int .i64 0]) ∧ Own 3 .i64 w' w.heap.size A (m + 1) c (scan 0 l) ∧ Below w.heap.size w w' := by
  subst hm
  refine (locaParse_any A n c (bytesOf l) (longOf l) l.length size w hr (bytesOf_bytes l) ?_ hl).mono fun e w' ⟨hb, h⟩ => ?_
  · have h1 := hr.len
    rw [bytesOf_len] at h1
    have : (l.length + 1) * eachB (longOf l) ≤ 65536 * 4 := Nat.mul_le_mul (by omega) (each_le _).1
    omega
  · rcases h with ⟨h, _⟩ | ⟨_, A, n, c, rfl, ho⟩
    · rw [places_built l hok size hs] at h
      cases h
    · rw [pls_built l hok] at ho
      have hn := ho.len
      rw [scan_len] at hn
      subst hn
      exact ⟨A, c, rfl, ho, hb⟩

/-- The first thirty. -/
def first (us : List Int) (k : Nat) : List Int := (us.take k).take 30

theorem first_snoc (us : List Int) (k : Nat) (x : Int) (hx : us[k]? = some x) (hk : k < 30) : first us (k + 1) = first us k ++ [x] := (take_take_snoc us k 30 x hx hk).symm
theorem first_same (us : List Int) (k : Nat) (hk : 30 ≤ k) : first us (k + 1) = first us k := (take_take_same us k 30 hk).symm
theorem first_mem (us : List Int) (k : Nat) {x : Int} (h : x ∈ first us k) : x ∈ us := List.mem_of_mem_take (List.mem_of_mem_take h)

theorem own_cell {t : TypeId} {k : IntKind} {w : World} {B g n c : Nat} {zs : List Int} (h : Own t k w B (some ⟨g, 0, none⟩) n c zs) {j : Nat} {x : Int} (hx : zs[j]? = some x) : w.cell? ⟨g, j, none⟩ = some (.int k x) := by
  obtain ⟨g', off, e, _, hc⟩ := h.row.at (cellsOf_get (k := k) hx)
  simp only [Option.some.injEq, Addr.mk.injEq, and_true] at e
  obtain ⟨rfl, rfl⟩ := e
  rwa [Nat.zero_add] at hc

theorem sumI_set0 (l : List Int) (x b : Int) (h : l[0]? = some x) : sumI (l.set 0 (x + b)) = sumI l + b := by
  cases l with
  | nil => simp at h
  | cons y l =>
    simp at h
    subst h
    rw [List.set_cons_zero, sumI_cons, sumI_cons]
    omega

theorem scan_step (l : List Int) (k : Nat) (x : Int) (hx : l[k]? = some x) : ∃ a, (scan 0 l)[k]? = some a ∧ (scan 0 l)[k + 1]? = some (a + x) ∧ a = sumI (l.take k) := by
  have hk : k < l.length := (List.getElem?_eq_some_iff.1 hx).1
  refine ⟨sumI (l.take k), ?_, ?_, rfl⟩
  · rw [scan_get l 0 k (by omega), Int.zero_add]
  · rw [scan_get l 0 (k + 1) (by omega), Int.zero_add, take_snocI l k x hx, sumI_snoc]

set_option maxRecDepth 100000 in
set_option maxHeartbeats 2000000 in
theorem law_LocaBuilds (A : Option Addr) (n c : Nat) (us : List Int) (big : Int) (w : World) (hr : Row w A n (cellsOf .u16 us)) (hU : ∀ x ∈ us, 0 ≤ x ∧ x ≤ 65535) (hn : n ≤ 9223372036854775807) (b0 : 0 ≤ big) (b1 : big < 4294967296) :
    Calls Try.prog 9 #[.slice A n c, .int .u32 big] w (True_ w) := by
  obtain ⟨i0, hi, hz0, hz1, hz2⟩ := info_parts Try.i64info
  have Hn := Lib.hid hr.len
  have HU := Lib.hid hU
  clear hU
  go_enter Try.func9, Try.ntmps9
  go_wp2_with fail
  refine (awake8_any w).mono ?_
  rintro e w0 ⟨rfl, hb0⟩
  have hr0 := hr.below hb0
  clear hr
  go_wp2
  go_loopw [5, 6, 21] (fun v s i wr => ∃ (k : Nat) (A2 : Option Addr) (n2 c2 : Nat), k ≤ n ∧ i = .int .i64 k ∧ v = .slice A2 n2 c2 ∧ s = .int .i64 (sumI (first us k)) ∧ Own 3 .i64 wr w0.heap.size A2 n2 c2 (first us k) ∧ Below w0.heap.size w0 wr) (fun _ _ i _ => n - (intOf i).toNat)
  case atStart => exact ⟨0, none, 0, 0, Nat.zero_le _, rfl, rfl, rfl, Own.nil _ _ _ _, Below.refl _ _⟩
  case round =>
    obtain ⟨k, A2, n2, c2, hk, rfl, rfl, rfl, hown, hbel⟩ := hrel
    have hn2 : n2 ≤ 30 := by have := hown.len; unfold first at this; rw [List.length_take] at this; omega
    have hs0 := sumI_nonneg (first us k) (fun x hx => (HU.out x (first_mem us k hx)).1)
    have hs1 : sumI (first us k) ≤ 1966050 := by
      have := sumI_le (first us k) 65535 (fun x hx => (HU.out x (first_mem us k hx)).2)
      rw [hown.len] at this
      omega
    by_cases hlt : k < n
    · obtain ⟨x, hx⟩ := get_some (zs := us) (k := k) (by have := Hn.out; omega)
      obtain ⟨g, off, rfl, hg, hc⟩ := (hr0.below hbel).at (cellsOf_get (k := .u16) hx)
      obtain ⟨x0, x1⟩ := HU.out x (List.mem_of_getElem? hx)
      by_cases hk30 : k < 30
      · have HF := Lib.hid (first_snoc us k x hx hk30)
        have HS : Hid (sumI (first us (k + 1)) = sumI (first us k) + x) := by rw [HF.out, sumI_snoc]; exact rfl
        have hsz : w0.heap.size ≤ wr.heap.size := hbel.size
        clear hx
        go_wp2_with (at_builtin; refine wpList_append_row rfl (.tmp 28) (.tmp 31) _ rfl 3 .i64 w0.heap.size i0 8 Try.underlying62 hi hz0 hz1 hz2 A2 n2 c2 _ rfl (hown.alloc _) (some ⟨wr.heap.size, 0, none⟩) 1 1 [x] rfl (row_one _ _ _ _) (by omega) (by omega) (by simp; omega) ?_)
        intro A3 c3 w1 hown1 hg1
        rw [← HF.out] at hown1
        have hbel1 : Below w0.heap.size w0 w1 := (hbel.alloc hsz _).grown hg1 (by simp; omega) (fun q e => (hown.from_ q e).1)
        clear hg1 hown hbel hc
        go_wp2
        go_roundw
        case rel => exact ⟨k + 1, A3, n2 + 1, c3, by omega, by go_num, rfl, by rw [HS.out], hown1, hbel1⟩
        case measure => simp [intOf]; omega
      · have HF := Lib.hid (first_same us k (by omega))
        clear hx
        go_wp2
        go_roundw
        case rel => exact ⟨k + 1, A2, n2, c2, by omega, by go_num, rfl, by rw [HF.out], by rw [HF.out]; exact hown, hbel⟩
        case measure => simp [intOf]; omega
    · have HFM : Hid (∀ x ∈ first us k, 0 ≤ x) := fun x hx => (HU.out x (first_mem us k hx)).1
      have hm0 : 0 ≤ big % 1048576 := by omega
      have hm1 : big % 1048576 < 1048576 := by omega
      have hbw : Below w.heap.size w wr := hb0.trans (hbel.mono hb0.size)
      have hsz0 := hb0.size
      clear hb0 hr0 hbel
      generalize first us k = fs at *
      by_cases hz : 0 < n2
      · obtain ⟨x, hx⟩ := get_some (zs := fs) (k := 0) (by have := hown.len; omega)
        rcases hown.shape with ⟨_, _, h, _⟩ | ⟨g, cur, rfl, _, _, _, _⟩
        · omega
        have hc := own_cell hown hx
        have f0 := hown.thaw 0
        have hx0 := HFM.out x (List.mem_of_getElem? hx)
        have hx1 : x ≤ sumI fs := by
          have := sumI_take_le fs HFM.out 1
          rw [take_snocI fs 0 x hx, sumI_snoc] at this
          simp [sumI_nil] at this
          exact this
        have HS := sumI_set0 fs x (big % 1048576) hx
        have hown' := hown.set 0 (x + big % 1048576)
        have hbw' : Below w.heap.size w (wr.setCell ⟨g, 0, none⟩ (.int .i64 (x + big % 1048576))) := hbw.setCell (p := ⟨g, 0, none⟩) (by have := (hown.from_ g rfl).1; show w.heap.size ≤ g; omega) _
        have Hok : Hid (okS 0 (fs.set 0 (x + big % 1048576)) = true) := okS_of _ 0 (fun y hy => by
          rcases List.mem_or_eq_of_mem_set hy with h | h
          · exact HFM.out y h
          · omega) (by rw [HS]; omega)
        have hs2 : 0 ≤ sumI fs + big % 1048576 := by omega
        have hs3 : sumI fs + big % 1048576 ≤ 67108864 := by omega
        have H2 := Lib.hid hown'
        have H3 := Lib.hid hbw'
        have H4 := Lib.hid HS
        clear hown' hbw' HS hown hbw hx
        go_wp2_with fail
        have hown := H2.out
        have hbw := H3.out
        have hrow := hown.row
        have Hl := Lib.hid hown.len
        have HS : Hid (sumI (fs.set 0 (x + big % 1048576)) = sumI fs + big % 1048576) := H4.out
        clear H2 H3 H4 hc f0 hown
        generalize wr.setCell ⟨g, 0, none⟩ (.int .i64 (x + big % 1048576)) = V at *
        generalize fs.set 0 (x + big % 1048576) = gs at *
        generalize (some ⟨g, 0, none⟩ : Option Addr) = A2 at *
        generalize sumI fs + big % 1048576 = sm at *
        with_reducible refine (locaBuild_ok _ _ _ gs _ hrow (by omega) Hok.out).mono ?_
        rintro e w3 ⟨A3, n3, c3, rfl, hown3, hb3⟩
        have hrow3 := hrow.below hb3
        have r3 := hown3.row
        have hbw3 : Below w.heap.size w w3 := hbw.trans (hb3.mono hbw.size)
        have ln3 : n3 ≤ 124 := by
          have h := hown3.len
          rw [bytesOf_len, Hl.out] at h
          have : (n2 + 1) * eachB (longOf gs) ≤ 31 * 4 := Nat.mul_le_mul (by omega) (each_le _).1
          omega
        clear hrow hb3 hown3 hbw
        go_wp2_with fail
        with_reducible refine (rBuild_ok _ _ _ gs _ hrow3 (by omega) Hok.out).mono ?_
        rintro e w4 ⟨A4, n4, c4, rfl, hown4, hb4⟩
        have hrow4 := hrow3.below hb4
        have r34 := r3.below hb4
        have r4 := hown4.row
        have hbw4 : Below w.heap.size w w4 := hbw3.trans (hb4.mono hbw3.size)
        have ln4 : n4 ≤ 124 := by
          have h := hown4.len
          rw [bytesOf_len, Hl.out] at h
          have : (n2 + 1) * eachB (longOf gs) ≤ 31 * 4 := Nat.mul_le_mul (by omega) (each_le _).1
          omega
        clear hrow3 hb4 hown4 hbw3 r3
        go_wp2_with fail
        with_reducible refine (parse_built _ _ _ n2 gs sm _ r34 Hok.out Hl.out (by omega) (by rw [HS.out]; exact Int.le_refl _)).mono ?_
        rintro e w5 ⟨A5, c5, rfl, hown5, hb5⟩
        have hrow5 := hrow4.below hb5
        have r35 := r34.below hb5
        have r45 := r4.below hb5
        have hbw5 : Below w.heap.size w w5 := hbw4.trans (hb5.mono hbw4.size)
        clear hrow4 hb5 r34 r4 hbw4
        rcases hown5.shape with ⟨_, _, h, _⟩ | ⟨g5, cur5, rfl, _, _, _, _⟩
        · omega
        go_wp2_with fail
        with_reducible refine (same_any _ _ _ _ _ _ _ _ _ r35 r45 (by omega) (by omega)).mono ?_
        rintro e w6 ⟨rfl, q, rfl⟩
        rw [sameB_refl]
        clear r35 r45
        have hrow6 := hrow5.drewN q
        have hown6 := hown5.drewN q
        have hbw6 := below_drewN hbw5 q
        generalize w5.drewN q = w6 at *
        generalize longOf gs = lo at *
        clear hrow5 hown5 hbw5
        go_wp2
        go_loopw [98] (fun i wr => ∃ k q : Nat, k ≤ n2 ∧ i = .int .i64 k ∧ wr = w6.drewN q) (fun i _ => n2 - (intOf i).toNat)
        case atStart => exact ⟨0, 0, Nat.zero_le _, rfl, rfl⟩
        case round =>
          obtain ⟨j, q2, hj, rfl, rfl⟩ := hrel
          by_cases hjl : j < n2
          · obtain ⟨x, hx⟩ := get_some (zs := gs) (k := j) (by have := Hl.out; omega)
            obtain ⟨a, ha, hy, hay⟩ := scan_step gs j x hx
            obtain ⟨a0, a1⟩ := sumI_take gs j Hok.out
            rw [← hay] at a0 a1
            obtain ⟨y0, y1⟩ := scan_mem gs Hok.out _ (List.mem_of_getElem? hy)
            obtain ⟨g7, off7, rfl, _, hc7⟩ := hrow6.at (cellsOf_get (k := .i64) hx)
            have ca := own_cell hown6 ha
            have cb := own_cell hown6 hy
            have Hyx : Hid (a + x - a = x) := by show a + x - a = x; omega
            generalize a + x = y at *
            have v0 : IntKind.i64.wrap ((j : Int) + 1) = (j : Int) + 1 := IntWalk.i64_in _ (by omega)
            have v1 : ((j : Int) + 1).toNat = j + 1 := by omega
            have v2 : (0 : Int) ≤ (j : Int) + 1 := by omega
            have v3 : (j : Int) + 1 < (n2 : Int) + 1 := by omega
            have v4 : IntKind.i64.wrap (y - a) = y - a := IntWalk.i64_in _ (by omega)
            have v5 : (y - a != x) = false := by rw [Hyx.out]; simp
            have v6 : (j : Int) < (n2 : Int) + 1 := by omega
            clear ha hy hx hay
            go_wp2
            go_quiet (fail)
            go_wp2
            go_roundw
            case rel => exact ⟨j + 1, _, by omega, by go_num, by first | rfl | (rw [World.drewN_drewN])⟩
            case measure => simp [intOf]; omega
          · have c0 := own_cell hown6 (j := 0) (x := 0) (by rw [scan_get _ 0 0 (by omega)]; rfl)
            have c1 := own_cell hown6 (j := n2) (x := sm) (by rw [scan_get _ 0 n2 (by have := Hl.out; omega), List.take_of_length_le (by have := Hl.out; omega), Int.zero_add, HS.out])
            go_wp2
            go_ret
            exact ⟨rfl, below_drewN hbw6 _⟩
      · have Hok : Hid (okS 0 fs = true) := okS_of fs 0 HFM.out (by omega)
        have hrow := hown.row
        have Hl := Lib.hid hown.len
        have hs3 : sumI fs ≤ 67108864 := by omega
        clear hown
        go_wp2_with fail
        generalize hsm : sumI fs = sm at hs0 hs1 hs3 ⊢
        have HS := Lib.hid hsm
        clear hsm
        with_reducible refine (locaBuild_ok _ _ _ fs _ hrow (by omega) Hok.out).mono ?_
        rintro e w3 ⟨A3, n3, c3, rfl, hown3, hb3⟩
        have hrow3 := hrow.below hb3
        have r3 := hown3.row
        have hbw3 : Below w.heap.size w w3 := hbw.trans (hb3.mono hbw.size)
        have ln3 : n3 ≤ 124 := by
          have h := hown3.len
          rw [bytesOf_len, Hl.out] at h
          have : (n2 + 1) * eachB (longOf fs) ≤ 31 * 4 := Nat.mul_le_mul (by omega) (each_le _).1
          omega
        clear hrow hb3 hown3 hbw
        go_wp2_with fail
        with_reducible refine (rBuild_ok _ _ _ fs _ hrow3 (by omega) Hok.out).mono ?_
        rintro e w4 ⟨A4, n4, c4, rfl, hown4, hb4⟩
        have hrow4 := hrow3.below hb4
        have r34 := r3.below hb4
        have r4 := hown4.row
        have hbw4 : Below w.heap.size w w4 := hbw3.trans (hb4.mono hbw3.size)
        have ln4 : n4 ≤ 124 := by
          have h := hown4.len
          rw [bytesOf_len, Hl.out] at h
          have : (n2 + 1) * eachB (longOf fs) ≤ 31 * 4 := Nat.mul_le_mul (by omega) (each_le _).1
          omega
        clear hrow3 hb4 hown4 hbw3 r3
        go_wp2_with fail
        with_reducible refine (parse_built _ _ _ n2 fs sm _ r34 Hok.out Hl.out (by omega) (by rw [HS.out]; exact Int.le_refl _)).mono ?_
        rintro e w5 ⟨A5, c5, rfl, hown5, hb5⟩
        have hrow5 := hrow4.below hb5
        have r35 := r34.below hb5
        have r45 := r4.below hb5
        have hbw5 : Below w.heap.size w w5 := hbw4.trans (hb5.mono hbw4.size)
        clear hrow4 hb5 r34 r4 hbw4
        rcases hown5.shape with ⟨_, _, h, _⟩ | ⟨g5, cur5, rfl, _, _, _, _⟩
        · omega
        go_wp2_with fail
        with_reducible refine (same_any _ _ _ _ _ _ _ _ _ r35 r45 (by omega) (by omega)).mono ?_
        rintro e w6 ⟨rfl, q, rfl⟩
        rw [sameB_refl]
        clear r35 r45
        have hrow6 := hrow5.drewN q
        have hown6 := hown5.drewN q
        have hbw6 := below_drewN hbw5 q
        generalize w5.drewN q = w6 at *
        generalize longOf fs = lo at *
        clear hrow5 hown5 hbw5
        go_wp2
        go_loopw [98] (fun i wr => ∃ k q : Nat, k ≤ n2 ∧ i = .int .i64 k ∧ wr = w6.drewN q) (fun i _ => n2 - (intOf i).toNat)
        case atStart => exact ⟨0, 0, Nat.zero_le _, rfl, rfl⟩
        case round =>
          obtain ⟨j, q2, hj, rfl, rfl⟩ := hrel
          by_cases hjl : j < n2
          · obtain ⟨x, hx⟩ := get_some (zs := fs) (k := j) (by have := Hl.out; omega)
            obtain ⟨a, ha, hy, hay⟩ := scan_step fs j x hx
            obtain ⟨a0, a1⟩ := sumI_take fs j Hok.out
            rw [← hay] at a0 a1
            obtain ⟨y0, y1⟩ := scan_mem fs Hok.out _ (List.mem_of_getElem? hy)
            obtain ⟨g7, off7, rfl, _, hc7⟩ := hrow6.at (cellsOf_get (k := .i64) hx)
            have ca := own_cell hown6 ha
            have cb := own_cell hown6 hy
            have Hyx : Hid (a + x - a = x) := by show a + x - a = x; omega
            generalize a + x = y at *
            have v0 : IntKind.i64.wrap ((j : Int) + 1) = (j : Int) + 1 := IntWalk.i64_in _ (by omega)
            have v1 : ((j : Int) + 1).toNat = j + 1 := by omega
            have v2 : (0 : Int) ≤ (j : Int) + 1 := by omega
            have v3 : (j : Int) + 1 < (n2 : Int) + 1 := by omega
            have v4 : IntKind.i64.wrap (y - a) = y - a := IntWalk.i64_in _ (by omega)
            have v5 : (y - a != x) = false := by rw [Hyx.out]; simp
            have v6 : (j : Int) < (n2 : Int) + 1 := by omega
            clear ha hy hx hay
            go_wp2
            go_quiet (fail)
            go_wp2
            go_roundw
            case rel => exact ⟨j + 1, _, by omega, by go_num, by first | rfl | (rw [World.drewN_drewN])⟩
            case measure => simp [intOf]; omega
          · have c0 := own_cell hown6 (j := 0) (x := 0) (by rw [scan_get _ 0 0 (by omega)]; rfl)
            have c1 := own_cell hown6 (j := n2) (x := sm) (by rw [scan_get _ 0 n2 (by have := Hl.out; omega), List.take_of_length_le (by have := Hl.out; omega), Int.zero_add, HS.out])
            go_wp2
            go_ret
            exact ⟨rfl, below_drewN hbw6 _⟩

end Go.Proofs.Ytmbncdhpfhlobaa
