/- The law MaxpBends. -/
import Derived.Test.YtmpicokeenodbaaLMaxp
import Derived.Test.YtmpicokeenodbaaStructs
import Derived.Lib.MinMax
import Derived.Deep.DeepCutAuto
namespace Go.Proofs.Ytmpicokeenodbaa
open Go.RowKit
set_option linter.unusedVariables false

/-- One number of a fresh slice is another one. -/
theorem Own.set {t : TypeId} {k : IntKind} {w : World} {B : Nat} {A : Option Addr} {n c : Nat} {zs : List Int} (h : Own t k w B A n c zs) {j : Nat} (hj : j < n) :
    ∃ g, A = some ⟨g, 0, none⟩ ∧ B ≤ g ∧ g < w.heap.size ∧ (∀ o, w.frozen? ⟨g, o, none⟩ = false) ∧ ∀ v, Own t k (w.setCell ⟨g, j, none⟩ (.int k v)) B A n c (zs.set j v) := by
  rcases h.shape with ⟨_, _, rfl, _⟩ | ⟨g, cur, rfl, hB, hg, hh, hn, hc, hs, ht⟩
  · omega
  · refine ⟨g, rfl, hB, hg, fun o => by simp [World.frozen?, hh], fun v => ?_⟩
    have := ownsRow_setCells (t := t) (k := 1) (g := g) (n := n) (c := c) (B := B) [.int k v] w (cellsOf k zs) j h
    simp only [setCells, setFrom] at this
    unfold Own
    rw [show cellsOf k (zs.set j v) = (cellsOf k zs).set j (.int k v) by simp [cellsOf, List.map_set]]
    exact this

theorem xor_byte (x y : Int) (x0 : 0 ≤ x) (x1 : x ≤ 255) (y0 : 0 ≤ y) (y1 : y ≤ 255) : 0 ≤ bits .xor .u8 x y ∧ bits .xor .u8 x y ≤ 255 := by
  have h := wf_bits .xor .u8 x y
  exact bounds_u8 h

theorem set_bytes {zs : List Int} (h : Bytes zs) (j : Nat) {v : Int} (v0 : 0 ≤ v) (v1 : v ≤ 255) : Bytes (zs.set j v) := fun x hx => by
  rcases List.mem_or_eq_of_mem_set hx with h' | rfl
  · exact h x h'
  · exact ⟨v0, v1⟩

theorem front_same {a b : List Int} (h : a.take 6 = b.take 6) : n4at a 0 = n4at b 0 ∧ n2at a 4 = n2at b 4 := by
  have h4 : ∀ l : List Int, n4at l 0 = n4at (l.take 6) 0 := fun l => by
    unfold n4at num told
    simp only [List.drop_zero, List.length_take, List.take_take]
    by_cases hl : 4 ≤ l.length
    · rw [if_pos hl, if_pos (by omega)]; rfl
    · rw [if_neg hl, if_neg (by omega)]
  have h2 : ∀ l : List Int, n2at l 4 = n2at (l.take 6) 4 := fun l => by
    unfold n2at num told
    rw [List.drop_take]
    simp only [List.length_drop, List.length_take, List.take_take]
    by_cases hl : 2 ≤ l.length - 4
    · rw [if_pos hl, if_pos (by omega)]; rfl
    · rw [if_neg hl, if_neg (by omega)]
  rw [h4 a, h4 b, h2 a, h2 b, h]
  exact ⟨rfl, rfl⟩

/-- Behind the first six bytes anything may stand. -/
theorem bend_right (m : Mp) (hm : m.ok) (h0 : m.g ≠ 0) (j : Nat) (hj : 6 ≤ j) (v : Int) : mpRight ((mpL m).set j v) = true ∧ (mpOf ((mpL m).set j v)).g = m.g := by
  have hf := front_same (a := (mpL m).set j v) (b := mpL m) (List.take_set_of_le hj)
  have h1 := mpRight_mpL m hm h0
  unfold mpRight at h1 ⊢
  rw [decide_eq_true_iff] at h1 ⊢
  rw [hf.1, hf.2, List.length_set]
  refine ⟨h1, ?_⟩
  show n2at _ 4 = _
  rw [hf.2]
  exact congrArg Mp.g (mpOf_mpL m hm)

set_option maxRecDepth 100000 in
set_option maxHeartbeats 4000000 in
theorem law_MaxpBends (m : Mp) (a x : Int) (w : World) (hm : m.ok) (a0 : 0 ≤ a) (a1 : a ≤ 255) (x0 : 0 ≤ x) (x1 : x ≤ 255) : Calls Try.prog 11 #[mpV m, .int .u8 a, .int .u8 x] w (True_ w) := by
  have hA : Below w.heap.size w (w.alloc (.cells (mpC m) 53)) := (Below.refl _ _).alloc (Nat.le_refl _) _
  have hk := heap_alloc_new w (.cells (mpC m) 53)
  obtain ⟨k, hak⟩ : ∃ k : Nat, a % 32 = k := ⟨(a % 32).toNat, by omega⟩
  have hk32 : k < 32 := by omega
  have hG : ∃ G, max m.g 1 = G ∧ 1 ≤ G ∧ G < 65536 := ⟨max m.g 1, rfl, by omega, by have := hm.1; omega⟩
  obtain ⟨G, hG, G0, G1⟩ := hG
  have hok : Mp.ok { m with g := G } := ⟨⟨by simp only; omega, G1⟩, hm.2⟩
  have hne : (Mp.g { m with g := G }) ≠ 0 := by simp only; omega
  have Hby := Lib.hid (fun W => mbytes_any { m with g := G } W hok hne)
  have Hbend := Lib.hid (fun j hj v => bend_right { m with g := G } hok hne j hj v)
  have HB := Lib.hid (mpL_bytes { m with g := G })
  have HL := Lib.hid (mpL_len { m with g := G })
  generalize mpL { m with g := G } = L at *
  obtain ⟨g, r0, r1, r2, r3, r4, r5, r6, r7, r8, r9, r10, r11, r12⟩ := m
  simp only [mpC] at hA hk hG Hby Hbend
  clear hok hne hm
  have Hak := Lib.hid hak
  have HG := Lib.hid hG
  clear hak hG
  go_enter Try.func11, Try.ntmps11
  go_wp2_with fail
  generalize w.alloc _ = V at *
  refine (awake6_any V).mono ?_
  rintro e w1 ⟨rfl, hb1⟩
  have hk1 := kept_block hk hb1
  have hB1 := hA.trans (hb1.mono hA.size)
  clear hk hA hb1
  have c0 : w1.cell? ⟨w.heap.size, 0, none⟩ = some (.int .u16 g) := (cells14 hk1).1
  have f0 := thawed hk1
  have hk2 := set_block hk1 0 (.int .u16 G)
  have hB2 := below_set (Nat.le_refl _) 0 (.int .u16 G) hB1
  simp only [List.setIfInBounds_toArray, List.set_cons_zero] at hk2
  have hG := HG.out
  clear hk1 hB1
  obtain ⟨d0, d1, d2, d3, d4, d5, d6, d7, d8, d9, d10, d11, d12, d13⟩ := cells14 hk2
  go_wp2_with fail
  clear hG c0 f0
  generalize w1.setCell _ _ = w2 at *
  refine (Hby.out w2).mono ?_
  rintro e w3 ⟨A3, n3, k3, rfl, hown, hb3⟩
  have hl3 := hown.len
  rw [HL.out] at hl3
  subst hl3
  have hcap : (32 : Int) ≤ (k3 : Int) := by have := hown.cap; omega
  have hkb := kept_block hk2 hb3
  have hB3 := hB2.trans (hb3.mono hB2.size)
  have hak := Hak.out
  have hlt2 := lt_of_block hk2
  clear hk2 hB2 d0 d1 d2 d3 d4 d5 d6 d7 d8 d9 d10 d11 d12 d13
  go_wp2_with fail
  clear hak
  rw [Hak.out]
  refine (mparse_len _ _ _ _ (by omega)).mono ?_
  rintro e w4 ⟨rfl, hb4⟩
  have hkb4 := kept_block hkb hb4
  have hB4 := hB3.trans (hb4.mono hB3.size)
  have hown4 := hown.below hb4
  have hA5 : Below w4.heap.size w4 (w4.alloc (.cells (mpC mp0) 53)) := (Below.refl _ _).alloc (Nat.le_refl _) _
  have hkb5 := kept_block hkb4 hA5
  have hB5 := hB4.trans (hA5.mono hB4.size)
  have hown5 := hown4.below hA5
  simp only [mpC, mp0] at hkb5 hB5 hown5
  clear hkb hb3 hB3 hown hb4 hkb4 hB4 hown4 hA5
  simp only [mp0]
  go_upto_region 7 with fail
  generalize w4.alloc _ = w5 at *
  obtain ⟨y, hy⟩ := get_some (zs := L) (k := k) (by rw [HL.out]; exact hk32)
  obtain ⟨y0, y1⟩ := HB.out y (List.mem_of_getElem? hy)
  obtain ⟨gb, rfl, hgB, hgl, fz, hset⟩ := hown5.set (j := k) hk32
  have hgne : gb ≠ w.heap.size := by omega
  have cy : w5.cell? ⟨gb, k, none⟩ = some (.int .u8 y) := by
    obtain ⟨g', off', e', _, cy⟩ := hown5.row.at (j := k) (u := .int .u8 y) (cellsOf_get hy)
    simp only [Option.some.injEq, Addr.mk.injEq, and_true] at e'
    obtain ⟨rfl, rfl⟩ := e'
    simpa using cy
  have hS := hset (bits .xor .u8 y x)
  have hv := xor_byte y x y0 y1 x0 x1
  generalize hbx : bits .xor .u8 y x = v at *
  have hi0 : (0 : Int) ≤ (k : Int) := by omega
  have hi1 : (k : Int) < 32 := by omega
  have Hbx := Lib.hid hbx
  have Hy := Lib.hid hy
  clear hy hset hbx
  go_wp2_with fail
  rw [Hbx.out]
  have hkb6 := (Below.heap_setCell w5 ⟨gb, k, none⟩ (.int .u8 v) w.heap.size hgne.symm).trans hkb5
  have hB6 := below_set (B := w.heap.size) (g := gb) (by omega) k (.int .u8 v) hB5
  have hr6 := hS.row
  have HB6 := Lib.hid (set_bytes HB.out k hv.1 hv.2)
  have Hbd := Lib.hid (fun hj => Hbend.out k hj v)
  clear hkb5 hB5 hS hown5 cy fz hcap hgB hgl hgne Hbx Hy Hbend y0 y1
  generalize w5.setCell _ _ = w6 at *
  generalize L.set k v = L' at *
  refine (mparse_any _ 32 k3 L' w6 hr6 HB6.out).mono ?_
  rintro e w7 ⟨rfl, hb7⟩
  have hkb7 := kept_block hkb6 hb7
  have hB7 := hB6.trans (hb7.mono hB6.size)
  have hr7 := hr6.below hb7
  clear hkb6 hB6 hr6 hb7
  cases hR : mpRight L' with
  | false =>
    have hk6 : k < 6 := by
      rcases Nat.lt_or_ge k 6 with h | h
      · exact h
      · have := (Hbd.out h).1
        rw [hR] at this
        cases this
    have hi6 : (k : Int) < 6 := by omega
    rw [mpTold_no hR]
    have HR := Lib.hid hR
    have hA8 : Below w7.heap.size w7 (w7.alloc (.cells (mpC mp0) 53)) := (Below.refl _ _).alloc (Nat.le_refl _) _
    have hr8 := hr7.below hA8
    have hB8 := hB7.trans (hA8.mono hB7.size)
    simp only [mpC, mp0] at hr8 hB8
    clear hR hA8 hr7 hB7 hkb7
    go_wp2_with fail
    simp only [mp0]
    generalize w7.alloc _ = w8 at *
    refine (rright_any _ 32 k3 L' w8 hr8 HB6.out (by omega)).mono ?_
    rintro e w9 ⟨rfl, q, rfl⟩
    rw [HR.out]
    have hB9 := below_drewN hB8 q
    go_wp2
    go_ret
    exact ⟨rfl, hB9⟩
  | true =>
    rw [mpTold_yes hR]
    have HR := Lib.hid hR
    have Hg := Lib.hid (fun hj => (Hbd.out hj).2)
    clear Hbd hR
    generalize mpOf L' = m' at *
    have hA8 : Below w7.heap.size w7 (w7.alloc (.cells (mpC m') 53)) := (Below.refl _ _).alloc (Nat.le_refl _) _
    have hj8 := heap_alloc_new w7 (.cells (mpC m') 53)
    have hkb8 := kept_block hkb7 hA8
    have hr8 := hr7.below hA8
    have hB8 := hB7.trans (hA8.mono hB7.size)
    obtain ⟨g', s0, s1, s2, s3, s4, s5, s6, s7, s8, s9, s10, s11, s12⟩ := m'
    simp only [mpC] at hr8 hB8 hj8 hkb8 Hg
    clear hA8 hr7 hB7 hkb7
    by_cases hk6 : k < 6
    · have hi6 : (k : Int) < 6 := by omega
      go_wp2_with fail
      generalize w7.alloc _ = w8 at *
      refine (rright_any _ 32 k3 L' w8 hr8 HB6.out (by omega)).mono ?_
      rintro e w9 ⟨rfl, q, rfl⟩
      rw [HR.out]
      have hB9 := below_drewN hB8 q
      clear hj8 hkb8 hr8 hB8
      go_wp2
      go_ret
      exact ⟨rfl, hB9⟩
    · have hi6 : ¬ (k : Int) < 6 := by omega
      have hgg := Hg.out (by omega)
      subst hgg
      go_wp2_with fail
      generalize w7.alloc _ = w8 at *
      refine (rright_any _ 32 k3 L' w8 hr8 HB6.out (by omega)).mono ?_
      rintro e w9 ⟨rfl, q, rfl⟩
      rw [HR.out]
      have hB9 := below_drewN hB8 q
      have c0 : (w8.drewN q).cell? ⟨w.heap.size, 0, none⟩ = _ := (cells14 hkb8).1
      have d0 : (w8.drewN q).cell? ⟨w7.heap.size, 0, none⟩ = _ := (cells14 hj8).1
      generalize w8.drewN q = w9 at *
      have hgg : (g' == g') = true := by simp
      clear hj8 hkb8 hr8 hB8
      go_wp2
      go_ret
      exact ⟨rfl, hB9⟩

end Go.Proofs.Ytmpicokeenodbaa
