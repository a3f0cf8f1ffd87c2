/- The law TallyParts. -/
import Derived.Test.YteampemlkkkfcaaLaw02
import Derived.Deep.Matrix
namespace Go.Proofs.Yteampemlkkkfcaa
open Go.RowKit
set_option linter.unusedVariables false

/-- Slices of bytes that came in: each reads as bytes. -/
def PartsOf (w : World) (a : Option Addr) (n : Nat) (ps : List BsV) : Prop := Row w a n (ps.map BsV.val) ∧ n ≤ 9223372036854775807 ∧ ∀ p ∈ ps, p.ok w ∧ Bytes p.ys ∧ p.n ≤ 9223372036854775807

theorem block_lt {w : World} {a : Addr} {v : Value} (h : w.cell? a = some v) : a.block < w.heap.size := by
  rcases Nat.lt_or_ge a.block w.heap.size with hlt | hge
  · exact hlt
  · simp [World.cell?, Array.getElem?_eq_none hge] at h

theorem spot_none {w : World} {x : Addr} {v : Value} (h : w.cell? (x.add 0) = some v) : ∃ b off, x = ⟨b, off, none⟩ := by
  obtain ⟨b, off, spot⟩ := x
  have hs : spot = none := by simpa [Addr.add] using World.cell?_spot h
  subst hs
  exact ⟨b, off, rfl⟩

/-- From what the reading of the argument gives. -/
theorem parts_of {w : World} {base : Nat} {x : Addr} {len cap : Nat} {A : Nat → Option Addr} {L C : Nat → Nat} {Z : Nat → List Int} (hl : len ≤ cap) (hm : cap ≤ maxLen)
    (h : ∀ r, r < cap → w.cell? (x.add r) = some (.slice (A r) (L r) (C r)) ∧ L r ≤ C r ∧ C r ≤ maxLen ∧ (Z r).length = C r ∧ (∀ n ∈ Z r, (Lit.int .u8 n).wf = true) ∧ (A r = none → C r = 0) ∧
      ∀ a', A r = some a' → base ≤ a'.block ∧ ∀ c, c < C r → w.cell? (a'.add c) = some (.int .u8 ((Z r).getD c 0))) :
    PartsOf w (some x) len ((List.range len).map fun r => ⟨A r, L r, C r, (Z r).take (L r)⟩) := by
  simp only [maxLen] at hm
  refine ⟨⟨by simp, fun hp => ?_⟩, by omega, ?_⟩
  · obtain ⟨b, off, rfl⟩ := spot_none (h 0 (by omega)).1
    refine ⟨b, off, rfl, block_lt (a := (⟨b, off, none⟩ : Addr).add 0) (h 0 (by omega)).1, fun j u hu => ?_⟩
    have hj : j < len := by have := (List.getElem?_eq_some_iff.1 hu).1; simpa using this
    have hc := (h j (by omega)).1
    rw [Addr.add_lit] at hc
    rw [hc]
    simp [hj, BsV.val] at hu
    rw [← hu]
  · intro p hp
    simp only [List.mem_map, List.mem_range] at hp
    obtain ⟨r, hr, rfl⟩ := hp
    obtain ⟨hc, h1, h2, h3, h4, h5, h6⟩ := h r (by omega)
    have hrow := row_of (k := .u8) (w := w) (a := A r) (len := L r) (cap := C r) (zs := Z r) (by
      cases hA : A r with
      | none =>
        have := h5 hA
        exact .inl ⟨rfl, by omega, this, List.eq_nil_of_length_eq_zero (by omega)⟩
      | some a' => exact .inr ⟨a', rfl, h1, h2, h3, fun i hi => (h6 a' hA).2 i (by omega), h4⟩)
    exact ⟨hrow.1, bytes_of hrow.2.2, hrow.2.1⟩

theorem parts_none (w : World) : PartsOf w none 0 [] := ⟨Row.empty _ _, by omega, fun p hp => by cases hp⟩

/-- What holds at a round's head. -/
def PartsRel (w : World) (k : Nat) (v3 v4 : Value) (wr : World) : Prop :=
  ∃ A3 n3 c3 L, v3 = .slice A3 n3 c3 ∧ v4 = .int .u32 (rs L % 4294967296) ∧ Row wr A3 n3 (cellsOf .u8 L) ∧ Bytes L ∧ L.length % 4 = 0 ∧ L.length ≤ 40 * k ∧ L.length ≤ 320 ∧ Below w.heap.size w wr

set_option maxRecDepth 100000 in
set_option maxHeartbeats 4000000 in
theorem law_TallyParts (A : Option Addr) (n c : Nat) (ps : List BsV) (w : World) (hP : PartsOf w A n ps) : Calls Try.prog 10 #[.slice A n c] w (True_ w) := by
  obtain ⟨hr, hn, hs⟩ := hP
  have Hl : Hid (ps.length = n) := by have := hr.1; rw [List.length_map] at this; exact this
  have Hs := Lib.hid hs
  clear hs
  go_enter Try.func10, Try.ntmps10
  go_wp2_with fail
  refine (awake2_any w).mono ?_
  rintro e w0 ⟨rfl, hb0⟩
  go_wp2
  go_loopw [3, 4, 11] (fun v3 v4 i wr => ∃ k : Nat, k ≤ n ∧ i = .int .i64 k ∧ PartsRel w k v3 v4 wr) (fun _ _ i _ => n - (intOf i).toNat)
  case atStart => exact ⟨0, Nat.zero_le _, rfl, none, 0, 0, [], rfl, rfl, Row.empty _ _, fun x hx => (by cases hx), rfl, by simp, by simp, hb0⟩
  case round =>
    clear hb0
    obtain ⟨k, hk, rfl, A3, n3, c3, L, rfl, rfl, h3, hLB, hL4, hLk, hL, hb⟩ := hrel
    have HLl := Lib.hid h3.len
    have hs := hb.size
    obtain ⟨sv, hsv⟩ : ∃ v, rs L % 4294967296 = v := ⟨_, rfl⟩
    have hs2 : 0 ≤ sv ∧ sv < 4294967296 := by omega
    obtain ⟨s0, s1⟩ := hs2
    have HS := Lib.hid hsv
    have HLB := Lib.hid hLB
    have HL4 := Lib.hid hL4
    rw [hsv]
    clear hsv hLB hL4
    by_cases hlt : k < n
    · obtain ⟨p, ep⟩ : ∃ p, ps[k]? = some p := ⟨ps[k]'(by have := Hl.out; omega), List.getElem?_eq_getElem (by have := Hl.out; omega)⟩
      obtain ⟨hok, hpB, hpn⟩ := Hs.out p (List.mem_of_getElem? ep)
      obtain ⟨g, off, hA, _, hc⟩ := (hr.below hb).at (j := k) (u := p.val) (by simp [ep])
      subst hA
      clear ep
      obtain ⟨pA, pn, pc, pys⟩ := p
      simp only [BsV.val] at hc
      simp only at hpB hpn
      have hrow : Row wr pA pn (cellsOf .u8 pys) := Row.below hok hb
      clear hok
      by_cases h8 : k < 8
      · go_wp2_with fail
        refine (cut_any _ _ _ pys 40 _ hrow hpn (by omega)).mono ?_
        rintro e w1 ⟨A1, n1, k1, rfl, hown1, hb1'⟩
        have hB1 : Bytes (pys.take (40 : Int).toNat) := cut_bytes hpB _
        have hl1 : n1 ≤ 40 := by have := hown1.len; rw [List.length_take] at this; simp at this; omega
        have r1 := hown1.row
        have b1 : Below w.heap.size w w1 := hb.trans (hb1'.mono hs)
        have r3 := h3.below hb1'
        have HB1 := Lib.hid hB1
        have Hl1 := Lib.hid hown1.len
        generalize pys.take (40 : Int).toNat = cs at *
        clear hown1 hb1' hc hrow hB1 h3 hb
        go_wp2_with fail
        refine (pad_any _ _ _ cs _ r1 (by omega)).mono ?_
        rintro e w2 ⟨A2, n2, k2, rfl, hown2, hb2'⟩
        have hn2 : n2 ≤ 43 := by have := hown2.len; rw [pad_len, Hl1.out] at this; unfold padN at this; omega
        have r2 := hown2.row
        have b2 : Below w.heap.size w w2 := b1.trans (hb2'.mono b1.size)
        have r3' := r3.below hb2'
        have r1' := r1.below hb2'
        clear hown2 hb2' b1 r3 r1
        go_wp2_with fail
        have ha2 : Below w2.heap.size w2 (w2.alloc (.cells #[.slice A3 n3 c3, .slice A2 n2 k2] 22)) := (Below.refl _ _).alloc (Nat.le_refl _) _
        have hj : joined [⟨A3, n3, c3, L⟩, ⟨A2, n2, k2, pad cs⟩] = L ++ pad cs := by simp [joined]
        have hn3 : n3 ≤ 320 := by have := HLl.out; omega
        refine (join_any _ 2 2 [⟨A3, n3, c3, L⟩, ⟨A2, n2, k2, pad cs⟩] _ (row_vals w2 22 _ 2 rfl) ?_ (by omega) (by rw [hj, List.length_append, pad_len, Hl1.out]; unfold padN; omega)).mono ?_
        · intro p hp
          simp at hp
          rcases hp with rfl | rfl
          · exact r3'.below ha2
          · exact r2.below ha2
        rintro e w4 ⟨A4, n4, k4, rfl, hown4, hb4'⟩
        rw [hj] at hown4
        have hk4 : Below w2.heap.size w2 w4 := ha2.trans (hb4'.mono (by simp))
        have b4w : Below w.heap.size w w4 := b2.trans (hk4.mono b2.size)
        have r4 := hown4.row
        have r1'' := r1'.below hk4
        clear hown4 hb4' hk4 b2 r3' r1' r2 ha2 hj
        go_wp2_with fail
        refine (sum_rs_any _ _ _ cs _ r1'' HB1.out (by omega)).mono ?_
        rintro e w5 ⟨rfl, hb5'⟩
        have b5 : Below w.heap.size w w5 := b4w.trans (hb5'.mono b4w.size)
        have r5 := r4.below hb5'
        obtain ⟨cv, hcv⟩ : ∃ v, rs cs % 4294967296 = v := ⟨_, rfl⟩
        have hc2 : 0 ≤ cv ∧ cv < 4294967296 := by omega
        obtain ⟨c0, c1⟩ := hc2
        rw [hcv]
        have HV : Hid ((sv + cv) % 4294967296 = rs (L ++ pad cs) % 4294967296) := by
          show _ = _
          rw [rs_append _ _ HL4.out, rs_pad, ← HS.out, ← hcv]
          omega
        clear hcv hb5' r4 r1'' b4w
        go_wp2
        go_roundw
        case rel => exact ⟨k + 1, by omega, by go_num, A4, _, k4, L ++ pad cs, rfl, by rw [HV.out], r5, bytes_append HLB.out (pad_bytes HB1.out), by rw [List.length_append, pad_len]; have := HL4.out; have := padN_mod cs.length; omega, by rw [List.length_append, pad_len, Hl1.out]; unfold padN; omega, by rw [List.length_append, pad_len, Hl1.out]; unfold padN; omega, b5⟩
        case measure => simp [intOf]; omega
      · go_wp2
        go_roundw
        case rel => exact ⟨k + 1, by omega, by go_num, A3, n3, c3, L, rfl, by rw [HS.out], h3, HLB.out, HL4.out, by omega, hL, hb⟩
        case measure => simp [intOf]; omega
    · have hn3 : n3 ≤ 320 := by have := HLl.out; omega
      have hvv : (sv == sv) = true := by simp
      go_wp2_with fail
      refine (sum_rs_any _ _ _ L _ h3 HLB.out (by omega)).mono ?_
      rintro e w1 ⟨rfl, hb1'⟩
      rw [HS.out]
      have b1 : Below w.heap.size w w1 := hb.trans (hb1'.mono hs)
      clear hb1' hb h3
      go_wp2
      go_ret
      exact ⟨rfl, b1⟩

end Go.Proofs.Yteampemlkkkfcaa
