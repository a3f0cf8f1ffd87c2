/- What head.read answers, as a contract over this seat's translation. -/
import Derived.Test.YtmpicokeenodbaaHead
import Derived.Test.YtmpicokeenodbaaRdBox
import Derived.Deep.DeepCutAuto
namespace Go.Proofs.Ytmpicokeenodbaa
open Go.RowKit
set_option linter.unusedVariables false

/-- The number of eight bytes from a place on; that of two with a sign. -/
def n8at (zs : List Int) (i : Nat) : Int := n4at zs i * 4294967296 + n4at zs (i + 4)
def s2at (zs : List Int) (i : Nat) : Int := sgn (n2at zs i)

section
variable {w wr : World} {B b : Nat} {zs : List Int} {i b1 b2 : Nat} {c1 c2 : Array Value} {t : TypeId}

theorem rs_u32 (h : RS w wr B b zs i b1 c1 b2 c2 t) (hB : Bytes zs) (hi : i + 4 ≤ zs.length) (hl : zs.length ≤ 1000000) :
    Calls Try.prog 49 #[.pointer (some ⟨b, 0, none⟩)] wr (fun e w' => e = .returned (.int .u32 (n4at zs i)) ∧ RS w w' B b zs (i + 4) b1 c1 b2 c2 t) :=
  (u32_any B b _ _ _ wr h.rd (drop_bytes hB _) (by rw [List.length_drop]; omega) (by omega) (by omega)).mono fun e w' ⟨he, hr, hg⟩ => ⟨he, h.ask hi hr hg⟩
theorem rs_u16 (h : RS w wr B b zs i b1 c1 b2 c2 t) (hB : Bytes zs) (hi : i + 2 ≤ zs.length) (hl : zs.length ≤ 1000000) :
    Calls Try.prog 50 #[.pointer (some ⟨b, 0, none⟩)] wr (fun e w' => e = .returned (.int .u16 (n2at zs i)) ∧ RS w w' B b zs (i + 2) b1 c1 b2 c2 t) :=
  (u16_any B b _ _ _ wr h.rd (drop_bytes hB _) (by rw [List.length_drop]; omega) (by omega) (by omega)).mono fun e w' ⟨he, hr, hg⟩ => ⟨he, h.ask hi hr hg⟩
theorem rs_i16 (h : RS w wr B b zs i b1 c1 b2 c2 t) (hB : Bytes zs) (hi : i + 2 ≤ zs.length) (hl : zs.length ≤ 1000000) :
    Calls Try.prog 52 #[.pointer (some ⟨b, 0, none⟩)] wr (fun e w' => e = .returned (.int .i16 (s2at zs i)) ∧ RS w w' B b zs (i + 2) b1 c1 b2 c2 t) :=
  (i16_any B b _ _ _ wr h.rd (drop_bytes hB _) (by rw [List.length_drop]; omega) (by omega) (by omega)).mono fun e w' ⟨he, hr, hg⟩ => ⟨he, h.ask hi hr hg⟩

theorem n4at_bd (hB : Bytes zs) (i : Nat) : 0 ≤ n4at zs i ∧ n4at zs i < 4294967296 := by
  have := num_lt (drop_bytes hB i) 4 4 (by omega)
  simp only [Int.pow_succ, Int.pow_zero, Int.one_mul, Int.reduceMul] at this
  exact this

theorem or_low32 (x y : Int) (x0 : 0 ≤ x) (x1 : x < 4294967296) (y0 : 0 ≤ y) (y1 : y < 4294967296) : bits .or .u64 (x * 4294967296) y = x * 4294967296 + y := by
  rw [u64_or _ _ (by omega) (by omega) y0 (by omega)]
  obtain ⟨a, rfl⟩ := Int.eq_ofNat_of_zero_le x0
  obtain ⟨c, rfl⟩ := Int.eq_ofNat_of_zero_le y0
  rw [show ((a : Int) * 4294967296).toNat = a <<< 32 by rw [Nat.shiftLeft_eq]; omega, Int.toNat_natCast, ← Nat.shiftLeft_add_eq_or_of_lt (by omega), Nat.shiftLeft_eq]
  omega

set_option maxHeartbeats 1000000 in
theorem rs_time (h : RS w wr B b zs i b1 c1 b2 c2 t) (hB : Bytes zs) (hi : i + 8 ≤ zs.length) (hl : zs.length ≤ 1000000) :
    Calls Try.prog 51 #[.pointer (some ⟨b, 0, none⟩)] wr (fun e w' => e = .returned (.int .u64 (n8at zs i)) ∧ RS w w' B b zs (i + 8) b1 c1 b2 c2 t) := by
  have h1 := n4at_bd hB i
  have h2 := n4at_bd hB (i + 4)
  have H := Lib.hid (or_low32 _ _ h1.1 h1.2 h2.1 h2.2)
  have HB := Lib.hid hB
  clear hB
  go_enter Try.func51, Try.ntmps51
  go_wp2_with fail
  refine (rs_u32 h HB.out (by omega) hl).mono ?_
  rintro e w1 ⟨rfl, r1⟩
  go_wp2_with fail
  refine (rs_u32 r1 HB.out (by omega) hl).mono ?_
  rintro e w2 ⟨rfl, r2⟩
  go_wp2
  go_ret
  exact ⟨by show Ending.returned (.int .u64 (bits .or .u64 (n4at zs i * 4294967296) (n4at zs (i + 4)))) = _; rw [H.out]; rfl, r2⟩
end


abbrev hdZ : Array Value := #[.int .u32 0, .int .u32 0, .int .u16 0, .int .u16 0, .int .u64 0, .int .u64 0, .int .i16 0, .int .i16 0, .int .i16 0, .int .i16 0, .int .u16 0, .int .u16 0, .int .i16 0, .bool false]
/-- What is read of fifty-four bytes. -/
def hdOf (zs : List Int) : Hd := ⟨n4at zs 4, n4at zs 8, n2at zs 16, n2at zs 18, n8at zs 20, n8at zs 28, s2at zs 36, s2at zs 38, s2at zs 40, s2at zs 42, n2at zs 44, n2at zs 46, s2at zs 48, n2at zs 50 == 1⟩
/-- The cells when k numbers of the box have been read. -/
def hdPart (zs : List Int) (k : Nat) : List Value :=
  [.int .u32 (n4at zs 4), .int .u32 (n4at zs 8), .int .u16 (n2at zs 16), .int .u16 (n2at zs 18), .int .u64 (n8at zs 20), .int .u64 (n8at zs 28)] ++ ((List.range 4).map (fun j => .int .i16 (if j < k then s2at zs (36 + 2 * j) else 0)) ++ [.int .u16 0, .int .u16 0, .int .i16 0, .bool false])
theorem hdPart_at (zs : List Int) (k : Nat) (hk : k < 4) : (hdPart zs k)[6 + k]? = some (.int .i16 0) := by
  match k, hk with
  | 0, _ => rfl
  | 1, _ => rfl
  | 2, _ => rfl
  | 3, _ => rfl
theorem hdPart_set (zs : List Int) (k : Nat) (hk : k < 4) : (hdPart zs k).toArray.setIfInBounds (6 + k) (.int .i16 (s2at zs (36 + 2 * k))) = (hdPart zs (k + 1)).toArray := by
  match k, hk with
  | 0, _ => rfl
  | 1, _ => rfl
  | 2, _ => rfl
  | 3, _ => rfl

set_option maxRecDepth 100000 in
set_option maxHeartbeats 4000000 in
theorem hread_any (B b : Nat) (zs : List Int) (w : World) (h : Rd w B b zs 0 false) (hB : Bytes zs) (hl : zs.length = 54) :
    Calls Try.prog 37 #[.pointer (some ⟨b, 0, none⟩)] w (fun e w' => e = .returned (hdV (hdOf zs)) ∧ w.grownBy w' (some b)) := by
  have HB := Lib.hid hB
  have HL := Lib.hid hl
  have h0 := rs_new w hdZ hdZ 28 B b zs h (by decide)
  simp only [hdZ] at h0
  clear hB hl h
  go_enter Try.func37, Try.ntmps37
  go_wp2_with fail
  generalize (w.alloc _).alloc _ = V at *
  refine (rs_u32 h0 HB.out (by have := HL.out; omega) (by have := HL.out; omega)).mono ?_
  rintro e w1 ⟨rfl, h1⟩
  replace h1 : RS _ _ _ _ _ 4 _ _ _ _ _ := h1
  clear h0
  go_wp2_with fail
  refine (rs_u32 h1 HB.out (by have := HL.out; omega) (by have := HL.out; omega)).mono ?_
  rintro e w2 ⟨rfl, h2⟩
  replace h2 : RS _ _ _ _ _ 8 _ _ _ _ _ := h2
  clear h1
  have c0 := h2.cell2 0 _ rfl
  have f0 := h2.thaw2
  replace h2 := h2.set2 0 (.int .u32 (n4at zs 4))
  simp only [List.setIfInBounds_toArray, List.set_cons_zero] at h2
  go_wp2_with fail
  clear c0 f0
  generalize World.setCell _ _ _ = V1 at *
  refine (rs_u32 h2 HB.out (by have := HL.out; omega) (by have := HL.out; omega)).mono ?_
  rintro e w3 ⟨rfl, h3⟩
  replace h3 : RS _ _ _ _ _ 12 _ _ _ _ _ := h3
  clear h2
  have c0 := h3.cell2 1 _ rfl
  have f0 := h3.thaw2
  replace h3 := h3.set2 1 (.int .u32 (n4at zs 8))
  simp only [List.setIfInBounds_toArray, List.set_cons_zero, List.set_cons_succ] at h3
  go_wp2_with fail
  clear c0 f0
  generalize World.setCell _ _ _ = V2 at *
  refine (rs_u32 h3 HB.out (by have := HL.out; omega) (by have := HL.out; omega)).mono ?_
  rintro e w4 ⟨rfl, h4⟩
  replace h4 : RS _ _ _ _ _ 16 _ _ _ _ _ := h4
  clear h3
  go_wp2_with fail
  refine (rs_u16 h4 HB.out (by have := HL.out; omega) (by have := HL.out; omega)).mono ?_
  rintro e w5 ⟨rfl, h5⟩
  replace h5 : RS _ _ _ _ _ 18 _ _ _ _ _ := h5
  clear h4
  have c0 := h5.cell2 2 _ rfl
  have f0 := h5.thaw2
  replace h5 := h5.set2 2 (.int .u16 (n2at zs 16))
  simp only [List.setIfInBounds_toArray, List.set_cons_zero, List.set_cons_succ] at h5
  go_wp2_with fail
  clear c0 f0
  generalize World.setCell _ _ _ = V4 at *
  refine (rs_u16 h5 HB.out (by have := HL.out; omega) (by have := HL.out; omega)).mono ?_
  rintro e w6 ⟨rfl, h6⟩
  replace h6 : RS _ _ _ _ _ 20 _ _ _ _ _ := h6
  clear h5
  have c0 := h6.cell2 3 _ rfl
  have f0 := h6.thaw2
  replace h6 := h6.set2 3 (.int .u16 (n2at zs 18))
  simp only [List.setIfInBounds_toArray, List.set_cons_zero, List.set_cons_succ] at h6
  go_wp2_with fail
  clear c0 f0
  generalize World.setCell _ _ _ = V5 at *
  refine (rs_time h6 HB.out (by have := HL.out; omega) (by have := HL.out; omega)).mono ?_
  rintro e w7 ⟨rfl, h7⟩
  replace h7 : RS _ _ _ _ _ 28 _ _ _ _ _ := h7
  clear h6
  have c0 := h7.cell2 4 _ rfl
  have f0 := h7.thaw2
  replace h7 := h7.set2 4 (.int .u64 (n8at zs 20))
  simp only [List.setIfInBounds_toArray, List.set_cons_zero, List.set_cons_succ] at h7
  go_wp2_with fail
  clear c0 f0
  generalize World.setCell _ _ _ = V6 at *
  refine (rs_time h7 HB.out (by have := HL.out; omega) (by have := HL.out; omega)).mono ?_
  rintro e w8 ⟨rfl, h8⟩
  replace h8 : RS _ _ _ _ _ 36 _ _ _ _ _ := h8
  clear h7
  have c0 := h8.cell2 5 _ rfl
  have f0 := h8.thaw2
  replace h8 := h8.set2 5 (.int .u64 (n8at zs 28))
  simp only [List.setIfInBounds_toArray, List.set_cons_zero, List.set_cons_succ] at h8
  go_wp2
  clear c0 f0
  generalize World.setCell _ _ _ = V9 at *
  have H3 : Hid (RS w V9 B b zs (36 + 2 * 0) w.heap.size hdZ (w.heap.size + 1) (hdPart zs 0).toArray 28) := h8
  clear h8
  go_loopw [27] (fun i wr => ∃ k : Nat, k ≤ 4 ∧ i = .int .i64 k ∧ RS w wr B b zs (36 + 2 * k) w.heap.size hdZ (w.heap.size + 1) (hdPart zs k).toArray 28) (fun i _ => 4 - (intOf i).toNat)
  case atStart => exact ⟨0, Nat.zero_le _, rfl, H3.out⟩
  case round =>
    clear H3
    obtain ⟨k, hk, rfl, hs⟩ := hrel
    by_cases hlt : k < 4
    · have hk0 : (0 : Int) ≤ (k : Int) := by omega
      have hk1 : (k : Int) < 4 := by omega
      go_wp2_with fail
      refine (rs_i16 hs HB.out (by have := HL.out; omega) (by have := HL.out; omega)).mono ?_
      rintro e w3 ⟨rfl, h4⟩
      rw [show 36 + 2 * k + 2 = 36 + 2 * (k + 1) by omega] at h4
      clear hs
      have ck := h4.cell2 (6 + k) _ (by rw [List.getElem?_toArray]; exact hdPart_at zs k hlt)
      have f0 := h4.thaw2
      have h5 := h4.set2 (6 + k) (.int .i16 (s2at zs (36 + 2 * k)))
      rw [hdPart_set zs k hlt] at h5
      have H5 := Lib.hid h5
      clear h4 h5
      go_wp2
      go_roundw
      case rel => exact ⟨k + 1, by omega, by go_num, H5.out⟩
      case measure => simp [intOf]; omega
    · obtain rfl : k = 4 := by omega
      have h0 : RS w wr B b zs 44 w.heap.size hdZ (w.heap.size + 1) #[.int .u32 (n4at zs 4), .int .u32 (n4at zs 8), .int .u16 (n2at zs 16), .int .u16 (n2at zs 18), .int .u64 (n8at zs 20), .int .u64 (n8at zs 28), .int .i16 (s2at zs 36), .int .i16 (s2at zs 38), .int .i16 (s2at zs 40), .int .i16 (s2at zs 42), .int .u16 0, .int .u16 0, .int .i16 0, .bool false] 28 := hs
      clear hs
      simp only [hdZ] at h0
      go_wp2_with fail
      refine (rs_u16 h0 HB.out (by have := HL.out; omega) (by have := HL.out; omega)).mono ?_
      rintro e w1 ⟨rfl, h1⟩
      replace h1 : RS _ _ _ _ _ 46 _ _ _ _ _ := h1
      clear h0
      have c0 := h1.cell2 10 _ rfl
      have f0 := h1.thaw2
      replace h1 := h1.set2 10 (.int .u16 (n2at zs 44))
      simp only [List.setIfInBounds_toArray, List.set_cons_zero, List.set_cons_succ] at h1
      go_wp2_with fail
      clear c0 f0
      generalize World.setCell _ _ _ = V0 at *
      refine (rs_u16 h1 HB.out (by have := HL.out; omega) (by have := HL.out; omega)).mono ?_
      rintro e w2 ⟨rfl, h2⟩
      replace h2 : RS _ _ _ _ _ 48 _ _ _ _ _ := h2
      clear h1
      have c0 := h2.cell2 11 _ rfl
      have f0 := h2.thaw2
      replace h2 := h2.set2 11 (.int .u16 (n2at zs 46))
      simp only [List.setIfInBounds_toArray, List.set_cons_zero, List.set_cons_succ] at h2
      go_wp2_with fail
      clear c0 f0
      generalize World.setCell _ _ _ = V1 at *
      refine (rs_i16 h2 HB.out (by have := HL.out; omega) (by have := HL.out; omega)).mono ?_
      rintro e w3 ⟨rfl, h3⟩
      replace h3 : RS _ _ _ _ _ 50 _ _ _ _ _ := h3
      clear h2
      have c0 := h3.cell2 12 _ rfl
      have f0 := h3.thaw2
      replace h3 := h3.set2 12 (.int .i16 (s2at zs 48))
      simp only [List.setIfInBounds_toArray, List.set_cons_zero, List.set_cons_succ] at h3
      go_wp2_with fail
      clear c0 f0
      generalize World.setCell _ _ _ = V2 at *
      refine (rs_u16 h3 HB.out (by have := HL.out; omega) (by have := HL.out; omega)).mono ?_
      rintro e w4 ⟨rfl, h4⟩
      replace h4 : RS _ _ _ _ _ 52 _ _ _ _ _ := h4
      clear h3
      have c0 := h4.cell2 13 _ rfl
      have f0 := h4.thaw2
      replace h4 := h4.set2 13 (.bool (n2at zs 50 == 1))
      simp only [List.setIfInBounds_toArray, List.set_cons_zero, List.set_cons_succ] at h4
      go_upto_region 19 with fail
      generalize World.setCell _ _ _ = V3 at *
      clear c0 f0
      obtain ⟨d0, d1, d2, d3, d4, d5, d6, d7, d8, d9, d10, d11, d12, d13⟩ := cells14 h4.k1
      obtain ⟨e0, e1, e2, e3, e4, e5, e6, e7, e8, e9, e10, e11, e12, e13⟩ := cells14 h4.k2
      have f1 := h4.thaw1
      have hg := h4.gr
      clear h4
      go_wp2
      refine bodyPost_ret (v := hdV ⟨n4at zs 4, n4at zs 8, n2at zs 16, n2at zs 18, n8at zs 20, n8at zs 28, s2at zs 36, s2at zs 38, s2at zs 40, s2at zs 42, n2at zs 44, n2at zs 46, s2at zs 48, n2at zs 50 == 1⟩) (by simp [results, Try.results37, go_sem, d0, d1, d2, d3, d4, d5, d6, d7, d8, d9, d10, d11, d12, d13]) rfl ⟨rfl, ?_⟩
      iterate 14 refine grown_new (Nat.le_refl _) _ _ ?_
      exact hg

end Go.Proofs.Ytmpicokeenodbaa
