/- The bytes of a table head, and what is read of bytes: plain lists. -/
import Derived.Test.YtmpicokeenodbaaHeadR
import Derived.Test.YtmpicokeenodbaaWin
namespace Go.Proofs.Ytmpicokeenodbaa
set_option linter.unusedVariables false

theorem sgn_mod (x : Int) (h0 : 0 ≤ x) (h1 : x < 65536) : sgn x % 65536 = x ∧ -32768 ≤ sgn x ∧ sgn x < 32768 := by unfold sgn; split <;> omega
theorem mod_sgn (x : Int) (h0 : -32768 ≤ x) (h1 : x < 32768) : sgn (x % 65536) = x := by unfold sgn; split <;> omega

theorem s2_win {zs : List Int} (hB : Bytes zs) {i : Nat} (h : i + 2 ≤ zs.length) : s2 (s2at zs i) = (zs.drop i).take 2 := by
  have hb := n2at_lt hB i
  unfold s2 s2at
  rw [(sgn_mod _ hb.1 hb.2).1, b2_win hB h]
theorem b8_win {zs : List Int} (hB : Bytes zs) {i : Nat} (h : i + 8 ≤ zs.length) : b8 (n8at zs i) = (zs.drop i).take 8 := by
  have h1 := n4at_lt hB i
  have h2 := n4at_lt hB (i + 4)
  unfold b8 n8at
  rw [show (n4at zs i * 4294967296 + n4at zs (i + 4)) / 4294967296 = n4at zs i by omega, show (n4at zs i * 4294967296 + n4at zs (i + 4)) % 4294967296 = n4at zs (i + 4) by omega, b4_win hB (by omega), b4_win hB (by omega), win_join]

theorem hdOf_ok {zs : List Int} (hB : Bytes zs) : (hdOf zs).ok := by
  have hs : ∀ i, -32768 ≤ s2at zs i ∧ s2at zs i < 32768 := fun i => by
    have hb := n2at_lt hB i
    exact (sgn_mod _ hb.1 hb.2).2
  have h8 : ∀ i, 0 ≤ n8at zs i ∧ n8at zs i < 18446744073709551616 := fun i => by
    have h1 := n4at_lt hB i
    have h2 := n4at_lt hB (i + 4)
    unfold n8at
    omega
  refine ⟨n4at_lt hB _, n4at_lt hB _, n2at_lt hB _, n2at_lt hB _, h8 _, h8 _, fun x hx => ?_, n2at_lt hB _, n2at_lt hB _, hs _⟩
  simp only [Hd.box, hdOf, List.mem_cons, List.not_mem_nil, or_false] at hx
  rcases hx with rfl | rfl | rfl | rfl <;> exact hs _

/-- Are bytes a table's? -/
def hrt (zs : List Int) : Bool := decide (zs.length = 54 ∧ n4at zs 0 = 65536 ∧ n4at zs 12 = 1594834165 ∧ 16 ≤ n2at zs 18 ∧ n2at zs 18 ≤ 16384 ∧ n2at zs 50 ≤ 1 ∧ n2at zs 52 = 0)

theorem hdL_hdOf {zs : List Int} (hB : Bytes zs) (hl : zs.length = 54) : hdL (hdOf zs) = b4 65536 ++ ((zs.drop 4).take 8 ++ (b4 1594834165 ++ ((zs.drop 16).take 34 ++ (b2 (hdLong (n2at zs 50 == 1)) ++ b2 0)))) := by
  have h2 : ∀ i, i + 2 ≤ 54 → b2 (n2at zs i) = (zs.drop i).take 2 := fun i hi => b2_win hB (by omega)
  have h4 : ∀ i, i + 4 ≤ 54 → b4 (n4at zs i) = (zs.drop i).take 4 := fun i hi => b4_win hB (by omega)
  have hs : ∀ i, i + 2 ≤ 54 → s2 (s2at zs i) = (zs.drop i).take 2 := fun i hi => s2_win hB (by omega)
  have hs' : ∀ i, i + 2 ≤ 54 → b2 (s2at zs i % 65536) = (zs.drop i).take 2 := fun i hi => s2_win hB (by omega)
  have h8 : ∀ i, i + 8 ≤ 54 → b8 (n8at zs i) = (zs.drop i).take 8 := fun i hi => b8_win hB (by omega)
  unfold hdL hdPre
  simp only [Hd.box, hdOf, List.flatMap_cons, List.flatMap_nil, List.append_nil, List.append_assoc]
  rw [h4 4 (by omega), h4 8 (by omega), h2 16 (by omega), h2 18 (by omega), h8 20 (by omega), h8 28 (by omega), hs 36 (by omega), hs 38 (by omega), hs 40 (by omega), hs 42 (by omega), h2 44 (by omega), h2 46 (by omega), hs' 48 (by omega)]
  rw [show (zs.drop 4).take 8 = (zs.drop 4).take 4 ++ (zs.drop 8).take 4 from (win_join zs 4 4 4).symm]
  rw [show (zs.drop 16).take 34 = (zs.drop 16).take 2 ++ ((zs.drop 18).take 2 ++ ((zs.drop 20).take 8 ++ ((zs.drop 28).take 8 ++ ((zs.drop 36).take 2 ++ ((zs.drop 38).take 2 ++ ((zs.drop 40).take 2 ++ ((zs.drop 42).take 2 ++ ((zs.drop 44).take 2 ++ ((zs.drop 46).take 2 ++ (zs.drop 48).take 2))))))))) by
    rw [win_join zs 46 2 2, win_join zs 44 2 4, win_join zs 42 2 6, win_join zs 40 2 8, win_join zs 38 2 10, win_join zs 36 2 12, win_join zs 28 8 14, win_join zs 20 8 22, win_join zs 18 2 30, win_join zs 16 2 32]]
  simp only [List.append_assoc]

theorem zs_split {zs : List Int} (hl : zs.length = 54) : zs = zs.take 4 ++ ((zs.drop 4).take 8 ++ ((zs.drop 12).take 4 ++ ((zs.drop 16).take 34 ++ ((zs.drop 50).take 2 ++ (zs.drop 52).take 2)))) := by
  have h := win_join zs 0
  simp only [List.drop_zero, Nat.zero_add] at h
  rw [win_join zs 50 2 2, win_join zs 16 34 4, win_join zs 12 4 38, win_join zs 4 8 42, h 4 50, List.take_of_length_le (by omega)]

theorem b2_inj {x y : Int} (x0 : 0 ≤ x) (x1 : x < 65536) (y0 : 0 ≤ y) (y1 : y < 65536) (h : b2 x = b2 y) : x = y := by
  rw [← be_b2 x x0 x1, h, be_b2 y y0 y1]
theorem b4_inj {x y : Int} (x0 : 0 ≤ x) (x1 : x < 4294967296) (y0 : 0 ≤ y) (y1 : y < 4294967296) (h : b4 x = b4 y) : x = y := by
  rw [← be_b4 x x0 x1, h, be_b4 y y0 y1]

theorem hdL_iff {zs : List Int} (hB : Bytes zs) (hl : zs.length = 54) : sameB (hdL (hdOf zs)) zs = decide (n4at zs 0 = 65536 ∧ n4at zs 12 = 1594834165 ∧ n2at zs 50 ≤ 1 ∧ n2at zs 52 = 0) := by
  have e0 := b4_win hB (i := 0) (by omega)
  have e12 := b4_win hB (i := 12) (by omega)
  have e50 := b2_win hB (i := 50) (by omega)
  have e52 := b2_win hB (i := 52) (by omega)
  have b0 := n4at_lt hB 0
  have b12 := n4at_lt hB 12
  have b50 := n2at_lt hB 50
  have b52 := n2at_lt hB 52
  have hlg : hdLong (n2at zs 50 == 1) = n2at zs 50 ↔ n2at zs 50 ≤ 1 := by
    unfold hdLong
    by_cases h : n2at zs 50 = 1
    · simp [h]
    · have : (n2at zs 50 == 1) = false := by simpa using h
      rw [this]
      simp
      omega
  have hlb : 0 ≤ hdLong (n2at zs 50 == 1) ∧ hdLong (n2at zs 50 == 1) < 65536 := by unfold hdLong; split <;> omega
  rw [List.drop_zero] at e0
  unfold sameB
  rw [Bool.eq_iff_iff, decide_eq_true_iff, decide_eq_true_iff, hdL_hdOf hB hl]
  have e := zs_split hl
  rw [← e0, ← e12, ← e50, ← e52] at e
  constructor
  · intro h
    replace h := h.trans e
    have l4 : ∀ x y : Int, (b4 x).length = (b4 y).length := fun _ _ => rfl
    have l2 : ∀ x y : Int, (b2 x).length = (b2 y).length := fun _ _ => rfl
    obtain ⟨h1, h⟩ := List.append_inj h (l4 _ _)
    obtain ⟨_, h⟩ := List.append_inj h rfl
    obtain ⟨h2, h⟩ := List.append_inj h (l4 _ _)
    obtain ⟨_, h⟩ := List.append_inj h rfl
    obtain ⟨h3, h4⟩ := List.append_inj h (l2 _ _)
    exact ⟨(b4_inj (by omega) (by omega) b0.1 b0.2 h1).symm, (b4_inj (by omega) (by omega) b12.1 b12.2 h2).symm, hlg.1 (b2_inj hlb.1 hlb.2 b50.1 b50.2 h3), (b2_inj (by omega) (by omega) b52.1 b52.2 h4).symm⟩
  · rintro ⟨h1, h2, h3, h4⟩
    rw [hlg.2 h3]
    rw [h1, h2, h4] at e
    exact e.symm

theorem hdL_bytes (h : Hd) : Bytes (hdL h) := by
  have h8 : ∀ n, Bytes (b8 n) := fun n => bytes_append (b4_bytes _) (b4_bytes _)
  have hf : Bytes (h.box.flatMap s2) := fun x hx => by
    obtain ⟨y, _, hy⟩ := List.mem_flatMap.1 hx
    exact b2_bytes _ x hy
  unfold hdL hdPre
  exact bytes_append (bytes_append (bytes_append (bytes_append (bytes_append (bytes_append (bytes_append (bytes_append (bytes_append (bytes_append (bytes_append (bytes_append (bytes_append (b4_bytes _) (b4_bytes _)) (b4_bytes _)) (b4_bytes _)) (b2_bytes _)) (b2_bytes _)) (h8 _)) (h8 _)) hf) (b2_bytes _)) (b2_bytes _)) (b2_bytes _)) (b2_bytes _)) (b2_bytes _)

theorem n8at_of {zs : List Int} {i : Nat} {x : Int} (h : (zs.drop i).take 4 = b4 (x / 4294967296)) (h' : (zs.drop (i + 4)).take 4 = b4 (x % 4294967296)) (h0 : 0 ≤ x) (h1 : x < 18446744073709551616) : n8at zs i = x := by
  unfold n8at
  rw [n4at_of h (by omega) (by omega), n4at_of h' (by omega) (by omega)]
  omega
theorem s2at_of {zs : List Int} {i : Nat} {x : Int} (h : (zs.drop i).take 2 = b2 (x % 65536)) (h0 : -32768 ≤ x) (h1 : x < 32768) : s2at zs i = x := by
  unfold s2at
  rw [n2at_of h (by omega) (by omega), mod_sgn x h0 h1]

theorem hdLong_is (lg : Bool) : (hdLong lg == 1) = lg := by cases lg <;> rfl
theorem hdLong_bd (lg : Bool) : 0 ≤ hdLong lg ∧ hdLong lg ≤ 1 := by unfold hdLong; split <;> omega

set_option maxHeartbeats 4000000 in
theorem hdOf_hdL (h : Hd) (ho : h.ok) : hdOf (hdL h) = h := by
  obtain ⟨rv, ad, fl, un, cr, mo, x0, x1, x2, x3, st, lo, hi, lg⟩ := h
  obtain ⟨hrv, had, hfl, hun, hcr, hmo, hbox, hst, hlo, hhi⟩ := ho
  simp only at hrv had hfl hun hcr hmo hst hlo hhi
  have hb : ∀ x ∈ [x0, x1, x2, x3], -32768 ≤ x ∧ x < 32768 := hbox
  have hlb := hdLong_bd lg
  unfold hdOf
  rw [n4at_of (x := rv) rfl hrv.1 hrv.2, n4at_of (x := ad) rfl had.1 had.2, n2at_of (x := fl) rfl hfl.1 hfl.2, n2at_of (x := un) rfl hun.1 hun.2,
    n8at_of (x := cr) rfl rfl hcr.1 hcr.2, n8at_of (x := mo) rfl rfl hmo.1 hmo.2,
    s2at_of (x := x0) rfl (hb x0 (by simp)).1 (hb x0 (by simp)).2, s2at_of (x := x1) rfl (hb x1 (by simp)).1 (hb x1 (by simp)).2, s2at_of (x := x2) rfl (hb x2 (by simp)).1 (hb x2 (by simp)).2, s2at_of (x := x3) rfl (hb x3 (by simp)).1 (hb x3 (by simp)).2,
    n2at_of (x := st) rfl hst.1 hst.2, n2at_of (x := lo) rfl hlo.1 hlo.2, s2at_of (x := hi) rfl hhi.1 hhi.2, n2at_of (x := hdLong lg) rfl hlb.1 (by omega), hdLong_is]

theorem hrt_hdL (h : Hd) (ho : h.ok) (hr : hdRight h = true) : hrt (hdL h) = true := by
  have hlb := hdLong_bd h.lg
  unfold hrt
  rw [decide_eq_true_iff]
  have hu : 16 ≤ h.un ∧ h.un ≤ 16384 := by unfold hdRight at hr; simpa using hr
  rw [n2at_of (i := 18) (x := h.un) rfl ho.un.1 ho.un.2, n2at_of (i := 50) (x := hdLong h.lg) rfl hlb.1 (by omega)]
  exact ⟨hdL_len h, n4at_of rfl (by omega) (by omega), n4at_of rfl (by omega) (by omega), hu.1, hu.2, hlb.2, n2at_of rfl (by omega) (by omega)⟩

theorem hdRight_hdOf (zs : List Int) : hdRight (hdOf zs) = (decide (16 ≤ n2at zs 18) && decide (n2at zs 18 ≤ 16384)) := rfl

/-- Laid out again it is what was read, just if it is one. -/
theorem hrt_same {zs : List Int} (hB : Bytes zs) (hl : zs.length = 54) : sameB (if hdRight (hdOf zs) = true then hdL (hdOf zs) else []) zs = hrt zs := by
  rw [hdRight_hdOf]
  unfold hrt
  by_cases h1 : 16 ≤ n2at zs 18
  · by_cases h2 : n2at zs 18 ≤ 16384
    · have hif : (decide (16 ≤ n2at zs 18) && decide (n2at zs 18 ≤ 16384)) = true := by simp [h1, h2]
      rw [if_pos hif, hdL_iff hB hl]
      simp [hl, h1, h2]
    · simp [h2, sameB]
      rintro rfl
      simp at hl
  · simp [h1, sameB]
    rintro rfl
    simp at hl

end Go.Proofs.Ytmpicokeenodbaa
