/- simple: what is written is read again; more behind it says nothing: plain lists. -/
import Derived.Test.YtlcnonhebppeiaaSimT
import Derived.Test.YtlcnonhebppeiaaSimX
namespace Go.Proofs.Ytlcnonhebppeiaa
open Go.RowKit
set_option linter.unusedVariables false

theorem drop_len {A B : List Int} {i : Nat} (h : A.length = i) : (A ++ B).drop i = B := by subst h; simp
theorem n2at_mid {zs A C : List Int} {x : Int} {i : Nat} (h : zs = A ++ (b2 x ++ C)) (hA : A.length = i) (h0 : 0 ≤ x) (h1 : x < 65536) : n2at zs i = x := by
  refine n2at_of ?_ h0 h1
  rw [h, drop_len hA]
  rfl
theorem n1at_mid {zs A C : List Int} {x : Int} {i : Nat} (h : zs = A ++ (x :: C)) (hA : A.length = i) : n1at zs i = x := by
  refine n1at_get ?_
  subst hA
  rw [h]
  simp
theorem sgn_mod {x : Int} (h0 : -32768 ≤ x) (h1 : x ≤ 32767) : sgn (x % 65536) = x := by unfold sgn; split <;> omega

/-- What counts of a flag. -/
def core (v : Int) : Bool × Bool × Bool × Bool × Bool := (fb v 1, fb v 2, fb v 4, fb v 16, fb v 32)
theorem core8 {f : Int} (h : f ∈ flagsAll) : core (f + 8) = core f ∧ fb f 8 = false ∧ fb f 128 = false ∧ fb (f + 8) 8 = true ∧ fb (f + 8) 128 = false := by
  have : ∀ f ∈ flagsAll, core (f + 8) = core f ∧ fb f 8 = false ∧ fb f 128 = false ∧ fb (f + 8) 8 = true ∧ fb (f + 8) 128 = false := by decide +kernel
  exact this f h

theorem rle_dec (zs : List Int) (n : Nat) : ∀ (m : Nat) (r : List Int) (s : FS) (A C : List Int), r.length ≤ m → (∀ f ∈ r, f ∈ flagsAll) → zs = A ++ (rle r ++ C) → A.length = s.at_ → n = s.fl.length + r.length →
    ∃ t, fAll zs n s = some t ∧ t.fl.map core = s.fl.map core ++ r.map core ∧ t.at_ = s.at_ + (rle r).length := by
  intro m
  induction m with
  | zero =>
    intro r s A C hm hr hz hA hn
    obtain rfl : r = [] := List.eq_nil_of_length_eq_zero (by omega)
    exact ⟨s, fAll_done (by simp at hn; omega), by simp, by simp [rle_nil]⟩
  | succ m ih =>
    intro r s A C hm hr hz hA hn
    by_cases hne : r = []
    · subst hne
      exact ⟨s, fAll_done (by simp at hn; omega), by simp, by simp [rle_nil]⟩
    · have hp := rowOf_pos hne
      obtain ⟨hk1, hk2⟩ := rowOf_le r
      have htk := rowOf_take r
      have hst := rle_step hne
      have hrl : 0 < r.length := by omega
      have hf : r.headD 0 ∈ flagsAll := by
        refine hr _ ?_
        cases r with
        | nil => exact absurd rfl hne
        | cons x l => simp
      obtain ⟨e1, e2, e3, e4, e5⟩ := core8 hf
      unfold rleHead at hst
      generalize hk : rowOf r = k at *
      generalize hff : r.headD 0 = f at *
      have hsplit : r = List.replicate k f ++ r.drop k := by rw [← htk, List.take_append_drop]
      by_cases h1 : k = 1
      · rw [if_pos h1] at hst
        rw [hst] at hz ⊢
        have h1at : n1at zs s.at_ = f := n1at_mid (A := A) (C := rle (r.drop k) ++ C) (by rw [hz]; simp) hA
        have hM : fMore zs s.at_ = 0 := by unfold fMore; rw [h1at, e2]; rfl
        have hS : fSize zs s.at_ = 1 := by unfold fSize; rw [h1at, e2]; rfl
        have hok : fOk zs n s = true := by unfold fOk; rw [h1at, e3, hM]; simp; omega
        have hnx : fNext zs s = ⟨s.fl ++ [f], s.at_ + 1⟩ := by unfold fNext; rw [h1at, hM, hS]; rfl
        obtain ⟨t, ht1, ht2, ht3⟩ := ih (r.drop k) (fNext zs s) (A ++ [f]) C (by rw [List.length_drop]; omega) (fun x hx => hr x (List.mem_of_mem_drop hx)) (by rw [hz]; simp) (by rw [hnx]; simp [hA]) (by rw [hnx, List.length_drop]; simp; omega)
        refine ⟨t, by rw [fAll_step (by omega) hok]; exact ht1, ?_, ?_⟩
        · rw [ht2, hnx]
          conv => rhs; rw [hsplit, h1]
          rw [h1]
          simp
        · rw [ht3, hnx]
          simp
          omega
      · rw [if_neg h1] at hst
        rw [hst] at hz ⊢
        have h1at : n1at zs s.at_ = f + 8 := n1at_mid (A := A) (C := ((k : Int) - 1) :: (rle (r.drop k) ++ C)) (by rw [hz]; simp) hA
        have h2at : n1at zs (s.at_ + 1) = (k : Int) - 1 := n1at_mid (A := A ++ [f + 8]) (C := rle (r.drop k) ++ C) (by rw [hz]; simp) (by simp [hA])
        have hM : fMore zs s.at_ = k - 1 := by unfold fMore; rw [h1at, e4, h2at]; simp
        have hS : fSize zs s.at_ = 2 := by unfold fSize; rw [h1at, e4]; rfl
        have hok : fOk zs n s = true := by unfold fOk; rw [h1at, e5, hM]; simp; omega
        have hnx : fNext zs s = ⟨s.fl ++ List.replicate k (f + 8), s.at_ + 2⟩ := by unfold fNext; rw [h1at, hM, hS, show k - 1 + 1 = k by omega]
        obtain ⟨t, ht1, ht2, ht3⟩ := ih (r.drop k) (fNext zs s) (A ++ [f + 8, (k : Int) - 1]) C (by rw [List.length_drop]; omega) (fun x hx => hr x (List.mem_of_mem_drop hx)) (by rw [hz]; simp) (by rw [hnx]; simp [hA]) (by rw [hnx, List.length_drop]; simp; omega)
        refine ⟨t, by rw [fAll_step (by omega) hok]; exact ht1, ?_, ?_⟩
        · rw [ht2, hnx]
          conv => rhs; rw [hsplit]
          simp [e1]
        · rw [ht3, hnx]
          simp
          omega

/-- The bits that a flag has for a change. -/
def sbit (d : Int) : Bool := decide (d ≠ 0 ∧ -255 ≤ d ∧ d ≤ 255)
def pbit (d : Int) : Bool := decide (d = 0 ∨ (0 < d ∧ d ≤ 255))
theorem bitsV_x (d : Int) : (bitsV d 2 16, sbit d, pbit d) ∈ ([(16, false, true), (18, true, true), (2, true, false), (0, false, false)] : List (Int × Bool × Bool)) := by
  unfold bitsV sbit pbit
  by_cases h0 : d = 0
  · simp [h0]
  · by_cases h1 : -255 ≤ d ∧ d ≤ 255
    · by_cases h2 : 0 < d
      · simp [h0, h1, h2]
      · simp [h0, h1, h2]
    · have h3 : ¬ (0 < d ∧ d ≤ 255) := by omega
      simp [h0, h1]
      omega
theorem bitsV_y (d : Int) : (bitsV d 4 32, sbit d, pbit d) ∈ ([(32, false, true), (36, true, true), (4, true, false), (0, false, false)] : List (Int × Bool × Bool)) := by
  unfold bitsV sbit pbit
  by_cases h0 : d = 0
  · simp [h0]
  · by_cases h1 : -255 ≤ d ∧ d ≤ 255
    · by_cases h2 : 0 < d
      · simp [h0, h1, h2]
      · simp [h0, h1, h2]
    · have h3 : ¬ (0 < d ∧ d ≤ 255) := by omega
      simp [h0, h1]
      omega
theorem flag_core (dx dy : Int) (on : Bool) : core (flagOf dx dy on) = (on, sbit dx, sbit dy, pbit dx, pbit dy) := by
  have hx := bitsV_x dx
  have hy := bitsV_y dy
  unfold flagOf
  simp only [List.mem_cons, Prod.mk.injEq, List.not_mem_nil, or_false] at hx hy
  rcases hx with ⟨h1, h2, h3⟩ | ⟨h1, h2, h3⟩ | ⟨h1, h2, h3⟩ | ⟨h1, h2, h3⟩ <;> rcases hy with ⟨k1, k2, k3⟩ | ⟨k1, k2, k3⟩ | ⟨k1, k2, k3⟩ | ⟨k1, k2, k3⟩ <;> rw [h1, h2, h3, k1, k2, k3] <;> cases on <;> decide

theorem cwB_cb (d : Int) : cwB (sbit d) (pbit d) = (cb d).length := by
  unfold cb
  by_cases h0 : d = 0
  · simp [h0, sbit, pbit, cwB]
  · rw [if_neg h0]
    by_cases h1 : -255 ≤ d ∧ d ≤ 255
    · rw [if_pos h1]
      simp [h0, h1, sbit, cwB]
    · rw [if_neg h1]
      have : pbit d = false := by unfold pbit; rw [decide_eq_false_iff_not]; omega
      rw [this]
      simp [h0, h1, sbit, cwB, b2]
theorem cvB_cb {zs A C : List Int} {d : Int} {p : Nat} (h : zs = A ++ (cb d ++ C)) (hA : A.length = p) (h0 : -32768 ≤ d) (h1 : d ≤ 32767) : cvB zs (sbit d) (pbit d) p = d := by
  unfold cb at h
  by_cases hd : d = 0
  · simp [hd, sbit, pbit, cvB]
  · rw [if_neg hd] at h
    by_cases hs : -255 ≤ d ∧ d ≤ 255
    · rw [if_pos hs] at h
      have hv : n1at zs p = max d (-d) := n1at_mid (A := A) (C := C) (by rw [h]; simp) hA
      have hsb : sbit d = true := by unfold sbit; rw [decide_eq_true_eq]; exact ⟨hd, hs⟩
      unfold cvB
      rw [hsb, if_pos rfl, hv]
      by_cases hp : 0 < d
      · have : pbit d = true := by unfold pbit; rw [decide_eq_true_eq]; omega
        rw [this, if_pos rfl]
        omega
      · have : pbit d = false := by unfold pbit; rw [decide_eq_false_iff_not]; omega
        rw [this, if_neg (by decide)]
        omega
    · rw [if_neg hs] at h
      have hv : n2at zs p = d % 65536 := n2at_mid h hA (by omega) (by omega)
      have hsb : sbit d = false := by unfold sbit; rw [decide_eq_false_iff_not]; omega
      have hpb : pbit d = false := by unfold pbit; rw [decide_eq_false_iff_not]; omega
      unfold cvB
      rw [hsb, hpb, if_neg (by decide), if_neg (by decide), hv]
      exact sgn_mod h0 h1

theorem ahd_chA (xs : List Int) (k : Nat) : ahd xs (k + 1) = ahd xs k + chA xs k := by
  unfold ahd chA
  rw [if_neg (by omega), Nat.add_sub_cancel]
  split <;> omega
theorem pk_dec {zs : List Int} {sh pl : Int} {fl xs : List Int} {a : Nat} {A C : List Int} (hz : zs = A ++ (cbs (chs xs) ++ C)) (hA : A.length = a)
    (hb : ∀ i, i < xs.length → fb (fl.getD i 0) sh = sbit (chA xs i) ∧ fb (fl.getD i 0) pl = pbit (chA xs i)) (hd : ∀ d ∈ chs xs, -32768 ≤ d ∧ d ≤ 32767) :
    ∀ k, k ≤ xs.length → pkAt zs sh pl fl a k = (a + (cbs ((chs xs).take k)).length, ahd xs k) := by
  intro k
  induction k with
  | zero => intro _; simp [pkAt, cbs, ahd]
  | succ k ih =>
    intro hk
    have h := ih (by omega)
    obtain ⟨b1, b2⟩ := hb k (by omega)
    have hget := chs_get xs (i := k) (by omega)
    have hc := cbs_cut (chs xs) hget
    have hs := cbs_snoc hget
    obtain ⟨d0, d1⟩ := hd _ (List.mem_of_getElem? hget)
    unfold pkAt
    rw [h, hs, List.length_append, ← cwB_cb, ahd_chA]
    have hv : cv zs sh pl (fl.getD k 0) (a + (cbs ((chs xs).take k)).length) = chA xs k := by
      rw [← cvB_eq, b1, b2]
      exact cvB_cb (A := A ++ cbs ((chs xs).take k)) (C := cbs ((chs xs).drop (k + 1)) ++ C) (by rw [hz, hc]; simp) (by rw [List.length_append, hA]) d0 d1
    rw [← cwB_eq, b1, b2]
    simp only [hv]
    rw [Nat.add_assoc]

theorem ahd_get {xs : List Int} {k : Nat} {x : Int} (h : xs[k]? = some x) : ahd xs (k + 1) = x := by
  unfold ahd
  rw [if_neg (by omega), Nat.add_sub_cancel]
  simp [h]
theorem ahd_bd {xs : List Int} (h : ∀ x ∈ xs, -32768 ≤ x ∧ x ≤ 32767) (k : Nat) : -32768 ≤ ahd xs k ∧ ahd xs k ≤ 32767 := by
  unfold ahd
  split
  · omega
  · rw [List.getD_eq_getElem?_getD]
    cases h2 : xs[k - 1]? with
    | none => simp
    | some x => exact h x (List.mem_of_getElem? h2)
theorem pkOk_of {zs : List Int} {sh pl : Int} {fl xs : List Int} {a : Nat} (hx : ∀ x ∈ xs, -32768 ≤ x ∧ x ≤ 32767) (h : ∀ k, k ≤ xs.length → (pkAt zs sh pl fl a k).2 = ahd xs k) : pkOk zs sh pl fl a xs.length = true := by
  unfold pkOk
  rw [List.all_eq_true]
  intro i hi
  rw [h (i + 1) (by have := List.mem_range.1 hi; omega)]
  obtain ⟨h0, h1⟩ := ahd_bd hx (i + 1)
  exact fitsB_of h0 h1

theorem endB_cut (l : List Int) {k : Nat} {x : Int} (h : l[k]? = some x) : endB l = endB (l.take k) ++ (b2 x ++ endB (l.drop (k + 1))) := by
  obtain ⟨hk, rfl⟩ := List.getElem?_eq_some_iff.1 h
  conv => lhs; rw [← List.take_append_drop k l, List.drop_eq_getElem_cons hk]
  unfold endB
  rw [List.flatMap_append, List.flatMap_cons]

/-- What is written is read. -/
theorem oParse_oB (g : Gl) (ho : g.ok) (hr : oRight g = true) : oParse (oB g) = some (g, (oB g).length) := by
  obtain ⟨⟨r1, r2, r3, r4⟩, hcx, hcy⟩ := oRight_parts hr
  obtain ⟨x0, x1, x2, x3, es, pr, ps⟩ := g
  obtain ⟨hbx, hes, hpr, hps⟩ := ho
  simp only at r1 r2 r3 r4 hcx hcy hes hpr hps
  simp only [Gl.box] at hbx
  generalize hzs : oB ⟨x0, x1, x2, x3, es, pr, ps⟩ = zs
  have hz : zs = b2 es.length ++ (boxB [x0, x1, x2, x3] ++ (endB es ++ (b2 pr.length ++ (pr ++ (rle (fls ps) ++ (cbs (chs (xsOf ps)) ++ cbs (chs (ysOf ps)))))))) := by
    rw [← hzs]
    simp [oB, oFront, Gl.box]
  have hn : n2at zs 0 = (es.length : Int) := n2at_mid (A := []) hz rfl (by omega) (by omega)
  have hnt : (n2at zs 0).toNat = es.length := by omega
  have hb0 := hbx x0 (by simp)
  have hb1 := hbx x1 (by simp)
  have hb2 := hbx x2 (by simp)
  have hb3 := hbx x3 (by simp)
  have hB : boxB [x0, x1, x2, x3] = b2 (x0 % 65536) ++ (b2 (x1 % 65536) ++ (b2 (x2 % 65536) ++ b2 (x3 % 65536))) := by simp [boxB]
  have h2 : n2at zs 2 = x0 % 65536 := n2at_mid (A := b2 es.length) (C := _) (by rw [hz, hB]; simp; rfl) rfl (by omega) (by omega)
  have h4 : n2at zs 4 = x1 % 65536 := n2at_mid (A := b2 es.length ++ b2 (x0 % 65536)) (C := _) (by rw [hz, hB]; simp; rfl) rfl (by omega) (by omega)
  have h6 : n2at zs 6 = x2 % 65536 := n2at_mid (A := b2 es.length ++ (b2 (x0 % 65536) ++ b2 (x1 % 65536))) (C := _) (by rw [hz, hB]; simp; rfl) rfl (by omega) (by omega)
  have h8 : n2at zs 8 = x3 % 65536 := n2at_mid (A := b2 es.length ++ (b2 (x0 % 65536) ++ (b2 (x1 % 65536) ++ b2 (x2 % 65536)))) (C := _) (by rw [hz, hB]; simp; rfl) rfl (by omega) (by omega)
  have hE : oEs zs es.length = es := by
    apply List.ext_getElem?
    intro i
    by_cases hi : i < es.length
    · rw [oEs_get zs hi, List.getElem?_eq_getElem hi]
      have hg : es[i]? = some es[i] := List.getElem?_eq_getElem hi
      have hxx := hes _ (List.mem_of_getElem? hg)
      rw [n2at_mid (A := b2 es.length ++ (boxB [x0, x1, x2, x3] ++ endB (es.take i))) (C := _) (by rw [hz, endB_cut es hg]; simp; rfl) (by rw [List.length_append, List.length_append, boxB_len, endB_len, List.length_take]; simp [b2]; omega) hxx.1 hxx.2]
    · rw [List.getElem?_eq_none (by rw [oEs_len]; omega), List.getElem?_eq_none (by omega)]
  have hS : n2at zs (10 + 2 * es.length) = (pr.length : Int) := n2at_mid (A := b2 es.length ++ (boxB [x0, x1, x2, x3] ++ endB es)) (C := _) (by rw [hz]; simp; rfl) (by rw [List.length_append, List.length_append, boxB_len, endB_len]; simp [b2]; omega) (by omega) (by omega)
  have hSz : oSz zs es.length = pr.length := by unfold oSz; rw [hS]; omega
  have hP : (zs.drop (12 + 2 * es.length)).take pr.length = pr := by
    rw [show zs = (b2 es.length ++ (boxB [x0, x1, x2, x3] ++ (endB es ++ b2 pr.length))) ++ (pr ++ (rle (fls ps) ++ (cbs (chs (xsOf ps)) ++ cbs (chs (ysOf ps))))) by rw [hz]; simp, drop_len (by rw [List.length_append, List.length_append, List.length_append, boxB_len, endB_len]; simp [b2]; omega)]
    simp
  have hA : oA zs es.length = 12 + 2 * es.length + pr.length := by unfold oA; rw [hSz]
  obtain ⟨s, hs1, hs2, hs3⟩ := rle_dec zs (cntE es) (fls ps).length (fls ps) ⟨[], oA zs es.length⟩ (b2 es.length ++ (boxB [x0, x1, x2, x3] ++ (endB es ++ (b2 pr.length ++ pr)))) (cbs (chs (xsOf ps)) ++ cbs (chs (ysOf ps))) (Nat.le_refl _) (fls_in ps) (by rw [hz]; simp) (by rw [hA]; rw [List.length_append, List.length_append, List.length_append, List.length_append, boxB_len, endB_len]; simp [b2]; omega) (by unfold fls; rw [flK_len, ← r4]; simp)
  simp only [List.map_nil, List.nil_append] at hs2
  have hsl : s.fl.length = ps.length := by
    have := congrArg List.length hs2
    rw [List.length_map, List.length_map] at this
    rw [this]
    exact flK_len _ _
  have hcore : ∀ i, i < ps.length → core (s.fl.getD i 0) = ((ps.getD i (0, 0, false)).2.2, sbit (chA (xsOf ps) i), sbit (chA (ysOf ps) i), pbit (chA (xsOf ps) i), pbit (chA (ysOf ps) i)) := by
    intro i hi
    have h1 := congrArg (fun l : List _ => l[i]?) hs2
    simp only [List.getElem?_map] at h1
    rw [show (fls ps)[i]? = some (flA ps i) from flK_get ps hi] at h1
    have h2 : s.fl[i]? = some (s.fl.getD i 0) := by rw [List.getD_eq_getElem?_getD, List.getElem?_eq_getElem (by omega)]; rfl
    rw [h2] at h1
    simp only [Option.map_some, Option.some.injEq] at h1
    rw [h1]
    unfold flA
    exact flag_core _ _ _
  have hbits := fun i hi => (Prod.mk.inj (hcore i hi))
  have hX := pk_dec (zs := zs) (sh := 2) (pl := 16) (fl := s.fl) (xs := xsOf ps) (a := s.at_) (A := b2 es.length ++ (boxB [x0, x1, x2, x3] ++ (endB es ++ (b2 pr.length ++ (pr ++ rle (fls ps)))))) (C := cbs (chs (ysOf ps))) (by rw [hz]; simp) (by
    rw [hs3, hA]
    rw [List.length_append, List.length_append, List.length_append, List.length_append, List.length_append, boxB_len, endB_len]
    simp [b2]
    omega) (fun i hi => by
    rw [xsOf_len] at hi
    have h1 := hcore i hi
    simp only [core, Prod.mk.injEq] at h1
    exact ⟨h1.2.1, h1.2.2.2.1⟩) hcx
  have hXe : oXe zs s = s.at_ + (cbs (chs (xsOf ps))).length := by
    unfold oXe
    rw [hsl, ← xsOf_len ps, hX _ (Nat.le_refl _)]
    rw [List.take_of_length_le (by rw [chs_len]; exact Nat.le_refl _)]
  have hY := pk_dec (zs := zs) (sh := 4) (pl := 32) (fl := s.fl) (xs := ysOf ps) (a := oXe zs s) (A := b2 es.length ++ (boxB [x0, x1, x2, x3] ++ (endB es ++ (b2 pr.length ++ (pr ++ (rle (fls ps) ++ cbs (chs (xsOf ps)))))))) (C := []) (by rw [hz]; simp) (by
    rw [hXe, hs3, hA]
    rw [List.length_append, List.length_append, List.length_append, List.length_append, List.length_append, List.length_append, boxB_len, endB_len]
    simp [b2]
    omega) (fun i hi => by
    rw [ysOf_len] at hi
    have h1 := hcore i hi
    simp only [core, Prod.mk.injEq] at h1
    exact ⟨h1.2.2.1, h1.2.2.2.2⟩) hcy
  have hEn : oEnd zs s = zs.length := by
    unfold oEnd
    rw [hsl, ← ysOf_len ps, hY _ (Nat.le_refl _)]
    rw [List.take_of_length_le (by rw [chs_len]; exact Nat.le_refl _), hXe, hs3, hA, hz]
    simp only [List.length_append, boxB_len, endB_len]
    simp [b2]
    omega
  have hpsx : ∀ x ∈ xsOf ps, -32768 ≤ x ∧ x ≤ 32767 := by
    intro x hx
    simp only [xsOf, List.mem_map] at hx
    obtain ⟨p, hp, rfl⟩ := hx
    exact (hps p hp).1
  have hpsy : ∀ x ∈ ysOf ps, -32768 ≤ x ∧ x ≤ 32767 := by
    intro x hx
    simp only [ysOf, List.mem_map] at hx
    obtain ⟨p, hp, rfl⟩ := hx
    exact (hps p hp).2
  have hPk : oPk zs s = true := by
    unfold oPk
    have e1 := pkOk_of (zs := zs) (sh := 2) (pl := 16) (fl := s.fl) (a := s.at_) hpsx (fun k hk => by rw [hX k hk])
    have e2 := pkOk_of (zs := zs) (sh := 4) (pl := 32) (fl := s.fl) (a := oXe zs s) hpsy (fun k hk => by rw [hY k hk])
    rw [xsOf_len] at e1
    rw [ysOf_len] at e2
    rw [hsl, e1, e2]
    rfl
  have hgood : oGood zs s := ⟨by omega, by rw [hnt, hE]; exact r3, by rw [hnt]; unfold oFs; rw [hE]; exact hs1, hPk⟩
  have hPs : oPs zs s ps.length = ps := by
    apply List.ext_getElem?
    intro i
    by_cases hi : i < ps.length
    · have hg : ps[i]? = some ps[i] := List.getElem?_eq_getElem hi
      have hx : (xsOf ps)[i]? = some ps[i].1 := by simp [xsOf, hi]
      have hy : (ysOf ps)[i]? = some ps[i].2.1 := by simp [ysOf, hi]
      have h1 := hcore i hi
      simp only [core, Prod.mk.injEq] at h1
      rw [hg]
      unfold oPs
      rw [List.getElem?_map, List.getElem?_range hi, Option.map_some, hX (i + 1) (by rw [xsOf_len]; omega), hY (i + 1) (by rw [ysOf_len]; omega), ahd_get hx, ahd_get hy, h1.1]
      simp [hg]
    · rw [List.getElem?_eq_none (by rw [oPs_len]; omega), List.getElem?_eq_none (by omega)]
  rw [oParse_some hgood (by omega), hEn]
  rw [oTold_eq hgood (by omega)]
  unfold oGl
  rw [hnt, hE, hSz, hP, hsl, hPs, h2, h4, h6, h8, sgn_mod hb0.1 hb0.2, sgn_mod hb1.1 hb1.2, sgn_mod hb2.1 hb2.2, sgn_mod hb3.1 hb3.2]

end Go.Proofs.Ytlcnonhebppeiaa
