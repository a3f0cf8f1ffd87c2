/- What the laws of this seat lean on: SegY RunS PrsA LSegA CmQ CmK Sub CmP CmR. -/
import Derived.Maps.OwnSet
import Derived.Maps.Views
import Derived.DeepKeys4
import Derived.Maps.OwnOps
import Derived.Carry
import Derived.Lib.MinMax
import Derived.Test.YthkaeimpflggjaaDoorBase1
import Derived.Test.YthkaeimpflggjaaDoorBase2
import Derived.Test.YthkaeimpflggjaaDoorBase3
import Derived.Test.YthkaeimpflggjaaDoorBase4

/- A table of segments that is built is read as it was: plain lists. -/
namespace Go.Proofs.YthkaeimpflggjaaDoor
set_option linter.unusedVariables false
set_option linter.unusedSectionVars false

theorem colB_drop (val : Sg → Int) : ∀ (l : List Sg) (i : Nat), (colB val l).drop (2 * i) = colB val (l.drop i)
  | [], i => by simp [colB]
  | x :: r, 0 => by simp
  | x :: r, i + 1 => by
    have h : colB val (x :: r) = b2 (val x) ++ colB val r := rfl
    rw [h, show 2 * (i + 1) = (b2 (val x)).length + 2 * i by simp [b2]; omega, List.drop_append, List.drop_of_length_le (by omega), Nat.add_sub_cancel_left, List.nil_append, colB_drop val r i]
    rfl
theorem n2at_col {val : Sg → Int} {zs pre post : List Int} {l : List Sg} {p i : Nat} {x : Sg} (hz : zs = pre ++ colB val l ++ post) (hp : pre.length = p) (h : l[i]? = some x) (h0 : 0 ≤ val x) (h1 : val x < 65536) : n2at zs (p + 2 * i) = val x := by
  have hl := (List.getElem?_eq_some_iff.1 h).1
  have e : zs.drop (p + 2 * i) = b2 (val x) ++ (colB val (l.drop (i + 1)) ++ post) := by
    rw [hz, List.append_assoc, ← hp, List.drop_append, List.drop_of_length_le (by omega), Nat.add_sub_cancel_left, List.nil_append, List.drop_append_of_le_length (by rw [colB_len]; omega), colB_drop, drop_consP h, ← List.append_assoc]
    rfl
  exact n2at_of (by rw [e]; rfl) h0 h1

theorem sPre_len (n : Nat) : (sPre n).length = 8 := rfl

/-- What is asked of runs. -/
structure RsOK (rs : List Rn) : Prop where
  n0 : 1 ≤ rs.length
  n1 : rs.length ≤ 8000
  ok : rnOK 65535 (-1) rs
  g : ∀ x ∈ rs, 0 ≤ x.g ∧ x.g ≤ 65535
  last : ∀ x, rs[rs.length - 1]? = some x → x.b = 65535

section
variable {rs : List Rn} (h : RsOK rs)
include h

theorem sg_at {i : Nat} {x : Rn} (hx : rs[i]? = some x) : (rs.map sgR)[i]? = some (sgR x) := by rw [List.getElem?_map, hx]; rfl

theorem RsOK.facts {i : Nat} {x : Rn} (hx : rs[i]? = some x) : sqAt (sTab (rs.map sgR)) rs.length i = ⟨x.a, x.b, (x.g - x.a) % 65536, 0⟩ := by
  have a1 := rnOK_at h.ok hx
  have a2 := h.g x (List.mem_of_getElem? hx)
  have hs := sg_at h hx
  have hl : (rs.map sgR).length = rs.length := by simp
  have f1 : n2at (sTab (rs.map sgR)) (14 + 2 * i) = x.b := n2at_col (val := Sg.b) (pre := sPre rs.length ++ srB rs.length) (post := b2 0 ++ colB Sg.a (rs.map sgR) ++ colB Sg.d (rs.map sgR) ++ colB (fun _ => 0) (rs.map sgR)) (by unfold sTab; rw [hl]; simp) rfl hs (by simp only [sgR]; omega) (by simp only [sgR]; omega)
  have f2 : n2at (sTab (rs.map sgR)) (16 + 2 * rs.length + 2 * i) = x.a := n2at_col (val := Sg.a) (pre := sPre rs.length ++ srB rs.length ++ colB Sg.b (rs.map sgR) ++ b2 0) (post := colB Sg.d (rs.map sgR) ++ colB (fun _ => 0) (rs.map sgR)) (by unfold sTab; rw [hl]; simp) (by simp [sPre_len, srB_len, colB_len, b2]; omega) hs (by simp only [sgR]; omega) (by simp only [sgR]; omega)
  have f3 : n2at (sTab (rs.map sgR)) (16 + 4 * rs.length + 2 * i) = (x.g - x.a) % 65536 := n2at_col (val := Sg.d) (pre := sPre rs.length ++ srB rs.length ++ colB Sg.b (rs.map sgR) ++ b2 0 ++ colB Sg.a (rs.map sgR)) (post := colB (fun _ => 0) (rs.map sgR)) (by unfold sTab; rw [hl]) (by simp [sPre_len, srB_len, colB_len, b2]; omega) hs (by simp only [sgR]; omega) (by simp only [sgR]; omega)
  have f4 : n2at (sTab (rs.map sgR)) (16 + 6 * rs.length + 2 * i) = 0 := n2at_col (val := fun _ => 0) (pre := sPre rs.length ++ srB rs.length ++ colB Sg.b (rs.map sgR) ++ b2 0 ++ colB Sg.a (rs.map sgR) ++ colB Sg.d (rs.map sgR)) (post := []) (by unfold sTab; rw [hl]; simp) (by simp [sPre_len, srB_len, colB_len, b2]; omega) hs (by omega) (by omega)
  unfold sqAt
  rw [f1, f2, f3, f4]

theorem RsOK.ends {i : Nat} {x : Rn} (hx : rs[i]? = some x) : n2at (sTab (rs.map sgR)) (14 + 2 * i) = x.b := congrArg Sq.b (h.facts hx)

theorem RsOK.len : (sTab (rs.map sgR)).length = 16 + 8 * rs.length := by
  unfold sTab
  simp [sPre_len, srB_len, colB_len, b2]
  omega

theorem RsOK.n : n2at (sTab (rs.map sgR)) 6 = 2 * (rs.length : Int) := by
  have := h.n1
  have hl : (rs.map sgR).length = rs.length := by simp
  exact n2at_of (by unfold sTab; rw [hl]; rfl) (by omega) (by omega)
theorem RsOK.sN : sN (sTab (rs.map sgR)) = rs.length := by unfold Go.Proofs.YthkaeimpflggjaaDoor.sN; rw [h.n]; omega

theorem RsOK.right : sRight (sTab (rs.map sgR)) = true := by
  have n0 := h.n0
  have n1 := h.n1
  have hl : (rs.map sgR).length = rs.length := by simp
  have f0 : n2at (sTab (rs.map sgR)) 0 = 4 := n2at_of (by rfl) (by omega) (by omega)
  have f2 : n2at (sTab (rs.map sgR)) 2 = 2 * (8 + 4 * (rs.length : Int)) := n2at_of (by unfold sTab; rw [hl]; rfl) (by omega) (by omega)
  have hb := srL_bound n0 (show rs.length < 32768 by omega)
  have f8 : n2at (sTab (rs.map sgR)) 8 = 2 * ((2 ^ expoS rs.length : Nat) : Int) := by have := hb _ (show _ ∈ srL rs.length from List.mem_cons_self); exact n2at_of (by unfold sTab; rw [hl]; rfl) this.1 this.2
  have f10 : n2at (sTab (rs.map sgR)) 10 = (expoS rs.length : Int) := by have := hb _ (show (expoS rs.length : Int) ∈ srL rs.length from by simp [srL]); exact n2at_of (by unfold sTab; rw [hl]; rfl) this.1 this.2
  have f12 : n2at (sTab (rs.map sgR)) 12 = 2 * (rs.length : Int) - 2 * ((2 ^ expoS rs.length : Nat) : Int) := by have := hb _ (show (2 * (rs.length : Int) - 2 * ((2 ^ expoS rs.length : Nat) : Int)) ∈ srL rs.length from by simp [srL]); exact n2at_of (by unfold sTab; rw [hl]; rfl) this.1 this.2
  unfold sRight sFront sCnt sCnt0 sTold
  rw [h.sN, f0, f2, f8, f10, f12, h.n, h.len]
  obtain ⟨y, hy⟩ := getP (l := rs) (j := rs.length - 1) (by omega)
  have hyb := h.last y hy
  have fe : n2at (sTab (rs.map sgR)) (12 + 2 * rs.length) = 65535 := by have := h.ends hy; rw [show 14 + 2 * (rs.length - 1) = 12 + 2 * rs.length by omega, hyb] at this; exact this
  have fz : n2at (sTab (rs.map sgR)) (14 + 2 * rs.length) = 0 := by
    have e : (sTab (rs.map sgR)).drop (14 + 2 * rs.length) = b2 0 ++ (colB Sg.a (rs.map sgR) ++ colB Sg.d (rs.map sgR) ++ colB (fun _ => 0) (rs.map sgR)) := by
      have hx : sTab (rs.map sgR) = (sPre rs.length ++ srB rs.length ++ colB Sg.b (rs.map sgR)) ++ (b2 0 ++ (colB Sg.a (rs.map sgR) ++ colB Sg.d (rs.map sgR) ++ colB (fun _ => 0) (rs.map sgR))) := by unfold sTab; rw [hl]; simp
      have hxl : (sPre rs.length ++ srB rs.length ++ colB Sg.b (rs.map sgR)).length = 14 + 2 * rs.length := by simp [sPre_len, srB_len, colB_len]; omega
      rw [hx, ← hxl, List.drop_left]
    exact n2at_of (by rw [e]; rfl) (by omega) (by omega)
  have hoks : sOkK (sTab (rs.map sgR)) rs.length rs.length = true := by
    unfold sOkK
    rw [List.all_eq_true]
    intro i hi
    have hi' := List.mem_range.1 hi
    obtain ⟨x, hx⟩ := getP (l := rs) (j := i) hi'
    have a1 := rnOK_at h.ok hx
    unfold sOkAt sOff
    rw [h.facts hx]
    have hle : sLeast (sTab (rs.map sgR)) i ≤ x.a := by
      unfold sLeast
      split
      · omega
      · obtain ⟨j, rfl⟩ : ∃ j, i = j + 1 := ⟨i - 1, by omega⟩
        obtain ⟨z, hz⟩ := getP (l := rs) (j := j) (by omega)
        have := rnOK_next h.ok hz hx
        rw [show 12 + 2 * (j + 1) = 14 + 2 * j by omega, h.ends hz]
        omega
    simp only [decide_eq_true hle, decide_eq_true a1.2.1]
    rfl
  have hend : sEnd (sTab (rs.map sgR)) rs.length = true := by unfold sEnd; rw [fe, fz]; rfl
  rw [hoks, hend]
  have q1 : decide (24 ≤ 2 * (8 + 4 * (rs.length : Int))) = true := decide_eq_true (by omega)
  have q2 : decide (2 * (8 + 4 * (rs.length : Int)) ≤ ((16 + 8 * rs.length : Nat) : Int)) = true := decide_eq_true (by omega)
  have q3 : decide (2 * (8 + 4 * (rs.length : Int)) % 2 = 0) = true := decide_eq_true (by omega)
  have q4 : decide (2 * (rs.length : Int) % 2 = 0) = true := decide_eq_true (by omega)
  have q5 : decide (2 * (rs.length : Int) / 2 ≠ 0) = true := decide_eq_true (by omega)
  have q6 : decide (16 + 8 * (2 * (rs.length : Int) / 2) ≤ 2 * (8 + 4 * (rs.length : Int))) = true := decide_eq_true (by omega)
  have q7 : decide ([2 * ((2 ^ expoS rs.length : Nat) : Int), (expoS rs.length : Int), 2 * (rs.length : Int) - 2 * ((2 ^ expoS rs.length : Nat) : Int)] = srL rs.length) = true := decide_eq_true rfl
  rw [q1, q2, q3, q4, q5, q6, q7]
  rfl

theorem RsOK.look (code : Int) : ∀ (f i : Nat), i + f = rs.length → lookS (sTab (rs.map sgR)) rs.length code i f = lookR (rs.drop i) code
  | 0, i, hi => by rw [List.drop_of_length_le (by omega)]; rfl
  | f + 1, i, hi => by
    obtain ⟨x, hx⟩ := getP (l := rs) (j := i) (by omega)
    have ih := RsOK.look code f (i + 1) (by omega)
    rw [lookS, h.ends hx, drop_consP hx]
    unfold lookR
    rw [findR]
    by_cases hc : code ≤ x.b
    · rw [if_pos hc, if_pos hc]
      unfold valS
      rw [h.facts hx]
      simp only
      by_cases ha : x.a ≤ code
      · rw [if_pos ha, if_pos ha, if_pos trivial]
        omega
      · rw [if_neg ha, if_neg ha]
    · rw [if_neg hc, if_neg hc, ih]
      rfl

end

theorem sTab_bytes (l : List Sg) : Bytes (sTab l) := by
  have hc : ∀ (val : Sg → Int) (l : List Sg), Bytes (colB val l) := by
    intro val l y hy
    unfold colB at hy
    obtain ⟨x, _, hx⟩ := List.mem_flatMap.1 hy
    exact b2_bytes _ y hx
  unfold sTab sPre srB
  refine bytes_append (bytes_append (bytes_append (bytes_append (bytes_append (bytes_append ?_ ?_) (hc _ _)) (b2_bytes _)) (hc _ _)) (hc _ _)) (hc _ _)
  · exact bytes_append (b2_bytes _) (bytes_append (b2_bytes _) (bytes_append (b2_bytes _) (b2_bytes _)))
  · exact bytes_append (b2_bytes _) (bytes_append (b2_bytes _) (b2_bytes _))

theorem lookR_last (code : Int) : ∀ (rs : List Rn) (ah : Int), rnOK 65534 ah rs → lookR (rs ++ [sgL]) code = lookR rs code
  | [], _, _ => by
    show lookR [sgL] code = lookR [] code
    unfold lookR
    rw [findR, findR]
    by_cases h : code ≤ sgL.b
    · rw [if_pos h]
      simp only
      split
      · simp [sgL] at *; omega
      · rfl
    · rw [if_neg h]
      rfl
  | x :: r, ah, h => by
    obtain ⟨h1, h2, h3, h4⟩ := h
    have ih := lookR_last code r x.b h4
    unfold lookR at ih ⊢
    rw [List.cons_append, findR, findR]
    by_cases hc : code ≤ x.b
    · rw [if_pos hc, if_pos hc]
    · rw [if_neg hc, if_neg hc]
      exact ih

theorem rnOK_last : ∀ (rs : List Rn) (ah : Int), ah ≤ 65534 → rnOK 65534 ah rs → rnOK 65535 ah (rs ++ [sgL])
  | [], ah, ha, _ => ⟨by simp [sgL]; omega, by simp [sgL], by simp [sgL], trivial⟩
  | x :: r, ah, ha, h => by
    obtain ⟨h1, h2, h3, h4⟩ := h
    exact ⟨h1, h2, by omega, rnOK_last r x.b h3 h4⟩

/-- Of pairs that rise below ffff. -/
theorem sOut_right {l : List Pr} (hg : PrG l) (h : risesF 65534 (-1) l = true) (hl : l.length ≤ 7999) :
    sOut l = sTab ((sRuns l).map sgR) ∧ sRight (sOut l) = true ∧ sN (sOut l) = (runsF folS l).length + 1 ∧ (∀ code, lookS (sOut l) ((runsF folS l).length + 1) code 0 ((runsF folS l).length + 1) = glyphOf code l) ∧ Bytes (sOut l) ∧ (sOut l).length = 16 + 8 * ((runsF folS l).length + 1) := by
  have hlen := runsF_len folS l
  have hrl : (sRuns l).length = (runsF folS l).length + 1 := by unfold sRuns; simp
  have hok := runs_ok folS_code 65534 l (-1) h
  have hr : RsOK (sRuns l) := ⟨by omega, by omega, rnOK_last _ _ (by omega) hok, fun x hx => by
    unfold sRuns at hx
    rcases List.mem_append.1 hx with hx | hx
    · exact runsS_g l hg x hx
    · simp at hx; subst hx; simp [sgL], fun x hx => by
    unfold sRuns at hx
    simp at hx
    subst hx
    rfl⟩
  have e : sOut l = sTab ((sRuns l).map sgR) := by
    unfold sOut sGood
    rw [h, decide_eq_true (by omega)]
    rfl
  rw [e, ← hrl]
  refine ⟨rfl, hr.right, hr.sN, fun code => ?_, sTab_bytes _, hr.len⟩
  rw [hr.look code _ 0 (by omega), List.drop_zero]
  unfold sRuns
  rw [lookR_last code _ (-1) hok, lookS_runs 65534 code l (-1) hg h]

theorem sOut_nil {l : List Pr} (h : risesF 65534 (-1) l = false) : sOut l = [] := by unfold sOut sGood; rw [h]; rfl

end Go.Proofs.YthkaeimpflggjaaDoor

/- Pairs in a row: plain lists. -/
namespace Go.Proofs.YthkaeimpflggjaaDoor
set_option linter.unusedVariables false

def lastC : Int → List Pr → Int
  | ah, [] => ah
  | _, p :: r => lastC p.code r
theorem lastC_snoc (p : Pr) : ∀ (l : List Pr) (ah : Int), lastC ah (l ++ [p]) = p.code
  | [], _ => rfl
  | q :: r, _ => lastC_snoc p r q.code
theorem risesF_snoc (most : Int) (p : Pr) : ∀ (l : List Pr) (ah : Int), risesF most ah (l ++ [p]) = (risesF most ah l && decide (lastC ah l < p.code ∧ p.code ≤ most))
  | [], ah => by
    show (decide (ah < p.code ∧ p.code ≤ most) && true) = (true && decide (ah < p.code ∧ p.code ≤ most))
    rw [Bool.and_true, Bool.true_and]
  | q :: r, ah => by
    rw [List.cons_append, risesF, risesF_snoc most p r q.code, risesF, lastC, Bool.and_assoc]

/-- Pairs of codes that come in, each with its place as glyph or another number. -/
def prsI (f : Nat → Int) (zs : List Int) (m : Nat) : List Pr := (List.range m).map fun i => ⟨zs.getD i 0, f i⟩
theorem prsI_succ (f : Nat → Int) (zs : List Int) (m : Nat) {x : Int} (h : zs[m]? = some x) : prsI f zs (m + 1) = prsI f zs m ++ [⟨x, f m⟩] := by
  unfold prsI
  rw [List.range_succ, List.map_append, List.map_cons, List.map_nil, List.getD_eq_getElem?_getD, h]
  rfl
theorem prsI_len (f : Nat → Int) (zs : List Int) (m : Nat) : (prsI f zs m).length = m := by simp [prsI]
theorem prsI_last (f : Nat → Int) (zs : List Int) (m : Nat) {x : Int} (h : zs[m]? = some x) (ah : Int) : lastC ah (prsI f zs (m + 1)) = x := by rw [prsI_succ f zs m h, lastC_snoc]
theorem prsI_g {f : Nat → Int} (zs : List Int) {m : Nat} (hf : ∀ i, i < m → 0 ≤ f i ∧ f i ≤ 65535) : PrG (prsI f zs m) := by
  intro p hp
  unfold prsI at hp
  obtain ⟨i, hi, rfl⟩ := List.mem_map.1 hp
  exact hf i (List.mem_range.1 hi)
theorem prsI_nonneg {f : Nat → Int} {zs : List Int} {m : Nat} {x : Int} (h : zs[m]? = some x) {most : Int} (hr : risesF most (-1) (prsI f zs (m + 1)) = true) : 0 ≤ x := by
  have := risesF_mem hr ⟨x, f m⟩ (by rw [prsI_succ f zs m h]; simp)
  simp at this
  omega

/-- Codes in a row. -/
def seqF (f : Nat → Int) (at_ : Int) (k : Nat) : List Pr := (List.range k).map fun (i : Nat) => ⟨at_ + (i : Int), f i⟩
theorem seqF_succ (f : Nat → Int) (at_ : Int) (k : Nat) : seqF f at_ (k + 1) = seqF f at_ k ++ [⟨at_ + k, f k⟩] := by
  unfold seqF
  rw [List.range_succ, List.map_append]
  rfl
theorem seqF_len (f : Nat → Int) (at_ : Int) (k : Nat) : (seqF f at_ k).length = k := by simp [seqF]
theorem seqF_g {f : Nat → Int} (at_ : Int) {k : Nat} (hf : ∀ i, i < k → 0 ≤ f i ∧ f i ≤ 65535) : PrG (seqF f at_ k) := by
  intro p hp
  unfold seqF at hp
  obtain ⟨i, hi, rfl⟩ := List.mem_map.1 hp
  exact hf i (List.mem_range.1 hi)
theorem seqF_last (f : Nat → Int) (at_ : Int) (k : Nat) (ah : Int) : lastC ah (seqF f at_ (k + 1)) = at_ + k := by rw [seqF_succ, lastC_snoc]
theorem seqF_rises (f : Nat → Int) (at_ most : Int) (h0 : 0 ≤ at_) : ∀ k : Nat, at_ + k ≤ most + 1 → risesF most (-1) (seqF f at_ k) = true
  | 0, _ => rfl
  | 1, h => by
    rw [seqF_succ, risesF_snoc]
    show (true && decide (-1 < at_ + ((0 : Nat) : Int) ∧ at_ + ((0 : Nat) : Int) ≤ most)) = true
    simp
    omega
  | k + 2, h => by
    have ih := seqF_rises f at_ most h0 (k + 1) (by omega)
    rw [seqF_succ, risesF_snoc, ih, seqF_last]
    simp
    omega
theorem seqF_runs {fol : Pr → Pr → Bool} (f : Nat → Int) (at_ : Int) (N : Nat) (hf : ∀ i : Nat, i + 1 < N → fol ⟨at_ + i, f i⟩ ⟨at_ + (i + 1 : Nat), f (i + 1)⟩ = true) : ∀ k : Nat, k + 1 ≤ N → runsF fol (seqF f at_ (k + 1)) = [⟨at_, at_ + k, f 0⟩]
  | 0, _ => by
    show [(⟨at_ + ((0 : Nat) : Int), at_ + ((0 : Nat) : Int), f 0⟩ : Rn)] = _
    simp
  | k + 1, h => by
    have ih := seqF_runs f at_ N hf k (by omega)
    have hs := (runsF_snoc fol ⟨at_ + k, f k⟩ ⟨at_ + (k + 1 : Nat), f (k + 1)⟩ (seqF f at_ k)).2 (hf k (by omega))
    obtain ⟨s, x, e1, e2⟩ := hs
    rw [← seqF_succ, ih] at e1
    have e3 : seqF f at_ (k + 1 + 1) = seqF f at_ k ++ [⟨at_ + k, f k⟩, ⟨at_ + (k + 1 : Nat), f (k + 1)⟩] := by
      rw [seqF_succ f at_ (k + 1), seqF_succ f at_ k, List.append_assoc]
      rfl
    rw [e3, e2]
    cases s with
    | nil =>
      obtain ⟨rfl, _⟩ := List.cons.inj e1
      rfl
    | cons y s => simp at e1
/-- And one more, behind a gap. -/
theorem seqF_gap {fol : Pr → Pr → Bool} (f : Nat → Int) (at_ : Int) (k : Nat) (c g : Int) (hf : ∀ i : Nat, i + 1 < k + 1 → fol ⟨at_ + i, f i⟩ ⟨at_ + (i + 1 : Nat), f (i + 1)⟩ = true) (hn : fol ⟨at_ + k, f k⟩ ⟨c, g⟩ = false) :
    runsF fol (seqF f at_ (k + 1) ++ [⟨c, g⟩]) = [⟨at_, at_ + k, f 0⟩, ⟨c, c, g⟩] := by
  have hs := (runsF_snoc fol ⟨at_ + k, f k⟩ ⟨c, g⟩ (seqF f at_ k)).1 hn
  rw [seqF_succ, List.append_assoc]
  show runsF fol (seqF f at_ k ++ [⟨at_ + k, f k⟩, ⟨c, g⟩]) = _
  rw [hs, ← seqF_succ, seqF_runs f at_ (k + 1) hf k (Nat.le_refl _)]
  rfl

end Go.Proofs.YthkaeimpflggjaaDoor

/- Pairs that are gathered: what an append wants to know. -/
namespace Go.Proofs.YthkaeimpflggjaaDoor

theorem Tryd.pairinfo : (Tryd.prog.info? 45).map (fun i => (i.zero, i.size, i.bytes)) = some (some (.agg #[.int .i32 0, .int .u16 0]), 2, 8) := by kernel_rfl

theorem Tryd.rpairinfo : (Tryd.prog.info? 60).map (fun i => (i.zero, i.size, i.bytes)) = some (some (.agg #[.int .i64 0, .int .i64 0]), 2, 16) := by kernel_rfl

end Go.Proofs.YthkaeimpflggjaaDoor

/- The document's example of segments; a map in a box. -/
namespace Go.Proofs.YthkaeimpflggjaaDoor
open Go.RowKit
set_option linter.unusedVariables false

/-- A map in a box. -/
structure BoxS (w wr : World) (bx : Nat) (A2 : Option Addr) (N c2 : Nat) (zs : List Int) (g : Nat) : Prop where
  box : wr.heap[bx]? = some (.cells #[.slice A2 N c2] 35 (0, 0))
  map : SMap wr A2 N zs g
  bel : Below w.heap.size w wr
theorem BoxS.below {w wr w' : World} {bx : Nat} {A2 : Option Addr} {N c2 : Nat} {zs : List Int} {g : Nat} (h : BoxS w wr bx A2 N c2 zs g) (hb : Below wr.heap.size wr w') : BoxS w w' bx A2 N c2 zs g :=
  ⟨kept_block h.box hb, h.map.below hb, h.bel.trans (hb.mono h.bel.size)⟩
theorem BoxS.cell {w wr : World} {bx : Nat} {A2 : Option Addr} {N c2 : Nat} {zs : List Int} {g : Nat} (h : BoxS w wr bx A2 N c2 zs g) : wr.cell? ⟨bx, 0, none⟩ = some (.slice A2 N c2) := cell_of_row _ _ 0 _ _ _ h.box
theorem BoxS.look {w wr : World} {bx : Nat} {A2 : Option Addr} {N c2 : Nat} {zs : List Int} {g : Nat} (h : BoxS w wr bx A2 N c2 zs g) (hN : N ≤ 100000) (code v : Int) (hv : lookS zs N code 0 N = v) (c0 : -2147483648 ≤ code) (c1 : code ≤ 2147483647) :
    Calls Tryd.prog 34 #[.agg #[.slice A2 N c2], .int .i32 code] wr (Ret wr (.int .u16 v)) := hv ▸ slook_any A2 N c2 zs g code wr h.map (by omega) c0 c1

def ex09 : List Pr := [⟨65, 3⟩, ⟨66, 4⟩]
theorem ex09_g : PrG ex09 := by intro p hp; simp [ex09] at hp; rcases hp with rfl | rfl <;> simp

theorem glyphOf_absent {c : Int} : ∀ {l : List Pr}, (∀ p ∈ l, p.code ≠ c) → glyphOf c l = 0
  | [], _ => rfl
  | p :: r, h => by
    rw [glyphOf, if_neg (h p (by simp))]
    exact glyphOf_absent (fun q hq => h q (by simp [hq]))

end Go.Proofs.YthkaeimpflggjaaDoor

/- cmap.read, wide, Look, Wide: contracts over this seat's translation. -/
namespace Go.Proofs.YthkaeimpflggjaaDoor
open Go.RowKit
set_option linter.unusedVariables false

/-- A map: of groups, or of segments. -/
def cmV : Bool → Option Addr → Nat → Nat → Value
  | true, A, n, c => .agg #[.bool true, .slice A n c, .slice none 0 0]
  | false, A, n, c => .agg #[.bool false, .slice none 0 0, .slice A n c]
def cmV0 : Value := .agg #[.bool false, .slice none 0 0, .slice none 0 0]
/-- How many groups or segments its table has. -/
def cCnt (wd : Bool) (t : List Int) : Nat := if wd then gN t else sN t
/-- What it tells of a code. -/
def cLook (wd : Bool) (t : List Int) (code : Int) : Int := if wd then lookR (grps t (gN t)) code else lookS t (sN t) code 0 (sN t)
/-- It lies in memory. -/
def CMap (w : World) : Bool → List Int → Option Addr → Nat → Prop
  | true, t, A, g => GMap w A (gN t) (grps t (gN t)) ∧ gN t ≤ 1000000
  | false, t, A, g => SMap w A (sN t) t g ∧ sN t ≤ 32767
theorem CMap.below {w w' : World} {wd : Bool} {t : List Int} {A : Option Addr} {g : Nat} (h : CMap w wd t A g) (hb : Below w.heap.size w w') : CMap w' wd t A g := by
  cases wd with
  | true => exact ⟨h.1.below hb, h.2⟩
  | false => exact ⟨h.1.below hb, h.2⟩
theorem cLook_lt (wd : Bool) (t : List Int) (code : Int) : 0 ≤ cLook wd t code ∧ cLook wd t code ≤ 65535 := by
  cases wd with
  | true => exact lookR_lt _ _
  | false => exact lookS_lt _ _ _ _ _

theorem cwide_any (a b : Int) (h : (a = 3 ∧ b = 10) ∨ (a = 0 ∧ b = 4) ∨ (a = 3 ∧ b = 1) ∨ (a = 0 ∧ b = 3)) (w : World) : Calls Tryd.prog 30 #[.agg #[.int .u16 a, .int .u16 b]] w (Ret w (.bool (decide (b = 10 ∨ b = 4)))) := by
  have hA := (Below.refl w.heap.size w).alloc (Nat.le_refl _) (.cells #[.int .u16 a, .int .u16 b] 65)
  rcases h with ⟨rfl, rfl⟩ | ⟨rfl, rfl⟩ | ⟨rfl, rfl⟩ | ⟨rfl, rfl⟩
  all_goals
    go_enter Tryd.func30, Tryd.ntmps30
    go_wp2
    go_ret
    exact ⟨rfl, hA⟩

theorem cwid_any (wd : Bool) (A : Option Addr) (n c : Nat) (w : World) : Calls Tryd.prog 14 #[cmV wd A n c] w (Ret w (.bool wd)) := by
  cases wd with
  | true =>
    have hA := (Below.refl w.heap.size w).alloc (Nat.le_refl _) (.cells #[.bool true, .slice A n c, .slice none 0 0] 37)
    unfold cmV
    go_enter Tryd.func14, Tryd.ntmps14
    go_wp2
    go_ret
    exact ⟨rfl, hA⟩
  | false =>
    have hA := (Below.refl w.heap.size w).alloc (Nat.le_refl _) (.cells #[.bool false, .slice none 0 0, .slice A n c] 37)
    unfold cmV
    go_enter Tryd.func14, Tryd.ntmps14
    go_wp2
    go_ret
    exact ⟨rfl, hA⟩
theorem cwid0_any (w : World) : Calls Tryd.prog 14 #[cmV0] w (Ret w (.bool false)) := cwid_any false none 0 0 w

theorem clook_any (wd : Bool) (t : List Int) (A : Option Addr) (c g : Nat) (code : Int) (w : World) (hm : CMap w wd t A g) (c0 : -2147483648 ≤ code) (c1 : code ≤ 2147483647) :
    Calls Tryd.prog 15 #[cmV wd A (cCnt wd t) c, .int .i32 code] w (Ret w (.int .u16 (cLook wd t code))) := by
  cases wd with
  | true =>
    obtain ⟨hm, hn⟩ := hm
    have hA : Below w.heap.size w (w.alloc (.cells #[.bool true, .slice A (gN t) c, .slice none 0 0] 37)) := (Below.refl _ _).alloc (Nat.le_refl _) _
    have HL := Lib.hid ((hm.below hA).look (c := c) hn code c0 c1)
    show Calls Tryd.prog 15 #[.agg #[.bool true, .slice A (gN t) c, .slice none 0 0], .int .i32 code] w (Ret w (.int .u16 (lookR (grps t (gN t)) code)))
    unfold gmV at HL
    clear hm
    generalize lookR (grps t (gN t)) code = v at *
    generalize gN t = N at *
    go_enter Tryd.func15, Tryd.ntmps15
    go_wp2_with fail
    with_reducible refine HL.out.mono ?_
    rintro e w1 ⟨rfl, hb1⟩
    go_wp2
    go_ret
    exact ⟨rfl, hA.trans (hb1.mono hA.size)⟩
  | false =>
    obtain ⟨hm, hn⟩ := hm
    have hA : Below w.heap.size w (w.alloc (.cells #[.bool false, .slice none 0 0, .slice A (sN t) c] 37)) := (Below.refl _ _).alloc (Nat.le_refl _) _
    have HL := Lib.hid (slook_any A (sN t) c t g code _ (hm.below hA) (by omega) c0 c1)
    show Calls Tryd.prog 15 #[.agg #[.bool false, .slice none 0 0, .slice A (sN t) c], .int .i32 code] w (Ret w (.int .u16 (lookS t (sN t) code 0 (sN t))))
    unfold smV at HL
    clear hm
    generalize lookS t (sN t) code 0 (sN t) = v at *
    generalize sN t = N at *
    go_enter Tryd.func15, Tryd.ntmps15
    go_wp2_with fail
    with_reducible refine HL.out.mono ?_
    rintro e w1 ⟨rfl, hb1⟩
    go_wp2
    go_ret
    exact ⟨rfl, hA.trans (hb1.mono hA.size)⟩

end Go.Proofs.YthkaeimpflggjaaDoor

/- The kinds of cmap's records as a map's keys. -/
namespace Go.Proofs.YthkaeimpflggjaaDoor
open Go.RowKit Go.Maps
set_option linter.unusedVariables false

theorem Tryd.kindlaw : Keyed Tryd.prog 65 := Keyed.of_law (deep_law_laid (by kernel_rfl) (m := 3) (by omega) (of_decide_eq_true (by kernel_rfl)) (by kernel_rfl) (by kernel_rfl))

/-- What a kind reads as. -/
def kL (a b : Int) : Lit := .string (keyBytes [.int .u16 a, .int .u16 b])

theorem kind_key {a b : Int} (wa : (Lit.int .u16 a).wf = true) (wb : (Lit.int .u16 b).wf = true) : keyOf Tryd.prog 65 (.agg #[.int .u16 a, .int .u16 b]) = some (kL a b) := by
  have hs : ∃ m, Tryd.prog.types.size = m + 1 := ⟨Tryd.prog.types.size - 1, by have : 0 < Tryd.prog.types.size := of_decide_eq_true (by kernel_rfl); omega⟩
  obtain ⟨m, hm⟩ := hs
  have hk : Tryd.prog.keyType 65 = true := by kernel_rfl
  have c2 : Tryd.prog.cellsOf 65 = 2 := by kernel_rfl
  have c1 : Tryd.prog.cellsOf 43 = 1 := by kernel_rfl
  unfold keyOf
  rw [Tryd.underlying65]
  simp only [hk, Value.formed, Tryd.underlying65, Bool.true_and]
  rw [if_pos (by simp [c2]), hm]
  unfold Program.keyLits
  simp only [Tryd.underlying65, Value.cells]
  rw [if_pos (by rw [c2]; exact ⟨rfl, by kernel_rfl⟩)]
  simp [c1, Program.keyLits, Tryd.underlying43, wa, wb, kL]

theorem kL_inj {a b a' b' : Int} (wa : (Lit.int .u16 a).wf = true) (wb : (Lit.int .u16 b).wf = true) (wa' : (Lit.int .u16 a').wf = true) (wb' : (Lit.int .u16 b').wf = true) (h : kL a b = kL a' b') : a = a' ∧ b = b' := by
  have h1 := kind_key wa wb
  have h2 := kind_key wa' wb'
  rw [← h] at h2
  have := Tryd.kindlaw.inj h1 h2
  simpa using this

theorem u16_wf {a : Int} (h0 : 0 ≤ a) (h1 : a < 65536) : (Lit.int .u16 a).wf = true := by
  simp [Lit.wf, IntKind.min, IntKind.max, IntKind.bits, IntKind.signed]
  omega
theorem u32_wf {a : Int} (h0 : 0 ≤ a) (h1 : a < 4294967296) : (Lit.int .u32 a).wf = true := by
  simp [Lit.wf, IntKind.min, IntKind.max, IntKind.bits, IntKind.signed]
  omega

/-- The map of the first k records. -/
def KindMap (zs : List Int) (k : Nat) (D : DataW Unit) : Prop :=
  IsMap D ∧ ∀ a b : Int, 0 ≤ a → a < 65536 → 0 ≤ b → b < 65536 → has D (kL a b) = (cFst zs a b k).isSome ∧ ∀ v, cFst zs a b k = some v → D.atKey (kL a b) (.lit (.int .u32 0)) = .lit (.int .u32 v)

theorem KindMap.zero (zs : List Int) : KindMap zs 0 (.map []) := ⟨isMap_empty, fun a b _ _ _ _ => ⟨rfl, fun v h => by cases h⟩⟩
/-- The next record's kind is there. -/
theorem KindMap.old {zs : List Int} {k : Nat} {D : DataW Unit} (h : KindMap zs k D) (hB : Bytes zs) (hh : has D (kL (n2at zs (4 + 8 * k)) (n2at zs (6 + 8 * k))) = true) : KindMap zs (k + 1) D := by
  refine ⟨h.1, fun a b a0 a1 b0 b1 => ?_⟩
  have h1 := h.2 a b a0 a1 b0 b1
  have e : cFst zs a b (k + 1) = cFst zs a b k := by
    cases hi : cIs zs a b k with
    | false => exact cFst_other hi
    | true =>
      unfold cIs at hi
      simp at hi
      rw [hi.1, hi.2] at hh
      rw [h1.1] at hh
      cases hc : cFst zs a b k with
      | none => rw [hc] at hh; cases hh
      | some v => exact cFst_step hc
  rw [e]
  exact h1
/-- The next record's kind isn't there. -/
theorem KindMap.new {zs : List Int} {k : Nat} {D : DataW Unit} (h : KindMap zs k D) (hB : Bytes zs) (hh : has D (kL (n2at zs (4 + 8 * k)) (n2at zs (6 + 8 * k))) = false) : KindMap zs (k + 1) (D.put (kL (n2at zs (4 + 8 * k)) (n2at zs (6 + 8 * k))) (.lit (.int .u32 (cVal zs k)))) := by
  have k4 := n2at_lt hB (4 + 8 * k)
  have k6 := n2at_lt hB (6 + 8 * k)
  have hK : WideAt.IsKeyLit (kL (n2at zs (4 + 8 * k)) (n2at zs (6 + 8 * k))) := Tryd.kindlaw.key (kind_key (u16_wf k4.1 k4.2) (u16_wf k6.1 k6.2))
  refine ⟨h.1.put _ _, fun a b a0 a1 b0 b1 => ?_⟩
  have h1 := h.2 a b a0 a1 b0 b1
  cases hi : cIs zs a b k with
  | false =>
    have hne : kL a b ≠ kL (n2at zs (4 + 8 * k)) (n2at zs (6 + 8 * k)) := fun e => by
      obtain ⟨e1, e2⟩ := kL_inj (u16_wf a0 a1) (u16_wf b0 b1) (u16_wf k4.1 k4.2) (u16_wf k6.1 k6.2) e
      unfold cIs at hi
      simp [← e1, ← e2] at hi
    rw [cFst_other hi, has_put_other hne, atKey_put_other hne]
    exact h1
  | true =>
    have hi' := hi
    unfold cIs at hi'
    simp at hi'
    have hn : cFst zs a b k = none := by
      rw [hi'.1, hi'.2, h1.1] at hh
      cases hc : cFst zs a b k with
      | none => rfl
      | some v => rw [hc] at hh; cases hh
    rw [cFst_new hn hi, hi'.1, hi'.2]
    rw [hi'.1, hi'.2] at hK
    exact ⟨has_put_same h.1 hK _, fun v hv => by cases hv; exact atKey_put_same h.1 hK _ _⟩

end Go.Proofs.YthkaeimpflggjaaDoor

/- What word.Sub answers, and the law WordSubs. -/
namespace Go.Proofs.YthkaeimpflggjaaDoor
open Go.RowKit
set_option linter.unusedVariables false

/-- A fresh slice of bytes and a bool. -/
def RetBT (w : World) (ys : List Int) (ok : Bool) (e : Ending) (w' : World) : Prop := ∃ A n c, e = .returned (.tuple #[.slice A n c, .bool ok]) ∧ OwnB w' w.heap.size A n c ys ∧ Below w.heap.size w w'

theorem Row.part {w : World} {A : Option Addr} {n : Nat} {zs : List Int} (h : Row w A n (cellsOf .u8 zs)) (a m : Nat) (hm : a + m ≤ n) : Row w (A.map (·.add a)) m (cellsOf .u8 (part zs a (a + m))) := by
  have h1 := (h.take (k := a + m) hm).drop a
  rw [cellsOf_take, cellsOf_drop] at h1
  rwa [show a + m - a = m by omega] at h1

theorem sub_ok (A : Option Addr) (n c : Nat) (zs : List Int) (a m : Nat) (w : World) (hr : Row w A n (cellsOf .u8 zs)) (hc : n ≤ c) (hn : n ≤ 140737488351232) (ha : a < 4294967296) (hm : m < 4294967296) (h : a + m ≤ n) :
    Calls Tryd.prog 49 #[.slice A n c, .int .u32 a, .int .u32 m] w (RetBT w (part zs a (a + m)) true) := by
  have hp := Lib.hid (hr.part a m h)
  have H0 : m = 0 → Hid (part zs a (a + m) = []) := fun e => by subst e; show _ = _; unfold part; rw [List.drop_of_length_le]; rw [List.length_take]; omega
  clear hr
  go_enter Tryd.func49, Tryd.ntmps49
  by_cases hz : m = 0
  · have H1 := H0 hz
    subst hz
    clear H0
    go_wp2_with fail
    refine (clone_any _ _ _ [] _ (Row.empty _ _) (by omega)).mono ?_
    rintro e w1 ⟨A1, n1, c1, rfl, hown, hb⟩
    go_wp2
    go_ret2
    exact ⟨A1, n1, c1, rfl, by rw [show part zs a (a + 0) = [] from H1.out]; exact hown, hb⟩
  · clear H0
    go_wp2_with fail
    refine (clone_any _ _ _ _ _ hp.out (by omega)).mono ?_
    rintro e w1 ⟨A1, n1, c1, rfl, hown, hb⟩
    go_wp2
    go_ret2
    exact ⟨A1, n1, c1, rfl, hown, hb⟩

theorem sub_no (A : Option Addr) (n c : Nat) (a m : Nat) (w : World) (hn : n ≤ 140737488351232) (ha : a < 4294967296) (hm : m < 4294967296) (h : n < a + m) :
    Calls Tryd.prog 49 #[.slice A n c, .int .u32 a, .int .u32 m] w fun e w' => e = .returned (.tuple #[.slice none 0 0, .bool false]) ∧ w = w' := by
  go_enter Tryd.func49, Tryd.ntmps49
  go_wp2
  go_ret2
  exact ⟨rfl, rfl⟩



end Go.Proofs.YthkaeimpflggjaaDoor

/- cmap.placesOf, as a contract over this seat's translation. -/
namespace Go.Proofs.YthkaeimpflggjaaDoor
open Go.RowKit Go.Maps
set_option linter.unusedVariables false

theorem Tryd.zeroU32 (w : World) : (zeroValue 58).run Tryd.prog w = .ok (.int .u32 0) w := by kernel_rfl

theorem rdq_map {w w' : World} {B b i BM n : Nat} {zs : List Int} {D : DataW Unit} (h : RdQ w B b zs i) (hm : w.ownsMap Tryd.prog 65 (plainElem Tryd.prog 58) BM n D) (hb : b ≠ BM) (hg : w.grownBy w' (some BM)) : RdQ w' B b zs i := by
  obtain ⟨es, clock, hh, _⟩ := hm
  refine h.keep hg.size (fun g hg1 _ ho => hg.block g hg1 (fun e => ?_))
  simp only [Option.some.injEq] at e
  subst e
  rcases ho with e | ⟨cur, hc⟩
  · exact hb e.symm
  · rw [hh] at hc
    cases hc

/-- What it leaves. -/
def RetPlaces (w : World) (zs : List Int) (e : Ending) (w' : World) : Prop :=
  Below w.heap.size w w' ∧ ((cFront zs = false ∧ e = .returned (.tuple #[.map none, .bool false])) ∨
    (cFront zs = true ∧ ∃ (BM : Nat) (D : DataW Unit), e = .returned (.tuple #[.map (some BM), .bool true]) ∧ w'.ownsMap Tryd.prog 65 (plainElem Tryd.prog 58) BM (cN zs) D ∧ KindMap zs (cN zs) D))

set_option maxRecDepth 100000 in
set_option maxHeartbeats 4000000 in
theorem places_any (A : Option Addr) (n c : Nat) (zs : List Int) (w : World) (hr : Row w A n (cellsOf .u8 zs)) (hB : Bytes zs) (hn : n ≤ 1000000) (hc : n ≤ c) :
    Calls Tryd.prog 28 #[.slice A n c] w (RetPlaces w zs) := by
  obtain ⟨m, hm, hmn, hm4⟩ : ∃ m : Nat, min (n : Int) 4 = m ∧ m ≤ n ∧ m ≤ 4 := ⟨min n 4, by omega, by omega, by omega⟩
  have hr' : Row w A m (cellsOf .u8 (zs.take 4)) := by rw [show m = min n 4 by omega]; exact row_take16 4 hr
  have hB' : Bytes (zs.take 4) := cut_bytes hB _
  have e0 : n2at (zs.take 4) 0 = n2at zs 0 := n2at_takeG zs 4 0 (by omega)
  have e2 : n2at (zs.take 4) 2 = n2at zs 2 := n2at_takeG zs 4 2 (by omega)
  have hl' := hr'.len
  have hl := hr.len
  have k2 := n2at_lt hB 2
  have hN : n2at zs 2 = (cN zs : Int) := by unfold cN; omega
  have hF : Hid (cFront zs = (decide (4 ≤ n) && decide (n2at zs 0 = 0) && decide (4 + 8 * cN zs ≤ n))) := by show _ = _; unfold cFront; rw [hl]
  have HP : Hid (∀ i, i < cN zs → n2at (part zs 4 (4 + 8 * cN zs)) (8 * i) = n2at zs (4 + 8 * i) ∧ n2at (part zs 4 (4 + 8 * cN zs)) (8 * i + 2) = n2at zs (6 + 8 * i) ∧ n4at (part zs 4 (4 + 8 * cN zs)) (8 * i + 2 + 2) = cVal zs i) := by
    show ∀ _ _, _
    intro i hi
    unfold part cVal
    rw [n2at_part (by omega), n2at_part (by omega), n4at_part (by omega), show 4 + (8 * i + 2) = 6 + 8 * i by omega, show 4 + (8 * i + 2 + 2) = 8 + 8 * i by omega]
    exact ⟨rfl, rfl, rfl⟩
  have hN16 : cN zs ≤ 65535 := by omega
  rw [hN] at e2
  have HBz := Lib.hid hB
  have HLz := Lib.hid hl
  have hBp : Bytes (part zs 4 (4 + 8 * cN zs)) := fun x hx => hB x (List.mem_of_mem_take (List.mem_of_mem_drop hx))
  have hlp : (part zs 4 (4 + 8 * cN zs)).length ≤ 600000 := by unfold part; rw [List.length_drop, List.length_take]; omega
  have HBp := Lib.hid hBp
  have HLp := Lib.hid hlp
  have HSubN := Lib.hid (fun W h => sub_no A n c 4 (8 * cN zs) W (by omega) (by omega) (by omega) h)
  have HSubY := Lib.hid (fun W hW h => sub_ok A n c zs 4 (8 * cN zs) W (hr.below hW) hc (by omega) (by omega) (by omega) h)
  clear hBp hlp hr hB hl hN
  generalize zs.take 4 = ps at *
  generalize hNN : cN zs = N at *
  have HNN := Lib.hid hNN
  clear hNN
  generalize n2at zs 0 = v0 at *
  have HB := Lib.hid hB'
  have HL := Lib.hid hl'
  have E0 := Lib.hid e0
  have E2 := Lib.hid e2
  clear hB' hl' e0 e2
  have hmc : (m : Int) ≤ (c : Int) := by omega
  have hm0 : (0 : Int) ≤ (m : Int) := by omega
  have hmm := @run_makeMap Tryd.prog
  have W8 : IntKind.u32.wrap (N : Int) = (N : Int) := IntWalk.u32_in _ (by omega)
  have W9 : IntKind.u32.wrap ((N : Int) * 8) = ((8 * N : Nat) : Int) := by rw [IntWalk.u32_in _ (by omega)]; omega
  go_enter Tryd.func28, Tryd.ntmps28
  go_wp2_with fail
  refine (new_any A m _ ps w hr' (by omega)).mono ?_
  rintro e w1 ⟨b, rfl, hrd, hb1⟩
  have hq := RdQ.new hrd
  clear hrd hr' hm
  go_wp2_with fail
  with_reducible refine (rdq_u16 hq HB.out (by have := HL.out; omega)).mono ?_
  rintro e w2 ⟨rfl, hq2, hg2⟩
  have hb2 := hb1.grown hg2 hb1.size (fun k e => by cases e; exact hq.from_)
  clear hq hg2 hb1
  go_wp2_with fail
  with_reducible refine (rdq_u16 hq2 HB.out (by have := HL.out; omega)).mono ?_
  rintro e w3 ⟨rfl, hq3, hg3⟩
  have hb3 := hb2.grown hg3 hb2.size (fun k e => by cases e; exact hq2.from_)
  clear hq2 hg3 hb2
  simp only [Nat.zero_add] at hq3 ⊢
  rw [E0.out, E2.out]
  clear hq3 E0 E2
  go_wp2_with fail
  have RNo : Hid (∀ W, cFront zs = false → Below w.heap.size w W → RetPlaces w zs (.returned (.tuple #[.map none, .bool false])) W) := fun W h1 h2 => ⟨h2, .inl ⟨h1, rfl⟩⟩
  by_cases hfit : 4 + 8 * N ≤ n
  · refine (HSubY.out _ hb3 hfit).mono ?_
    rintro e w4 ⟨A4, n4, c4, rfl, hown4, hb4'⟩
    have hb4 := hb3.trans (hb4'.mono hb3.size)
    have hn4 := hown4.len
    have hnp : (part zs 4 (4 + 8 * N)).length = 8 * N := by unfold part; rw [List.length_drop, List.length_take]; have := HLz.out; omega
    have hr4 := hown4.row
    clear HSubY HSubN hown4 hb4' hb3
    by_cases hv : v0 = 0
    · have b0 : (v0 == 0) = true := by simp [hv]
      have HFt : Hid (cFront zs = true) := by show _ = _; rw [hF.out]; simp; omega
      clear hF hv RNo
      generalize part zs 4 (4 + 8 * N) = rs at *
      go_wp2_with fail
      refine (new_any A4 n4 _ rs w4 hr4 (by omega)).mono ?_
      rintro e w5 ⟨bq, rfl, hrd, hb5'⟩
      have hq := RdQ.new hrd
      have hb5 := hb4.trans (hb5'.mono hb4.size)
      have hbl := hq.lt
      have hqf0 := hq.from_
      have hw45 := hb4.size
      clear hrd hr4 hb5' hb4
      have hown0 : (w5.alloc (.map #[] 0)).ownsMap Tryd.prog 65 (plainElem Tryd.prog 58) w5.heap.size 0 (.map [] : DataW Unit) := World.ownsMap_made w5 _ _ _
      have hal : Below w5.heap.size w5 (w5.alloc (.map #[] 0)) := (Below.refl _ _).alloc (Nat.le_refl _) _
      have hq0 := hq.below hal
      have hb6 := hb5.trans (hal.mono hb5.size)
      have HNp := Lib.hid hnp
      have hBM : w.heap.size ≤ w5.heap.size := hb5.size
      clear hq hal hb5 hn4 hnp
      go_wp2
      clear hmm
      generalize w5.alloc (.map #[] 0) = W0 at *
      generalize w5.heap.size = BM at *
      generalize w4.heap.size = Bq at *
      go_loopw [44] (fun i wr => ∃ (k : Nat) (D : DataW Unit), k ≤ N ∧ i = .int .u16 k ∧ RdQ wr Bq bq rs (8 * k) ∧ wr.ownsMap Tryd.prog 65 (plainElem Tryd.prog 58) BM k D ∧ Hid (KindMap zs k D) ∧ Below w.heap.size w wr) (fun i _ => N - (intOf i).toNat)
      case atStart => exact ⟨0, .map [], Nat.zero_le _, rfl, hq0, hown0, Lib.hid (KindMap.zero zs), hb6⟩
      case round =>
        clear hq0 hown0 hb6
        obtain ⟨k, D, hk, rfl, hq, hown, hK, hb⟩ := hrel
        by_cases hlt : k < N
        · obtain ⟨p1, p2, p3⟩ := HP.out k hlt
          have HV1 := Lib.hid p1
          have HV2 := Lib.hid p2
          have HV3 := Lib.hid p3
          have a4 := n2at_lt HBz.out (4 + 8 * k)
          have a6 := n2at_lt HBz.out (6 + 8 * k)
          have a8 : 0 ≤ cVal zs k ∧ cVal zs k < 4294967296 := n4at_lt HBz.out (8 + 8 * k)
          have HOld := Lib.hid (fun h => hK.out.old HBz.out h)
          have HNew := Lib.hid (fun h => hK.out.new HBz.out h)
          have HKey := Lib.hid (kind_key (u16_wf a4.1 a4.2) (u16_wf a6.1 a6.2))
          have HWf := Lib.hid (u32_wf a8.1 a8.2)
          have hbne : bq ≠ BM := by omega
          have hqf : w.heap.size ≤ bq := by omega
          clear p1 p2 p3 HP hK
          go_wp2_with fail
          with_reducible refine (rdq_u16 hq HBp.out (by have := HLp.out; omega)).mono ?_
          rintro e v1 ⟨rfl, hq1, hg1⟩
          rw [HV1.out]
          have hb1 := hb.grown hg1 hb.size (fun k e => by cases e; exact hqf)
          have hw1 := hown.kept hg1 (by simp; omega)
          clear hq hg1 hb hown HV1
          go_wp2_with fail
          with_reducible refine (rdq_u16 hq1 HBp.out (by have := HLp.out; omega)).mono ?_
          rintro e v2 ⟨rfl, hq2, hg2⟩
          rw [HV2.out]
          have hb2 := hb1.grown hg2 hb1.size (fun k e => by cases e; exact hqf)
          have hw2 := hw1.kept hg2 (by simp; omega)
          clear hq1 hg2 hb1 hw1 HV2
          go_wp2_with fail
          with_reducible refine (rdq_u32 hq2 HBp.out (by have := HLp.out; omega)).mono ?_
          rintro e v3 ⟨rfl, hq3, hg3⟩
          rw [HV3.out]
          have hb3 := hb2.grown hg3 hb2.size (fun k e => by cases e; exact hqf)
          have hw3 := hw2.kept hg3 (by simp; omega)
          clear hq2 hg3 hb2 hw2 HV3
          rw [show 8 * k + 2 + 2 + 4 = 8 * (k + 1) by omega] at hq3
          generalize n2at zs (4 + 8 * k) = ka at *
          generalize n2at zs (6 + 8 * k) = kb at *
          generalize hvv : cVal zs k = kv at *
          clear hvv
          have hal : Below v3.heap.size v3 (v3.alloc (.cells #[.int .u16 ka, .int .u16 kb] 65)) := (Below.refl _ _).alloc (Nat.le_refl _) _
          have hq4 := hq3.below hal
          have hw4 := hw3.alloc (.cells #[.int .u16 ka, .int .u16 kb] 65)
          have hb4 := hb3.trans (hal.mono hb3.size)
          clear hq3 hw3 hb3 hal
          cases hh : has D (kL ka kb) with
          | true =>
            have HY := Lib.hid (HOld.out hh)
            clear HOld HNew
            go_wp2_with (at_lookup; refine wpList_lookup_own_ok_int _ rfl _ _ 74 rfl 65 58 .u32 Tryd.kindlaw Tryd.underlying74 Tryd.underlying58 (Tryd.zeroU32 _) BM k D rfl hw4 _ (kL ka kb) rfl HKey.out ?_; intro cv hat hwc; rw [hh]; clear hat hwc)
            go_roundw
            case rel => exact ⟨k + 1, D, by omega, by go_num, hq4, hw4.mono (by omega), HY, hb4⟩
            case measure => simp [intOf]; omega
          | false =>
            have HY := Lib.hid (HNew.out hh)
            clear HOld HNew
            go_wp2_with (first
              | (at_lookup; refine wpList_lookup_own_ok_int _ rfl _ _ 74 rfl 65 58 .u32 Tryd.kindlaw Tryd.underlying74 Tryd.underlying58 (Tryd.zeroU32 _) BM k D rfl hw4 _ (kL ka kb) rfl HKey.out ?_; intro cv hat hwc; rw [hh]; clear hat hwc)
              | (at_mapUpdate; refine wpList_mapUpdate_own _ rfl _ _ _ 74 rfl 65 58 Tryd.kindlaw Tryd.underlying74 (plainElem Tryd.prog 58) BM k D rfl hw4 (by unfold maxLen; omega) _ _ (kL ka kb) rfl rfl HKey.out (.lit (.int .u32 kv)) [] (plainElem_int Tryd.underlying58 HWf.out) ?_; intro v5 hw5 hg5))
            have hq5 := rdq_map hq4 hw4 hbne hg5
            have hb5 := hb4.grown hg5 hb4.size (fun k e => by cases e; exact hBM)
            go_roundw
            case rel => exact ⟨k + 1, _, by omega, by go_num, hq5, hw5, HY, hb5⟩
            case measure => simp [intOf]; omega
        · obtain rfl : k = N := by omega
          go_wp2
          go_ret2
          exact ⟨hb, .inr ⟨HFt.out, BM, D, rfl, by rw [HNN.out]; exact hown, by rw [HNN.out]; exact hK.out⟩⟩
    · have b0 : (v0 == 0) = false := by simp [hv]
      have HT := Lib.hid (RNo.out _ (by rw [hF.out]; simp [hv]) hb4)
      clear hF hv RNo
      go_wp2
      go_ret2
      exact HT.out
  · have HT : Hid (cFront zs = false) := by show _ = _; rw [hF.out]; simp; omega
    refine (HSubN.out _ (by omega)).mono ?_
    rintro e w4 ⟨rfl, rfl⟩
    have HT2 := Lib.hid (RNo.out _ HT.out hb3)
    clear hF RNo HSubY HSubN
    cases hv : v0 == 0 with
    | true =>
      go_wp2
      go_ret2
      exact HT2.out
    | false =>
      go_wp2
      go_ret2
      exact HT2.out

end Go.Proofs.YthkaeimpflggjaaDoor

/- cmap.read and Parse: contracts over this seat's translation. -/
namespace Go.Proofs.YthkaeimpflggjaaDoor
open Go.RowKit
set_option linter.unusedVariables false

/-- What a table tells, or that it is none. -/
def RetCM (w : World) (zs : List Int) (wd : Bool) (v : Int) (e : Ending) (w' : World) : Prop :=
  Below w.heap.size w w' ∧ ((cOk zs wd v = false ∧ e = .returned (.tuple #[cmV0, .int .i64 2])) ∨
    (cOk zs wd v = true ∧ ∃ A c g, e = .returned (.tuple #[cmV wd A (cCnt wd (zs.drop v.toNat)) c, .int .i64 0]) ∧ CMap w' wd (zs.drop v.toNat) A g))

/-- Two structs of three cells: what is answered, and what is filled. -/
structure RB (w wr : World) (x0 x1 x2 y0 y1 y2 : Value) : Prop where
  b0 : wr.heap[w.heap.size]? = some (.cells #[x0, x1, x2] 37 (0, 0))
  b1 : wr.heap[w.heap.size + 1]? = some (.cells #[y0, y1, y2] 37 (0, 0))
  bel : Below w.heap.size w wr
theorem RB.below {w wr w' : World} {x0 x1 x2 y0 y1 y2 : Value} (h : RB w wr x0 x1 x2 y0 y1 y2) (hb : Below wr.heap.size wr w') : RB w w' x0 x1 x2 y0 y1 y2 := ⟨kept_block h.b0 hb, kept_block h.b1 hb, h.bel.trans (hb.mono h.bel.size)⟩
theorem RB.res {w wr : World} {x0 x1 x2 y0 y1 y2 : Value} (h : RB w wr x0 x1 x2 y0 y1 y2) (v0 v1 v2 : Value) : RB w (((wr.setCell ⟨w.heap.size, 0, none⟩ v0).setCell ⟨w.heap.size, 1, none⟩ v1).setCell ⟨w.heap.size, 2, none⟩ v2) v0 v1 v2 y0 y1 y2 := by
  have s1 := set_block h.b0 0 v0
  have s2 := set_block s1 1 v1
  have s3 := set_block s2 2 v2
  refine ⟨s3, ?_, below_set (Nat.le_refl _) _ _ (below_set (Nat.le_refl _) _ _ (below_set (Nat.le_refl _) _ _ h.bel))⟩
  have hne : w.heap.size + 1 ≠ w.heap.size := by omega
  exact (Below.heap_setCell _ _ _ _ hne).trans ((Below.heap_setCell _ _ _ _ hne).trans ((Below.heap_setCell _ _ _ _ hne).trans h.b1))
theorem RB.one {w wr : World} {x0 x1 x2 y0 y1 y2 : Value} (h : RB w wr x0 x1 x2 y0 y1 y2) (v : Value) : RB w (wr.setCell ⟨w.heap.size + 1, 1, none⟩ v) x0 x1 x2 y0 v y2 :=
  ⟨(Below.heap_setCell _ _ _ _ (show w.heap.size ≠ w.heap.size + 1 by omega)).trans h.b0, set_block h.b1 1 v, below_set (by omega) _ _ h.bel⟩
theorem RB.two {w wr : World} {x0 x1 x2 y0 y1 y2 : Value} (h : RB w wr x0 x1 x2 y0 y1 y2) (v : Value) : RB w (wr.setCell ⟨w.heap.size + 1, 2, none⟩ v) x0 x1 x2 y0 y1 v :=
  ⟨(Below.heap_setCell _ _ _ _ (show w.heap.size ≠ w.heap.size + 1 by omega)).trans h.b0, set_block h.b1 2 v, below_set (by omega) _ _ h.bel⟩
theorem RB.cells {w wr : World} {x0 x1 x2 y0 y1 y2 : Value} (h : RB w wr x0 x1 x2 y0 y1 y2) : wr.cell? ⟨w.heap.size, 0, none⟩ = some x0 ∧ wr.cell? ⟨w.heap.size, 1, none⟩ = some x1 ∧ wr.cell? ⟨w.heap.size, 2, none⟩ = some x2 ∧ wr.cell? ⟨w.heap.size + 1, 0, none⟩ = some y0 ∧ wr.cell? ⟨w.heap.size + 1, 1, none⟩ = some y1 ∧ wr.cell? ⟨w.heap.size + 1, 2, none⟩ = some y2 :=
  ⟨cell_of_row wr _ 0 _ _ _ h.b0, cell_of_row wr _ 1 _ _ _ h.b0, cell_of_row wr _ 2 _ _ _ h.b0, cell_of_row wr _ 0 _ _ _ h.b1, cell_of_row wr _ 1 _ _ _ h.b1, cell_of_row wr _ 2 _ _ _ h.b1⟩

theorem Tryd.cmapsize : (Tryd.prog.info? 37).map (·.size) = some 3 := by kernel_rfl

theorem row_drop_any {w : World} {A : Option Addr} {n : Nat} {zs : List Int} (hr : Row w A n (cellsOf .u8 zs)) (k : Nat) : Row w (A.map (·.add k)) (n - k) (cellsOf .u8 (zs.drop k)) := by
  have h := hr.drop k
  rwa [cellsOf_drop] at h

set_option maxRecDepth 100000 in
set_option maxHeartbeats 4000000 in
theorem cread_any (A : Option Addr) (n c : Nat) (zs : List Int) (wd : Bool) (v : Nat) (w : World) (hr : Row w A n (cellsOf .u8 zs)) (hB : Bytes zs) (hn : n ≤ 1000000) (hc : n ≤ c) (hv : v < 4294967296) :
    Calls Tryd.prog 29 #[.slice A n c, .int .u32 v, .bool wd] w (RetCM w zs wd v) := by
  have hA1 : Below w.heap.size w (w.alloc (.cells #[.bool false, .slice none 0 0, .slice none 0 0] 37)) := (Below.refl _ _).alloc (Nat.le_refl _) _
  have SI := Lib.hid Tryd.cmapsize
  by_cases hvn : v ≤ n
  · have hA2 : Below (w.alloc (.cells #[.bool false, .slice none 0 0, .slice none 0 0] 37)).heap.size (w.alloc (.cells #[.bool false, .slice none 0 0, .slice none 0 0] 37)) ((w.alloc (.cells #[.bool false, .slice none 0 0, .slice none 0 0] 37)).alloc (.cells #[.bool wd, .slice none 0 0, .slice none 0 0] 37)) := (Below.refl _ _).alloc (Nat.le_refl _) _
    have hs : RB w ((w.alloc (.cells #[.bool false, .slice none 0 0, .slice none 0 0] 37)).alloc (.cells #[.bool wd, .slice none 0 0, .slice none 0 0] 37)) (.bool false) (.slice none 0 0) (.slice none 0 0) (.bool wd) (.slice none 0 0) (.slice none 0 0) := by
      have h1 := heap_alloc_new (w.alloc (.cells #[.bool false, .slice none 0 0, .slice none 0 0] 37)) (.cells #[.bool wd, .slice none 0 0, .slice none 0 0] 37)
      rw [show (w.alloc (.cells #[.bool false, .slice none 0 0, .slice none 0 0] 37)).heap.size = w.heap.size + 1 by simp] at h1
      exact ⟨kept_block (heap_alloc_new w _) hA2, h1, hA1.trans (hA2.mono hA1.size)⟩
    have hrd := row_drop_any (hr.below (hA1.trans (hA2.mono hA1.size))) v
    have hBd : Bytes (zs.drop v) := drop_bytes hB _
    have Hok : Hid (cOk zs wd v = (if wd then gRight (zs.drop v) else sRight (zs.drop v))) := by
      show _ = _
      unfold cOk
      rw [hr.len, decide_eq_true (by omega), Bool.true_and]
      rfl
    have hl := hr.len
    clear hr hB hA1 hA2
    cases wd with
    | true =>
      by_cases hcv : c = v
      · skip
        subst hcv
        obtain rfl : c = n := by omega
        have hrd' : Row ((w.alloc (.cells #[.bool false, .slice none 0 0, .slice none 0 0] 37)).alloc (.cells #[.bool true, .slice none 0 0, .slice none 0 0] 37)) A 0 (cellsOf .u8 (zs.drop c)) := by
          rw [List.drop_of_length_le (by omega)]
          exact ⟨rfl, fun h => absurd h (by omega)⟩
        have HP := Lib.hid (gparse_any A 0 0 (zs.drop c) _ hrd' hBd (by omega) (by omega))
        clear hrd hrd'
        have Hok' : Hid (cOk zs true c = gRight (zs.drop c)) := Hok.out
        have HLn := Lib.hid hl
        clear hl Hok
        go_enter Tryd.func29, Tryd.ntmps29
        go_wp2_with fail
        with_reducible refine HP.out.mono ?_
        rintro e w2 ⟨hb2, ⟨hf, rfl⟩ | ⟨hf, A2, c2, rfl, hown2⟩⟩
        · have hs2 := hs.below hb2
          obtain ⟨z0, z1, z2, z3, z4, z5⟩ := hs2.cells
          have f0 := thawed hs2.b0
          have f1 := thawed hs2.b1
          have R1 := Lib.hid ((hs2.one (.slice none 0 0)).res (.bool false) (.slice none 0 0) (.slice none 0 0))
          have HF : Hid (cOk zs true c = false) := by show _ = _; rw [Hok'.out, hf]
          clear hs2 hb2 hs hf Hok' HP hBd
          unfold gmV
          go_wp2
          exact bodyPost_ret (v := .tuple #[cmV0, .int .i64 2]) (results_two2 Tryd.results29 _ _ w.heap.size 37 _ (0, 0) _ rfl rfl R1.out.b0 Tryd.underlying37 rfl SI.out) rfl ⟨R1.out.bel, .inl ⟨HF.out, rfl⟩⟩
        · have hs2 := hs.below hb2
          obtain ⟨z0, z1, z2, z3, z4, z5⟩ := hs2.cells
          have f0 := thawed hs2.b0
          have f1 := thawed hs2.b1
          have HM : Hid (CMap ((((w2.setCell ⟨w.heap.size + 1, 1, none⟩ (.slice A2 (gN (zs.drop c)) c2)).setCell ⟨w.heap.size, 0, none⟩ (.bool true)).setCell ⟨w.heap.size, 1, none⟩ (.slice A2 (gN (zs.drop c)) c2)).setCell ⟨w.heap.size, 2, none⟩ (.slice none 0 0)) true (zs.drop c) A2 0) := by
            have hgn : gN (zs.drop c) ≤ 1000000 := by
              have hl2 := hf
              unfold gRight at hl2
              simp [gFront] at hl2
              have h12 := n4at_lt hBd 12
              have hlen := HLn.out
              unfold gN
              omega
            refine ⟨GMap.of hBd hf (hown2.keep (fun q e => ?_)), hgn⟩
            have hq := (hown2.from_ q e).1
            simp at hq
            have h0 : q ≠ w.heap.size := by omega
            have h1 : q ≠ w.heap.size + 1 := by omega
            exact (Below.heap_setCell _ _ _ _ h0).trans ((Below.heap_setCell _ _ _ _ h0).trans ((Below.heap_setCell _ _ _ _ h0).trans (Below.heap_setCell _ _ _ _ h1)))
          have R1 := Lib.hid ((hs2.one (.slice A2 (gN (zs.drop c)) c2)).res (.bool true) (.slice A2 (gN (zs.drop c)) c2) (.slice none 0 0))
          have HF : Hid (cOk zs true c = true) := by show _ = _; rw [Hok'.out, hf]
          clear hs2 hb2 hs hf Hok' HP hBd hown2
          unfold gmV
          go_wp2
          exact bodyPost_ret (v := .tuple #[cmV true A2 (gN (zs.drop c)) c2, .int .i64 0]) (results_two2 Tryd.results29 _ _ w.heap.size 37 _ (0, 0) _ rfl rfl R1.out.b0 Tryd.underlying37 rfl SI.out) rfl ⟨R1.out.bel, .inr ⟨HF.out, A2, c2, 0, rfl, HM.out⟩⟩
      · skip
        have HP := Lib.hid (gparse_any _ (n - v) (c - v) (zs.drop v) _ hrd hBd (by omega) (by omega))
        clear hrd
        have Hok' : Hid (cOk zs true v = gRight (zs.drop v)) := Hok.out
        have HLn := Lib.hid hl
        clear hl Hok
        go_enter Tryd.func29, Tryd.ntmps29
        go_wp2_with fail
        with_reducible refine HP.out.mono ?_
        rintro e w2 ⟨hb2, ⟨hf, rfl⟩ | ⟨hf, A2, c2, rfl, hown2⟩⟩
        · have hs2 := hs.below hb2
          obtain ⟨z0, z1, z2, z3, z4, z5⟩ := hs2.cells
          have f0 := thawed hs2.b0
          have f1 := thawed hs2.b1
          have R1 := Lib.hid ((hs2.one (.slice none 0 0)).res (.bool false) (.slice none 0 0) (.slice none 0 0))
          have HF : Hid (cOk zs true v = false) := by show _ = _; rw [Hok'.out, hf]
          clear hs2 hb2 hs hf Hok' HP hBd
          unfold gmV
          go_wp2
          exact bodyPost_ret (v := .tuple #[cmV0, .int .i64 2]) (results_two2 Tryd.results29 _ _ w.heap.size 37 _ (0, 0) _ rfl rfl R1.out.b0 Tryd.underlying37 rfl SI.out) rfl ⟨R1.out.bel, .inl ⟨HF.out, rfl⟩⟩
        · have hs2 := hs.below hb2
          obtain ⟨z0, z1, z2, z3, z4, z5⟩ := hs2.cells
          have f0 := thawed hs2.b0
          have f1 := thawed hs2.b1
          have HM : Hid (CMap ((((w2.setCell ⟨w.heap.size + 1, 1, none⟩ (.slice A2 (gN (zs.drop v)) c2)).setCell ⟨w.heap.size, 0, none⟩ (.bool true)).setCell ⟨w.heap.size, 1, none⟩ (.slice A2 (gN (zs.drop v)) c2)).setCell ⟨w.heap.size, 2, none⟩ (.slice none 0 0)) true (zs.drop v) A2 0) := by
            have hgn : gN (zs.drop v) ≤ 1000000 := by
              have hl2 := hf
              unfold gRight at hl2
              simp [gFront] at hl2
              have h12 := n4at_lt hBd 12
              have hlen := HLn.out
              unfold gN
              omega
            refine ⟨GMap.of hBd hf (hown2.keep (fun q e => ?_)), hgn⟩
            have hq := (hown2.from_ q e).1
            simp at hq
            have h0 : q ≠ w.heap.size := by omega
            have h1 : q ≠ w.heap.size + 1 := by omega
            exact (Below.heap_setCell _ _ _ _ h0).trans ((Below.heap_setCell _ _ _ _ h0).trans ((Below.heap_setCell _ _ _ _ h0).trans (Below.heap_setCell _ _ _ _ h1)))
          have R1 := Lib.hid ((hs2.one (.slice A2 (gN (zs.drop v)) c2)).res (.bool true) (.slice A2 (gN (zs.drop v)) c2) (.slice none 0 0))
          have HF : Hid (cOk zs true v = true) := by show _ = _; rw [Hok'.out, hf]
          clear hs2 hb2 hs hf Hok' HP hBd hown2
          unfold gmV
          go_wp2
          exact bodyPost_ret (v := .tuple #[cmV true A2 (gN (zs.drop v)) c2, .int .i64 0]) (results_two2 Tryd.results29 _ _ w.heap.size 37 _ (0, 0) _ rfl rfl R1.out.b0 Tryd.underlying37 rfl SI.out) rfl ⟨R1.out.bel, .inr ⟨HF.out, A2, c2, 0, rfl, HM.out⟩⟩
    | false =>
      by_cases hcv : c = v
      · skip
        subst hcv
        obtain rfl : c = n := by omega
        have hrd' : Row ((w.alloc (.cells #[.bool false, .slice none 0 0, .slice none 0 0] 37)).alloc (.cells #[.bool false, .slice none 0 0, .slice none 0 0] 37)) A 0 (cellsOf .u8 (zs.drop c)) := by
          rw [List.drop_of_length_le (by omega)]
          exact ⟨rfl, fun h => absurd h (by omega)⟩
        have HP := Lib.hid (sparse_any A 0 0 (zs.drop c) _ hrd' hBd (by omega) (by omega))
        clear hrd hrd'
        have Hok' : Hid (cOk zs false c = sRight (zs.drop c)) := Hok.out
        have HLn := Lib.hid hl
        clear hl Hok
        go_enter Tryd.func29, Tryd.ntmps29
        go_wp2_with fail
        with_reducible refine HP.out.mono ?_
        rintro e w2 ⟨hb2, ⟨hf, rfl⟩ | ⟨hf, A2, c2, g2, rfl, hown2, hnum2⟩⟩
        · have hs2 := hs.below hb2
          obtain ⟨z0, z1, z2, z3, z4, z5⟩ := hs2.cells
          have f0 := thawed hs2.b0
          have f1 := thawed hs2.b1
          have R1 := Lib.hid ((hs2.two (.slice none 0 0)).res (.bool false) (.slice none 0 0) (.slice none 0 0))
          have HF : Hid (cOk zs false c = false) := by show _ = _; rw [Hok'.out, hf]
          clear hs2 hb2 hs hf Hok' HP hBd
          unfold smV
          go_wp2
          exact bodyPost_ret (v := .tuple #[cmV0, .int .i64 2]) (results_two2 Tryd.results29 _ _ w.heap.size 37 _ (0, 0) _ rfl rfl R1.out.b0 Tryd.underlying37 rfl SI.out) rfl ⟨R1.out.bel, .inl ⟨HF.out, rfl⟩⟩
        · have hs2 := hs.below hb2
          obtain ⟨z0, z1, z2, z3, z4, z5⟩ := hs2.cells
          have f0 := thawed hs2.b0
          have f1 := thawed hs2.b1
          have HM : Hid (CMap ((((w2.setCell ⟨w.heap.size + 1, 2, none⟩ (.slice A2 (sN (zs.drop c)) c2)).setCell ⟨w.heap.size, 0, none⟩ (.bool false)).setCell ⟨w.heap.size, 1, none⟩ (.slice none 0 0)).setCell ⟨w.heap.size, 2, none⟩ (.slice A2 (sN (zs.drop c)) c2)) false (zs.drop c) A2 g2) := by
            have hsf := sRight_facts hBd hf
            refine ⟨SMap.of hBd hf (hown2.keep (fun q e => ?_)) (hnum2.keep (by simp [World.setCell]) (fun q e hq => ?_)), by omega⟩
            · have hq := (hown2.from_ q e).1
              simp at hq
              have h0 : q ≠ w.heap.size := by omega
              have h1 : q ≠ w.heap.size + 1 := by omega
              exact (Below.heap_setCell _ _ _ _ h0).trans ((Below.heap_setCell _ _ _ _ h0).trans ((Below.heap_setCell _ _ _ _ h0).trans (Below.heap_setCell _ _ _ _ h1)))
            · have hcn := num_cell hnum2 (i := 0) (by omega)
              simp [blockOf] at e
              subst e
              have h0 : g2 ≠ w.heap.size := fun h => by rw [h, z0] at hcn; cases hcn
              have h1 : g2 ≠ w.heap.size + 1 := fun h => by rw [h, z3] at hcn; cases hcn
              exact (Below.heap_setCell _ _ _ _ h0).trans ((Below.heap_setCell _ _ _ _ h0).trans ((Below.heap_setCell _ _ _ _ h0).trans (Below.heap_setCell _ _ _ _ h1)))
          have R1 := Lib.hid ((hs2.two (.slice A2 (sN (zs.drop c)) c2)).res (.bool false) (.slice none 0 0) (.slice A2 (sN (zs.drop c)) c2))
          have HF : Hid (cOk zs false c = true) := by show _ = _; rw [Hok'.out, hf]
          clear hs2 hb2 hs hf Hok' HP hBd hown2 hnum2
          unfold smV
          go_wp2
          exact bodyPost_ret (v := .tuple #[cmV false A2 (sN (zs.drop c)) c2, .int .i64 0]) (results_two2 Tryd.results29 _ _ w.heap.size 37 _ (0, 0) _ rfl rfl R1.out.b0 Tryd.underlying37 rfl SI.out) rfl ⟨R1.out.bel, .inr ⟨HF.out, A2, c2, g2, rfl, HM.out⟩⟩
      · skip
        have HP := Lib.hid (sparse_any _ (n - v) (c - v) (zs.drop v) _ hrd hBd (by omega) (by omega))
        clear hrd
        have Hok' : Hid (cOk zs false v = sRight (zs.drop v)) := Hok.out
        have HLn := Lib.hid hl
        clear hl Hok
        go_enter Tryd.func29, Tryd.ntmps29
        go_wp2_with fail
        with_reducible refine HP.out.mono ?_
        rintro e w2 ⟨hb2, ⟨hf, rfl⟩ | ⟨hf, A2, c2, g2, rfl, hown2, hnum2⟩⟩
        · have hs2 := hs.below hb2
          obtain ⟨z0, z1, z2, z3, z4, z5⟩ := hs2.cells
          have f0 := thawed hs2.b0
          have f1 := thawed hs2.b1
          have R1 := Lib.hid ((hs2.two (.slice none 0 0)).res (.bool false) (.slice none 0 0) (.slice none 0 0))
          have HF : Hid (cOk zs false v = false) := by show _ = _; rw [Hok'.out, hf]
          clear hs2 hb2 hs hf Hok' HP hBd
          unfold smV
          go_wp2
          exact bodyPost_ret (v := .tuple #[cmV0, .int .i64 2]) (results_two2 Tryd.results29 _ _ w.heap.size 37 _ (0, 0) _ rfl rfl R1.out.b0 Tryd.underlying37 rfl SI.out) rfl ⟨R1.out.bel, .inl ⟨HF.out, rfl⟩⟩
        · have hs2 := hs.below hb2
          obtain ⟨z0, z1, z2, z3, z4, z5⟩ := hs2.cells
          have f0 := thawed hs2.b0
          have f1 := thawed hs2.b1
          have HM : Hid (CMap ((((w2.setCell ⟨w.heap.size + 1, 2, none⟩ (.slice A2 (sN (zs.drop v)) c2)).setCell ⟨w.heap.size, 0, none⟩ (.bool false)).setCell ⟨w.heap.size, 1, none⟩ (.slice none 0 0)).setCell ⟨w.heap.size, 2, none⟩ (.slice A2 (sN (zs.drop v)) c2)) false (zs.drop v) A2 g2) := by
            have hsf := sRight_facts hBd hf
            refine ⟨SMap.of hBd hf (hown2.keep (fun q e => ?_)) (hnum2.keep (by simp [World.setCell]) (fun q e hq => ?_)), by omega⟩
            · have hq := (hown2.from_ q e).1
              simp at hq
              have h0 : q ≠ w.heap.size := by omega
              have h1 : q ≠ w.heap.size + 1 := by omega
              exact (Below.heap_setCell _ _ _ _ h0).trans ((Below.heap_setCell _ _ _ _ h0).trans ((Below.heap_setCell _ _ _ _ h0).trans (Below.heap_setCell _ _ _ _ h1)))
            · have hcn := num_cell hnum2 (i := 0) (by omega)
              simp [blockOf] at e
              subst e
              have h0 : g2 ≠ w.heap.size := fun h => by rw [h, z0] at hcn; cases hcn
              have h1 : g2 ≠ w.heap.size + 1 := fun h => by rw [h, z3] at hcn; cases hcn
              exact (Below.heap_setCell _ _ _ _ h0).trans ((Below.heap_setCell _ _ _ _ h0).trans ((Below.heap_setCell _ _ _ _ h0).trans (Below.heap_setCell _ _ _ _ h1)))
          have R1 := Lib.hid ((hs2.two (.slice A2 (sN (zs.drop v)) c2)).res (.bool false) (.slice none 0 0) (.slice A2 (sN (zs.drop v)) c2))
          have HF : Hid (cOk zs false v = true) := by show _ = _; rw [Hok'.out, hf]
          clear hs2 hb2 hs hf Hok' HP hBd hown2 hnum2
          unfold smV
          go_wp2
          exact bodyPost_ret (v := .tuple #[cmV false A2 (sN (zs.drop v)) c2, .int .i64 0]) (results_two2 Tryd.results29 _ _ w.heap.size 37 _ (0, 0) _ rfl rfl R1.out.b0 Tryd.underlying37 rfl SI.out) rfl ⟨R1.out.bel, .inr ⟨HF.out, A2, c2, g2, rfl, HM.out⟩⟩
  · have hs : (w.alloc (.cells #[.bool false, .slice none 0 0, .slice none 0 0] 37)).heap[w.heap.size]? = some (.cells #[.bool false, .slice none 0 0, .slice none 0 0] 37 (0, 0)) := heap_alloc_new w _
    have HNo : Hid (cOk zs wd v = false) := by show _ = _; unfold cOk; rw [hr.len, decide_eq_false (by omega)]; rfl
    have S3 := Lib.hid hs
    have HB := Lib.hid hA1
    clear hs hA1 hr hB
    go_enter Tryd.func29, Tryd.ntmps29
    go_wp2
    exact bodyPost_ret (v := .tuple #[cmV0, .int .i64 2]) (results_two2 Tryd.results29 _ _ w.heap.size 37 _ (0, 0) _ rfl rfl S3.out Tryd.underlying37 rfl SI.out) rfl ⟨HB.out, .inl ⟨HNo.out, rfl⟩⟩

end Go.Proofs.YthkaeimpflggjaaDoor
