/- A table of segments that is built is read as it was: plain lists. -/
import Derived.Test.YthkaeimpflggjaaDoorSegX
import Derived.Test.YthkaeimpflggjaaDoorGrpT
namespace Go.Proofs.YthkaeimpflggjaaDoor
set_option linter.unusedVariables false
set_option linter.unusedSectionVars false

theorem colB_drop (val : Sg → Int) : ∀ (l : List Sg) (i : Nat), (colB val l).drop (2 * i) = colB val (l.drop i)
  | [], i => by simp [colB]
  | x :: r, 0 => by simp
  | x :: r, i + 1 => by
    have h : colB val (x :: r) = b2 (val x) ++ colB val r := rfl
    rw [h, show 2 * (i + 1) = (b2 (val x)).length + 2 * i by simp [b2]; omega, List.drop_append, List.drop_of_length_le (by omega), Nat.add_sub_cancel_left, List.nil_append, colB_drop val r i]
    rfl
theorem n2at_col {val : Sg → Int} {zs pre post : List Int} {l : List Sg} {p i : Nat} {x : Sg} (hz : zs = pre ++ colB val l ++ post) (hp : pre.length = p) (h : l[i]? = some x) (h0 : 0 ≤ val x) (h1 : val x < 65536) : n2at zs (p + 2 * i) = val x := by
  have hl := (List.getElem?_eq_some_iff.1 h).1
  have e : zs.drop (p + 2 * i) = b2 (val x) ++ (colB val (l.drop (i + 1)) ++ post) := by
    rw [hz, List.append_assoc, ← hp, List.drop_append, List.drop_of_length_le (by omega), Nat.add_sub_cancel_left, List.nil_append, List.drop_append_of_le_length (by rw [colB_len]; omega), colB_drop, drop_consP h, ← List.append_assoc]
    rfl
  exact n2at_of (by rw [e]; rfl) h0 h1

theorem sPre_len (n : Nat) : (sPre n).length = 8 := rfl

/-- What is asked of runs. -/
structure RsOK (rs : List Rn) : Prop where
  n0 : 1 ≤ rs.length
  n1 : rs.length ≤ 8000
  ok : rnOK 65535 (-1) rs
  g : ∀ x ∈ rs, 0 ≤ x.g ∧ x.g ≤ 65535
  last : ∀ x, rs[rs.length - 1]? = some x → x.b = 65535

section
variable {rs : List Rn} (h : RsOK rs)
include h

theorem sg_at {i : Nat} {x : Rn} (hx : rs[i]? = some x) : (rs.map sgR)[i]? = some (sgR x) := by rw [List.getElem?_map, hx]; rfl

theorem RsOK.facts {i : Nat} {x : Rn} (hx : rs[i]? = some x) : sqAt (sTab (rs.map sgR)) rs.length i = ⟨x.a, x.b, (x.g - x.a) % 65536, 0⟩ := by
  have a1 := rnOK_at h.ok hx
  have a2 := h.g x (List.mem_of_getElem? hx)
  have hs := sg_at h hx
  have hl : (rs.map sgR).length = rs.length := by simp
  have f1 : n2at (sTab (rs.map sgR)) (14 + 2 * i) = x.b := n2at_col (val := Sg.b) (pre := sPre rs.length ++ srB rs.length) (post := b2 0 ++ colB Sg.a (rs.map sgR) ++ colB Sg.d (rs.map sgR) ++ colB (fun _ => 0) (rs.map sgR)) (by unfold sTab; rw [hl]; simp) rfl hs (by simp only [sgR]; omega) (by simp only [sgR]; omega)
  have f2 : n2at (sTab (rs.map sgR)) (16 + 2 * rs.length + 2 * i) = x.a := n2at_col (val := Sg.a) (pre := sPre rs.length ++ srB rs.length ++ colB Sg.b (rs.map sgR) ++ b2 0) (post := colB Sg.d (rs.map sgR) ++ colB (fun _ => 0) (rs.map sgR)) (by unfold sTab; rw [hl]; simp) (by simp [sPre_len, srB_len, colB_len, b2]; omega) hs (by simp only [sgR]; omega) (by simp only [sgR]; omega)
  have f3 : n2at (sTab (rs.map sgR)) (16 + 4 * rs.length + 2 * i) = (x.g - x.a) % 65536 := n2at_col (val := Sg.d) (pre := sPre rs.length ++ srB rs.length ++ colB Sg.b (rs.map sgR) ++ b2 0 ++ colB Sg.a (rs.map sgR)) (post := colB (fun _ => 0) (rs.map sgR)) (by unfold sTab; rw [hl]) (by simp [sPre_len, srB_len, colB_len, b2]; omega) hs (by simp only [sgR]; omega) (by simp only [sgR]; omega)
  have f4 : n2at (sTab (rs.map sgR)) (16 + 6 * rs.length + 2 * i) = 0 := n2at_col (val := fun _ => 0) (pre := sPre rs.length ++ srB rs.length ++ colB Sg.b (rs.map sgR) ++ b2 0 ++ colB Sg.a (rs.map sgR) ++ colB Sg.d (rs.map sgR)) (post := []) (by unfold sTab; rw [hl]; simp) (by simp [sPre_len, srB_len, colB_len, b2]; omega) hs (by omega) (by omega)
  unfold sqAt
  rw [f1, f2, f3, f4]

theorem RsOK.ends {i : Nat} {x : Rn} (hx : rs[i]? = some x) : n2at (sTab (rs.map sgR)) (14 + 2 * i) = x.b := congrArg Sq.b (h.facts hx)

theorem RsOK.len : (sTab (rs.map sgR)).length = 16 + 8 * rs.length := by
  unfold sTab
  simp [sPre_len, srB_len, colB_len, b2]
  omega

theorem RsOK.n : n2at (sTab (rs.map sgR)) 6 = 2 * (rs.length : Int) := by
  have := h.n1
  have hl : (rs.map sgR).length = rs.length := by simp
  exact n2at_of (by unfold sTab; rw [hl]; rfl) (by omega) (by omega)
theorem RsOK.sN : sN (sTab (rs.map sgR)) = rs.length := by unfold Go.Proofs.YthkaeimpflggjaaDoor.sN; rw [h.n]; omega

theorem RsOK.right : sRight (sTab (rs.map sgR)) = true := by
  have n0 := h.n0
  have n1 := h.n1
  have hl : (rs.map sgR).length = rs.length := by simp
  have f0 : n2at (sTab (rs.map sgR)) 0 = 4 := n2at_of (by rfl) (by omega) (by omega)
  have f2 : n2at (sTab (rs.map sgR)) 2 = 2 * (8 + 4 * (rs.length : Int)) := n2at_of (by unfold sTab; rw [hl]; rfl) (by omega) (by omega)
  have hb := srL_bound n0 (show rs.length < 32768 by omega)
  have f8 : n2at (sTab (rs.map sgR)) 8 = 2 * ((2 ^ expoS rs.length : Nat) : Int) := by have := hb _ (show _ ∈ srL rs.length from List.mem_cons_self); exact n2at_of (by unfold sTab; rw [hl]; rfl) this.1 this.2
  have f10 : n2at (sTab (rs.map sgR)) 10 = (expoS rs.length : Int) := by have := hb _ (show (expoS rs.length : Int) ∈ srL rs.length from by simp [srL]); exact n2at_of (by unfold sTab; rw [hl]; rfl) this.1 this.2
  have f12 : n2at (sTab (rs.map sgR)) 12 = 2 * (rs.length : Int) - 2 * ((2 ^ expoS rs.length : Nat) : Int) := by have := hb _ (show (2 * (rs.length : Int) - 2 * ((2 ^ expoS rs.length : Nat) : Int)) ∈ srL rs.length from by simp [srL]); exact n2at_of (by unfold sTab; rw [hl]; rfl) this.1 this.2
  unfold sRight sFront sCnt sCnt0 sTold
  rw [h.sN, f0, f2, f8, f10, f12, h.n, h.len]
  obtain ⟨y, hy⟩ := getP (l := rs) (j := rs.length - 1) (by omega)
  have hyb := h.last y hy
  have fe : n2at (sTab (rs.map sgR)) (12 + 2 * rs.length) = 65535 := by have := h.ends hy; rw [show 14 + 2 * (rs.length - 1) = 12 + 2 * rs.length by omega, hyb] at this; exact this
  have fz : n2at (sTab (rs.map sgR)) (14 + 2 * rs.length) = 0 := by
    have e : (sTab (rs.map sgR)).drop (14 + 2 * rs.length) = b2 0 ++ (colB Sg.a (rs.map sgR) ++ colB Sg.d (rs.map sgR) ++ colB (fun _ => 0) (rs.map sgR)) := by
      have hx : sTab (rs.map sgR) = (sPre rs.length ++ srB rs.length ++ colB Sg.b (rs.map sgR)) ++ (b2 0 ++ (colB Sg.a (rs.map sgR) ++ colB Sg.d (rs.map sgR) ++ colB (fun _ => 0) (rs.map sgR))) := by unfold sTab; rw [hl]; simp
      have hxl : (sPre rs.length ++ srB rs.length ++ colB Sg.b (rs.map sgR)).length = 14 + 2 * rs.length := by simp [sPre_len, srB_len, colB_len]; omega
      rw [hx, ← hxl, List.drop_left]
    exact n2at_of (by rw [e]; rfl) (by omega) (by omega)
  have hoks : sOkK (sTab (rs.map sgR)) rs.length rs.length = true := by
    unfold sOkK
    rw [List.all_eq_true]
    intro i hi
    have hi' := List.mem_range.1 hi
    obtain ⟨x, hx⟩ := getP (l := rs) (j := i) hi'
    have a1 := rnOK_at h.ok hx
    unfold sOkAt sOff
    rw [h.facts hx]
    have hle : sLeast (sTab (rs.map sgR)) i ≤ x.a := by
      unfold sLeast
      split
      · omega
      · obtain ⟨j, rfl⟩ : ∃ j, i = j + 1 := ⟨i - 1, by omega⟩
        obtain ⟨z, hz⟩ := getP (l := rs) (j := j) (by omega)
        have := rnOK_next h.ok hz hx
        rw [show 12 + 2 * (j + 1) = 14 + 2 * j by omega, h.ends hz]
        omega
    simp only [decide_eq_true hle, decide_eq_true a1.2.1]
    rfl
  have hend : sEnd (sTab (rs.map sgR)) rs.length = true := by unfold sEnd; rw [fe, fz]; rfl
  rw [hoks, hend]
  have q1 : decide (24 ≤ 2 * (8 + 4 * (rs.length : Int))) = true := decide_eq_true (by omega)
  have q2 : decide (2 * (8 + 4 * (rs.length : Int)) ≤ ((16 + 8 * rs.length : Nat) : Int)) = true := decide_eq_true (by omega)
  have q3 : decide (2 * (8 + 4 * (rs.length : Int)) % 2 = 0) = true := decide_eq_true (by omega)
  have q4 : decide (2 * (rs.length : Int) % 2 = 0) = true := decide_eq_true (by omega)
  have q5 : decide (2 * (rs.length : Int) / 2 ≠ 0) = true := decide_eq_true (by omega)
  have q6 : decide (16 + 8 * (2 * (rs.length : Int) / 2) ≤ 2 * (8 + 4 * (rs.length : Int))) = true := decide_eq_true (by omega)
  have q7 : decide ([2 * ((2 ^ expoS rs.length : Nat) : Int), (expoS rs.length : Int), 2 * (rs.length : Int) - 2 * ((2 ^ expoS rs.length : Nat) : Int)] = srL rs.length) = true := decide_eq_true rfl
  rw [q1, q2, q3, q4, q5, q6, q7]
  rfl

theorem RsOK.look (code : Int) : ∀ (f i : Nat), i + f = rs.length → lookS (sTab (rs.map sgR)) rs.length code i f = lookR (rs.drop i) code
  | 0, i, hi => by rw [List.drop_of_length_le (by omega)]; rfl
  | f + 1, i, hi => by
    obtain ⟨x, hx⟩ := getP (l := rs) (j := i) (by omega)
    have ih := RsOK.look code f (i + 1) (by omega)
    rw [lookS, h.ends hx, drop_consP hx]
    unfold lookR
    rw [findR]
    by_cases hc : code ≤ x.b
    · rw [if_pos hc, if_pos hc]
      unfold valS
      rw [h.facts hx]
      simp only
      by_cases ha : x.a ≤ code
      · rw [if_pos ha, if_pos ha, if_pos trivial]
        omega
      · rw [if_neg ha, if_neg ha]
    · rw [if_neg hc, if_neg hc, ih]
      rfl

end

theorem sTab_bytes (l : List Sg) : Bytes (sTab l) := by
  have hc : ∀ (val : Sg → Int) (l : List Sg), Bytes (colB val l) := by
    intro val l y hy
    unfold colB at hy
    obtain ⟨x, _, hx⟩ := List.mem_flatMap.1 hy
    exact b2_bytes _ y hx
  unfold sTab sPre srB
  refine bytes_append (bytes_append (bytes_append (bytes_append (bytes_append (bytes_append ?_ ?_) (hc _ _)) (b2_bytes _)) (hc _ _)) (hc _ _)) (hc _ _)
  · exact bytes_append (b2_bytes _) (bytes_append (b2_bytes _) (bytes_append (b2_bytes _) (b2_bytes _)))
  · exact bytes_append (b2_bytes _) (bytes_append (b2_bytes _) (b2_bytes _))

theorem lookR_last (code : Int) : ∀ (rs : List Rn) (ah : Int), rnOK 65534 ah rs → lookR (rs ++ [sgL]) code = lookR rs code
  | [], _, _ => by
    show lookR [sgL] code = lookR [] code
    unfold lookR
    rw [findR, findR]
    by_cases h : code ≤ sgL.b
    · rw [if_pos h]
      simp only
      split
      · simp [sgL] at *; omega
      · rfl
    · rw [if_neg h]
      rfl
  | x :: r, ah, h => by
    obtain ⟨h1, h2, h3, h4⟩ := h
    have ih := lookR_last code r x.b h4
    unfold lookR at ih ⊢
    rw [List.cons_append, findR, findR]
    by_cases hc : code ≤ x.b
    · rw [if_pos hc, if_pos hc]
    · rw [if_neg hc, if_neg hc]
      exact ih

theorem rnOK_last : ∀ (rs : List Rn) (ah : Int), ah ≤ 65534 → rnOK 65534 ah rs → rnOK 65535 ah (rs ++ [sgL])
  | [], ah, ha, _ => ⟨by simp [sgL]; omega, by simp [sgL], by simp [sgL], trivial⟩
  | x :: r, ah, ha, h => by
    obtain ⟨h1, h2, h3, h4⟩ := h
    exact ⟨h1, h2, by omega, rnOK_last r x.b h3 h4⟩

/-- Of pairs that rise below ffff. -/
theorem sOut_right {l : List Pr} (hg : PrG l) (h : risesF 65534 (-1) l = true) (hl : l.length ≤ 7999) :
    sOut l = sTab ((sRuns l).map sgR) ∧ sRight (sOut l) = true ∧ sN (sOut l) = (runsF folS l).length + 1 ∧ (∀ code, lookS (sOut l) ((runsF folS l).length + 1) code 0 ((runsF folS l).length + 1) = glyphOf code l) ∧ Bytes (sOut l) ∧ (sOut l).length = 16 + 8 * ((runsF folS l).length + 1) := by
  have hlen := runsF_len folS l
  have hrl : (sRuns l).length = (runsF folS l).length + 1 := by unfold sRuns; simp
  have hok := runs_ok folS_code 65534 l (-1) h
  have hr : RsOK (sRuns l) := ⟨by omega, by omega, rnOK_last _ _ (by omega) hok, fun x hx => by
    unfold sRuns at hx
    rcases List.mem_append.1 hx with hx | hx
    · exact runsS_g l hg x hx
    · simp at hx; subst hx; simp [sgL], fun x hx => by
    unfold sRuns at hx
    simp at hx
    subst hx
    rfl⟩
  have e : sOut l = sTab ((sRuns l).map sgR) := by
    unfold sOut sGood
    rw [h, decide_eq_true (by omega)]
    rfl
  rw [e, ← hrl]
  refine ⟨rfl, hr.right, hr.sN, fun code => ?_, sTab_bytes _, hr.len⟩
  rw [hr.look code _ 0 (by omega), List.drop_zero]
  unfold sRuns
  rw [lookR_last code _ (-1) hok, lookS_runs 65534 code l (-1) hg h]

theorem sOut_nil {l : List Pr} (h : risesF 65534 (-1) l = false) : sOut l = [] := by unfold sOut sGood; rw [h]; rfl

end Go.Proofs.YthkaeimpflggjaaDoor
