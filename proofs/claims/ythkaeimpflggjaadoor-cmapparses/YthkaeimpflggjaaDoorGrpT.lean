/- A table of groups that is built is read as it was: plain lists. -/
import Derived.Test.YthkaeimpflggjaaDoorGrpC
namespace Go.Proofs.YthkaeimpflggjaaDoor
set_option linter.unusedVariables false

theorem rnOK_at {most : Int} : ∀ {l : List Rn} {ah : Int}, rnOK most ah l → ∀ {i : Nat} {x : Rn}, l[i]? = some x → ah < x.a ∧ x.a ≤ x.b ∧ x.b ≤ most
  | [], _, _, i, x, hx => by simp at hx
  | y :: r, ah, h, i, x, hx => by
    obtain ⟨h1, h2, h3, h4⟩ := h
    cases i with
    | zero => simp at hx; subst hx; exact ⟨h1, h2, h3⟩
    | succ i => have := rnOK_at h4 (i := i) (x := x) (by simpa using hx); omega

theorem rnOK_next {most : Int} : ∀ {l : List Rn} {ah : Int}, rnOK most ah l → ∀ {i : Nat} {x y : Rn}, l[i]? = some x → l[i + 1]? = some y → x.b < y.a
  | [], _, _, i, x, y, hx, hy => by simp at hx
  | z :: r, ah, h, i, x, y, hx, hy => by
    obtain ⟨h1, h2, h3, h4⟩ := h
    cases i with
    | zero => simp at hx; subst hx; exact (rnOK_at h4 (i := 0) (x := y) (by simpa using hy)).1
    | succ i => exact rnOK_next h4 (by simpa using hx) (by simpa using hy)

theorem gFlat_drop : ∀ (rs : List Rn) (i : Nat), (rs.flatMap gBody).drop (12 * i) = (rs.drop i).flatMap gBody
  | [], i => by simp
  | x :: r, 0 => by simp
  | x :: r, i + 1 => by
    rw [List.flatMap_cons, show 12 * (i + 1) = (gBody x).length + 12 * i by rw [gBody_len]; omega, List.drop_append, List.drop_of_length_le (by omega), Nat.add_sub_cancel_left, List.nil_append, gFlat_drop r i]
    rfl

theorem gBytes_drop (rs : List Rn) (i : Nat) : (gBytes rs).drop (16 + 12 * i) = (rs.drop i).flatMap gBody := by
  rw [gBytes, show 16 + 12 * i = (gHead rs.length).length + 12 * i by rw [gHead_len], List.drop_append, List.drop_of_length_le (by omega), Nat.add_sub_cancel_left, List.nil_append, gFlat_drop]

theorem gBytes_at (rs : List Rn) {i : Nat} {x : Rn} (h : rs[i]? = some x) (hx : 0 ≤ x.a ∧ x.a ≤ x.b ∧ x.b ≤ 1114111 ∧ 0 ≤ x.g ∧ x.g ≤ 65535) : gAt (gBytes rs) i = x := by
  have hd : (gBytes rs).drop (16 + 12 * i) = b4 x.a ++ (b4 x.b ++ b4 x.g) ++ (rs.drop (i + 1)).flatMap gBody := by
    rw [gBytes_drop, drop_consP h, List.flatMap_cons]
    rfl
  have e1 : n4at (gBytes rs) (16 + 12 * i) = x.a := n4at_of (by rw [hd]; rfl) (by omega) (by omega)
  have e2 : n4at (gBytes rs) (20 + 12 * i) = x.b := n4at_of (by rw [show 20 + 12 * i = 16 + 12 * i + 4 by omega, ← List.drop_drop, hd]; rfl) (by omega) (by omega)
  have e3 : n4at (gBytes rs) (24 + 12 * i) = x.g := n4at_of (by rw [show 24 + 12 * i = 16 + 12 * i + 8 by omega, ← List.drop_drop, hd]; rfl) (by omega) (by omega)
  unfold gAt
  rw [e1, e2, e3]

theorem gBytes_bytes (rs : List Rn) : Bytes (gBytes rs) := by
  have hb : ∀ x, Bytes (gBody x) := fun x => by
    intro y hy
    simp [gBody, b4, b2] at hy
    omega
  have hf : ∀ r : List Rn, Bytes (r.flatMap gBody) := by
    intro r
    induction r with
    | nil => intro y hy; simp at hy
    | cons x r ih => intro y hy; rw [List.flatMap_cons] at hy; exact (List.mem_append.1 hy).elim (hb x y) (ih y)
  intro y hy
  rcases List.mem_append.1 hy with h | h
  · simp [gHead, b4, b2] at h
    omega
  · exact hf rs y h

theorem gBytes_right (rs : List Rn) (hok : rnOK 1114111 (-1) rs) (hfit : ∀ x ∈ rs, 0 ≤ x.g ∧ x.g + (x.b - x.a) ≤ 65535) (hl : rs.length ≤ 1000000) :
    gRight (gBytes rs) = true ∧ gN (gBytes rs) = rs.length ∧ grps (gBytes rs) rs.length = rs := by
  have h12 : n4at (gBytes rs) 12 = (rs.length : Int) := n4at_of (by rfl) (by omega) (by omega)
  have h4 : n4at (gBytes rs) 4 = 16 + (rs.length : Int) * 12 := n4at_of (by rfl) (by omega) (by omega)
  have h0 : n2at (gBytes rs) 0 = 12 := n2at_of (by rfl) (by omega) (by omega)
  have h2 : n2at (gBytes rs) 2 = 0 := n2at_of (by rfl) (by omega) (by omega)
  have hN : gN (gBytes rs) = rs.length := by unfold gN; rw [h12]; simp
  have hat : ∀ i x, rs[i]? = some x → gAt (gBytes rs) i = x := fun i x h => by
    have a1 := rnOK_at hok h
    have a2 := hfit x (List.mem_of_getElem? h)
    exact gBytes_at rs h (by omega)
  refine ⟨?_, hN, ?_⟩
  · unfold gRight
    rw [Bool.and_eq_true]
    constructor
    · unfold gFront
      rw [h0, h2, h4, h12, gBytes_len]
      simp
      omega
    · rw [hN]
      unfold gOkK
      rw [List.all_eq_true]
      intro i hi
      have hi' := List.mem_range.1 hi
      obtain ⟨x, hx⟩ := getP (l := rs) (j := i) hi'
      have a1 := rnOK_at hok hx
      have a2 := hfit x (List.mem_of_getElem? hx)
      have a3 := hat i x hx
      have a4 : n4at (gBytes rs) (16 + 12 * i) = x.a := congrArg Rn.a a3
      unfold gOkAt
      rw [Bool.and_eq_true, a3, a4]
      refine ⟨by unfold gOne; rw [decide_eq_true_eq]; omega, ?_⟩
      rw [decide_eq_true_eq]
      unfold gLeast
      split
      · omega
      · obtain ⟨j, rfl⟩ : ∃ j, i = j + 1 := ⟨i - 1, by omega⟩
        obtain ⟨y, hy⟩ := getP (l := rs) (j := j) (by omega)
        have := rnOK_next hok hy hx
        have a5 : n4at (gBytes rs) (20 + 12 * j) = y.b := congrArg Rn.b (hat j y hy)
        rw [show 8 + 12 * (j + 1) = 20 + 12 * j by omega, a5]
        omega
  · apply List.ext_getElem?
    intro i
    unfold grps
    by_cases hi : i < rs.length
    · obtain ⟨x, hx⟩ := getP (l := rs) (j := i) hi
      rw [hx]
      simp [hi, hat i x hx]
    · rw [List.getElem?_eq_none (by simpa using Nat.le_of_not_lt hi), List.getElem?_eq_none (by simpa using Nat.le_of_not_lt hi)]

/-- Of pairs that rise. -/
theorem gOut_right {l : List Pr} (hg : PrG l) (h : risesF 1114111 (-1) l = true) (hl : l.length ≤ 1000000) :
    gOut l = gBytes (runsF folG l) ∧ gRight (gOut l) = true ∧ gN (gOut l) = (runsF folG l).length ∧ grps (gOut l) (gN (gOut l)) = runsF folG l ∧ Bytes (gOut l) ∧ (gOut l).length = 16 + 12 * (runsF folG l).length := by
  have e : gOut l = gBytes (runsF folG l) := by unfold gOut; rw [h]; rfl
  have hlen := runsF_len folG l
  obtain ⟨h1, h2, h3⟩ := gBytes_right (runsF folG l) (runs_ok folG_code _ _ _ h) (runsG_fit l hg) (by omega)
  rw [e]
  exact ⟨rfl, h1, h2, by rw [h2]; exact h3, gBytes_bytes _, gBytes_len _⟩

theorem gOut_nil {l : List Pr} (h : risesF 1114111 (-1) l = false) : gOut l = [] := by unfold gOut; rw [h]; rfl

end Go.Proofs.YthkaeimpflggjaaDoor
