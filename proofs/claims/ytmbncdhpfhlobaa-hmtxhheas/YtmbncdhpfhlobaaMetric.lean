/- Metrics, the program's and the document's, as pairs of numbers; slices of them. -/
import Derived.Test.YtmbncdhpfhlobaaStructs
import Derived.Test.YtmbncdhpfhlobaaRef
import Derived.Lib.SmallJoins
namespace Go.Proofs.Ytmbncdhpfhlobaa
open Go.RowKit Go.Joins Go.ChangeShapes Go.WideShapes
set_option linter.unusedVariables false

/-- Advance and Left. -/
abbrev Mt := Int × Int
def encM (m : Mt) : List Value := [.int .u16 m.1, .int .i16 m.2]
def encR (m : Mt) : List Value := [.int .i64 m.1, .int .i64 m.2]
theorem encM_len (m : Mt) : (encM m).length = 2 := rfl
theorem encR_len (m : Mt) : (encR m).length = 2 := rfl
theorem encM_one (m : Mt) : ∀ u ∈ encM m, u.oneCell' = true := by intro u hu; simp [encM] at hu; rcases hu with rfl | rfl <;> rfl
theorem encR_one (m : Mt) : ∀ u ∈ encR m, u.oneCell' = true := by intro u hu; simp [encR] at hu; rcases hu with rfl | rfl <;> rfl
theorem Try.mtinfo : (Try.prog.info? 41).map (fun i => (i.zero, i.size, i.bytes)) = some (some (.agg #[.int .u16 0, .int .i16 0]), 2, 4) := by kernel_rfl
theorem Try.rminfo : (Try.prog.info? 48).map (fun i => (i.zero, i.size, i.bytes)) = some (some (.agg #[.int .i64 0, .int .i64 0]), 2, 16) := by kernel_rfl
theorem Try.cellsMt : Try.prog.cellsOf 41 = 2 := by kernel_rfl
theorem Try.cellsU16 : Try.prog.cellsOf 28 = 1 := by kernel_rfl
theorem Try.cellsI16 : Try.prog.cellsOf 39 = 1 := by kernel_rfl

/-- Numbers that they may have. -/
def OkM (l : List Mt) : Prop := ∀ m ∈ l, 0 ≤ m.1 ∧ m.1 ≤ 65535 ∧ -32768 ≤ m.2 ∧ m.2 ≤ 32767

section
variable {H : Type} {enc : TypeId × Value → H} {W : World} {base : Nat} {v : Value} {d : DataW H} {p : List MemPlace}

set_option maxRecDepth 100000 in
theorem read_mt {m : Nat} {cs : List Value} {y : DataW H × List MemPlace} (h : DataW.trod enc Try.prog W 0 (fun _ => true) true m 41 cs = some y) : ∃ q : Mt, cs = encM q ∧ 0 ≤ q.1 ∧ q.1 ≤ 65535 ∧ -32768 ≤ q.2 ∧ q.2 ≤ 32767 := by
  obtain ⟨xs, n, _, _, hl, hxl, hf⟩ := DataW.trod_struct Try.underlying41 h
  rw [Try.cellsMt] at hl
  match cs, hl with
  | [c0, c1], _ =>
    match xs, hxl with
    | [y0, y1], _ =>
      have h0 := hf 0 _ rfl
      have h1 := hf 1 _ rfl
      simp [Try.cellsU16, Try.cellsI16] at h0 h1
      obtain ⟨a, e0, _, wa⟩ := DataW.trod_int Try.underlying28 h0
      obtain ⟨b, e1, _, wb⟩ := DataW.trod_int Try.underlying39 h1
      simp at e0 e1
      subst e0 e1
      have h2 := bounds_u16 wa
      have h3 := bounds_i16 wb
      exact ⟨(a, b), rfl, by omega, by omega, by omega, by omega⟩

set_option maxRecDepth 100000 in
theorem open_mts (hv : Value.okWide Try.prog W .any base 22 v) (h : DataW.Trod enc Try.prog W 0 (fun _ => true) true 22 v d p) :
    ∃ A len cap l, v = .slice A len cap ∧ RowS encM 2 W A len l ∧ OkM l ∧ len ≤ 9223372036854775807 ∧ len ≤ cap := by
  obtain ⟨a, len, cap, rfl⟩ := okWide_slice Try.underlying22 hv
  refine ⟨a, len, cap, ?_⟩
  rcases open_sliceK Try.underlying22 Try.cellsMt h with ⟨rfl, rfl, rfl⟩ | ⟨x, rfl, hl, hm, hi⟩
  · exact ⟨[], rfl, RowS.empty _ _, fun m hm => (by cases hm), by omega, by omega⟩
  · obtain ⟨l, hll, hp⟩ := list_of (p := fun i (q : Mt) => (∀ j u, (encM q)[j]? = some u → W.cell? (x.add (i * 2 + j)) = some u) ∧ 0 ≤ q.1 ∧ q.1 ≤ 65535 ∧ -32768 ≤ q.2 ∧ q.2 ≤ 32767) len (fun i hlt => by
      obtain ⟨cs, m, y, hcl, hc, ht⟩ := hi i hlt
      obtain ⟨q, rfl, hq⟩ := read_mt ht
      refine ⟨q, fun j u hu => ?_, hq⟩
      have hj : j < 2 := (List.getElem?_eq_some_iff.1 hu).1
      rw [hc j hj]
      exact hu)
    simp only [maxLen] at hm
    refine ⟨l, rfl, rowS_in encM_len l hll (fun i y hy => (hp i y hy).1), fun m hm' => ?_, by omega, hl⟩
    obtain ⟨i, hi'⟩ := List.mem_iff_getElem?.1 hm'
    exact (hp i m hi').2
end

/-- Are two lists alike? -/
def sameM (a b : List Mt) : Bool := decide (a = b)
theorem sameM_refl (l : List Mt) : sameM l l = true := by simp [sameM]

section
variable {w : World} {A : Option Addr} {n : Nat} {l : List Mt} {j : Nat} {m : Mt}
theorem atM (h : RowS encM 2 w A n l) (hj : l[j]? = some m) : ∃ g off, A = some ⟨g, off, none⟩ ∧ g < w.heap.size ∧ w.cell? ⟨g, off + j * 2, none⟩ = some (.int .u16 m.1) ∧ w.cell? ⟨g, off + j * 2 + 1, none⟩ = some (.int .i16 m.2) := by
  obtain ⟨g, off, e, hg, hc⟩ := h.at encM_len (by omega) hj
  exact ⟨g, off, e, hg, hc 0 _ rfl, hc 1 _ rfl⟩
theorem atR (h : RowS encR 2 w A n l) (hj : l[j]? = some m) : ∃ g off, A = some ⟨g, off, none⟩ ∧ g < w.heap.size ∧ w.cell? ⟨g, off + j * 2, none⟩ = some (.int .i64 m.1) ∧ w.cell? ⟨g, off + j * 2 + 1, none⟩ = some (.int .i64 m.2) := by
  obtain ⟨g, off, e, hg, hc⟩ := h.at encR_len (by omega) hj
  exact ⟨g, off, e, hg, hc 0 _ rfl, hc 1 _ rfl⟩
theorem getM (h : j < l.length) : ∃ m, l[j]? = some m := ⟨_, List.getElem?_eq_getElem h⟩
end

set_option maxRecDepth 100000 in
set_option maxHeartbeats 400000 in
theorem equalM_any (A B : Option Addr) (n c m d : Nat) (xs ys : List Mt) (w : World) (hx : RowS encM 2 w A n xs) (hy : RowS encM 2 w B m ys) (hl : n ≤ 140737488355328) (hl' : m ≤ 140737488355328) :
    Calls Try.prog 21 #[.slice A n c, .slice B m d] w (Quiet w (.bool (sameM xs ys))) := by
  have Hx := Lib.hid hx.len
  have Hy := Lib.hid hy.len
  by_cases hnm : n = m
  · subst hnm
    have hne : ((n : Int) != (n : Int)) = false := by simp
    go_enter Try.func21, Try.ntmps21
    go_wp2
    clear hne
    go_loopw [13] (fun i wr => ∃ k q : Nat, k ≤ n ∧ i = .int .i64 k ∧ xs.take k = ys.take k ∧ wr = w.drewN q) (fun i _ => n - (intOf i).toNat)
    case atStart => exact ⟨0, 0, Nat.zero_le _, rfl, by simp, rfl⟩
    case round =>
      obtain ⟨k, q, hk, rfl, hp, rfl⟩ := hrel
      have Hp := Lib.hid hp
      clear hp
      by_cases hlt : k < n
      · obtain ⟨x, ex⟩ := getM (l := xs) (j := k) (by have := Hx.out; omega)
        obtain ⟨y, ey⟩ := getM (l := ys) (j := k) (by have := Hy.out; omega)
        obtain ⟨g, off, rfl, hg, hc0, hc1⟩ := atM hx ex
        obtain ⟨g', off', rfl, hg', hc0', hc1'⟩ := atM hy ey
        have Ex := Lib.hid ex
        have Ey := Lib.hid ey
        clear ex ey
        obtain ⟨x1, x2⟩ := x
        obtain ⟨y1, y2⟩ := y
        simp only at hc0 hc1 hc0' hc1'
        by_cases he : x1 = y1 ∧ x2 = y2
        · obtain ⟨h1, h2⟩ := he
          have He : Hid ((x1, x2) = (y1, y2)) := by show (x1, x2) = (y1, y2); rw [h1, h2]
          subst h1 h2
          go_wp2
          go_quiet (fail)
          go_wp2
          go_roundw
          case rel => exact ⟨k + 1, _, by omega, by go_num, by rw [List.take_add_one, List.take_add_one, Ex.out, Ey.out, Hp.out], by first | rfl | (rw [World.drewN_drewN])⟩
          case measure => simp [intOf]; omega
        · have He : Hid (¬ (x1, x2) = (y1, y2)) := by show ¬ _; intro h; exact he (by simpa using h)
          have hf : sameM xs ys = false := by
            unfold sameM
            rw [decide_eq_false_iff_not]
            rintro rfl
            have e1 := Ex.out
            rw [Ey.out] at e1
            exact He.out (Option.some.inj e1).symm
          have Hf := Lib.hid hf
          clear hf
          by_cases h1 : x1 = y1
          · have h2 : ¬ x2 = y2 := fun h => he ⟨h1, h⟩
            subst h1
            have b2 : (x2 == y2) = false := by simp [h2]
            clear he h2
            go_wp2
            go_quiet (fail)
            go_wp2
            go_ret
            exact ⟨by rw [Hf.out]; rfl, _, by first | rfl | (rw [World.drewN_drewN])⟩
          · have b1 : (x1 == y1) = false := by simp [h1]
            clear he h1
            go_wp2
            go_quiet (fail)
            go_wp2
            go_ret
            exact ⟨by rw [Hf.out]; rfl, _, by first | rfl | (rw [World.drewN_drewN])⟩
      · go_wp2
        go_ret
        refine ⟨?_, q, rfl⟩
        have hp := Hp.out
        rw [List.take_of_length_le (by have := Hx.out; omega), List.take_of_length_le (by have := Hy.out; omega)] at hp
        have hf : sameM xs ys = true := by unfold sameM; simp [hp]
        rw [hf]
        rfl
  · have hne : ((n : Int) != (m : Int)) = true := by simp; omega
    go_enter Try.func21, Try.ntmps21
    go_wp2
    go_ret
    refine ⟨?_, 0, rfl⟩
    have hf : sameM xs ys = false := by
      unfold sameM
      rw [decide_eq_false_iff_not]
      rintro rfl
      have := Hx.out
      have := Hy.out
      omega
    rw [hf]
    rfl

set_option maxRecDepth 100000 in
set_option maxHeartbeats 400000 in
theorem equalR_any (A B : Option Addr) (n c m d : Nat) (xs ys : List Mt) (w : World) (hx : RowS encR 2 w A n xs) (hy : RowS encR 2 w B m ys) (hl : n ≤ 140737488355328) (hl' : m ≤ 140737488355328) :
    Calls Try.prog 24 #[.slice A n c, .slice B m d] w (Quiet w (.bool (sameM xs ys))) := by
  have Hx := Lib.hid hx.len
  have Hy := Lib.hid hy.len
  by_cases hnm : n = m
  · subst hnm
    have hne : ((n : Int) != (n : Int)) = false := by simp
    go_enter Try.func24, Try.ntmps24
    go_wp2
    clear hne
    go_loopw [13] (fun i wr => ∃ k q : Nat, k ≤ n ∧ i = .int .i64 k ∧ xs.take k = ys.take k ∧ wr = w.drewN q) (fun i _ => n - (intOf i).toNat)
    case atStart => exact ⟨0, 0, Nat.zero_le _, rfl, by simp, rfl⟩
    case round =>
      obtain ⟨k, q, hk, rfl, hp, rfl⟩ := hrel
      have Hp := Lib.hid hp
      clear hp
      by_cases hlt : k < n
      · obtain ⟨x, ex⟩ := getM (l := xs) (j := k) (by have := Hx.out; omega)
        obtain ⟨y, ey⟩ := getM (l := ys) (j := k) (by have := Hy.out; omega)
        obtain ⟨g, off, rfl, hg, hc0, hc1⟩ := atR hx ex
        obtain ⟨g', off', rfl, hg', hc0', hc1'⟩ := atR hy ey
        have Ex := Lib.hid ex
        have Ey := Lib.hid ey
        clear ex ey
        obtain ⟨x1, x2⟩ := x
        obtain ⟨y1, y2⟩ := y
        simp only at hc0 hc1 hc0' hc1'
        by_cases he : x1 = y1 ∧ x2 = y2
        · obtain ⟨h1, h2⟩ := he
          have He : Hid ((x1, x2) = (y1, y2)) := by show (x1, x2) = (y1, y2); rw [h1, h2]
          subst h1 h2
          go_wp2
          go_quiet (fail)
          go_wp2
          go_roundw
          case rel => exact ⟨k + 1, _, by omega, by go_num, by rw [List.take_add_one, List.take_add_one, Ex.out, Ey.out, Hp.out], by first | rfl | (rw [World.drewN_drewN])⟩
          case measure => simp [intOf]; omega
        · have He : Hid (¬ (x1, x2) = (y1, y2)) := by show ¬ _; intro h; exact he (by simpa using h)
          have hf : sameM xs ys = false := by
            unfold sameM
            rw [decide_eq_false_iff_not]
            rintro rfl
            have e1 := Ex.out
            rw [Ey.out] at e1
            exact He.out (Option.some.inj e1).symm
          have Hf := Lib.hid hf
          clear hf
          by_cases h1 : x1 = y1
          · have h2 : ¬ x2 = y2 := fun h => he ⟨h1, h⟩
            subst h1
            have b2 : (x2 == y2) = false := by simp [h2]
            clear he h2
            go_wp2
            go_quiet (fail)
            go_wp2
            go_ret
            exact ⟨by rw [Hf.out]; rfl, _, by first | rfl | (rw [World.drewN_drewN])⟩
          · have b1 : (x1 == y1) = false := by simp [h1]
            clear he h1
            go_wp2
            go_quiet (fail)
            go_wp2
            go_ret
            exact ⟨by rw [Hf.out]; rfl, _, by first | rfl | (rw [World.drewN_drewN])⟩
      · go_wp2
        go_ret
        refine ⟨?_, q, rfl⟩
        have hp := Hp.out
        rw [List.take_of_length_le (by have := Hx.out; omega), List.take_of_length_le (by have := Hy.out; omega)] at hp
        have hf : sameM xs ys = true := by unfold sameM; simp [hp]
        rw [hf]
        rfl
  · have hne : ((n : Int) != (m : Int)) = true := by simp; omega
    go_enter Try.func24, Try.ntmps24
    go_wp2
    go_ret
    refine ⟨?_, 0, rfl⟩
    have hf : sameM xs ys = false := by
      unfold sameM
      rw [decide_eq_false_iff_not]
      rintro rfl
      have := Hx.out
      have := Hy.out
      omega
    rw [hf]
    rfl

end Go.Proofs.Ytmbncdhpfhlobaa
