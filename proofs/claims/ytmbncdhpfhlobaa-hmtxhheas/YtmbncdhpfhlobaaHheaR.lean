/- What hmtx.readHhea answers, and a Hhea that comes in, as contracts over this seat's translation. -/
import Derived.Test.YtmbncdhpfhlobaaHhea
import Derived.Test.YtmbncdhpfhlobaaRdBox
import Derived.Test.YtmbncdhpfhlobaaWin
import Derived.Laws.Tables
import Derived.Laws.Rows
import Derived.Lib.SmallJoins
import Derived.ChangeSame
import Derived.OpenShut
import Derived.Deep.DeepCutAuto
namespace Go.Proofs.Ytmbncdhpfhlobaa
open Go.RowKit Go.Joins Go.ChangeShapes Go.WideShapes
set_option linter.unusedVariables false

abbrev hhZ : Array Value := #[.int .u16 0, .int .u16 0, .int .u16 0, .int .u16 0, .int .u16 0, .int .u16 0, .int .u16 0, .int .u16 0, .int .u16 0, .int .u16 0, .int .u16 0, .int .u16 0, .int .u16 0, .int .u16 0, .int .u16 0, .int .u16 0, .int .u16 0]
/-- What is read of thirty-six bytes. -/
def hhOf (zs : List Int) : Hh := ⟨n2at zs 2, n2at zs 4, n2at zs 6, n2at zs 8, n2at zs 10, n2at zs 12, n2at zs 14, n2at zs 16, n2at zs 18, n2at zs 20, n2at zs 22, n2at zs 24, n2at zs 26, n2at zs 28, n2at zs 30, n2at zs 32, n2at zs 34⟩
/-- The cells when k numbers have been read. -/
def hhPart (zs : List Int) (k : Nat) : List Value := (List.range 17).map fun j => .int .u16 (if j < k then n2at zs (2 + 2 * j) else 0)

theorem hhPart_at (zs : List Int) (k : Nat) (hk : k < 17) : (hhPart zs k)[k]? = some (.int .u16 0) := by
  unfold hhPart
  rw [List.getElem?_map, List.getElem?_range hk]
  simp
theorem hhPart_set (zs : List Int) (k : Nat) (hk : k < 17) : (hhPart zs k).toArray.setIfInBounds k (.int .u16 (n2at zs (2 + 2 * k))) = (hhPart zs (k + 1)).toArray := by
  rw [List.setIfInBounds_toArray]
  congr 1
  unfold hhPart
  apply List.ext_getElem?
  intro j
  rw [List.getElem?_set]
  by_cases hj : j < 17
  · rw [List.getElem?_map, List.getElem?_map, List.getElem?_range hj]
    by_cases e : k = j
    · subst e
      simp [hj]
    · rw [if_neg e]
      simp only [Option.map_some]
      congr 2
      by_cases h1 : j < k
      · rw [if_pos h1, if_pos (by omega)]
      · rw [if_neg h1, if_neg (by omega)]
  · rw [List.getElem?_eq_none (by simp; omega), List.getElem?_eq_none (by simp; omega)]
    split
    · split
      · rename_i h; simp at h; omega
      · rfl
    · rfl

/-- A store of a whole row into what is younger. -/
theorem grown_row {w wr : World} {row : Option Nat} {g : Nat} (hg : w.heap.size ≤ g) (cs : Array Value) (h : w.grownBy wr row) : w.grownBy (wr.setRow g cs) row :=
  ⟨h.os, h.tape, h.output, by simpa using h.size, fun k hk hne => (setRow_other wr g k cs (by omega)).trans (h.block k hk hne)⟩
theorem hhPart_all (zs : List Int) : (hhPart zs (16 + 1)).toArray = hhC (hhOf zs) := by
  simp [hhPart, hhC, hhOf, show List.range 17 = [0, 1, 2, 3, 4, 5, 6, 7, 8, 9, 10, 11, 12, 13, 14, 15, 16] from rfl]
theorem hhPart_last (zs : List Int) : (hhPart zs 16).toArray.setIfInBounds 16 (.int .u16 (n2at zs 34)) = hhC (hhOf zs) := by
  have h := hhPart_set zs 16 (by omega)
  rw [hhPart_all] at h
  exact h
theorem hhPart_none (zs : List Int) : (hhPart zs 0).toArray = hhZ := by
  simp [hhPart, hhZ, show List.range 17 = [0, 1, 2, 3, 4, 5, 6, 7, 8, 9, 10, 11, 12, 13, 14, 15, 16] from rfl]

set_option maxRecDepth 100000 in
set_option maxHeartbeats 4000000 in
theorem hread_any (B b : Nat) (zs : List Int) (w : World) (h : Rd w B b zs 0 false) (hB : Bytes zs) (hl : zs.length = 36) :
    Calls Try.prog 47 #[.pointer (some ⟨b, 0, none⟩)] w (fun e w' => e = .returned (hhV (hhOf zs)) ∧ w.grownBy w' (some b)) := by
  have HB := Lib.hid hB
  have HL := Lib.hid hl
  have h0 := rs_new w hhZ hhZ 52 B b zs h (by decide)
  simp only [hhZ] at h0
  clear hB hl h
  go_enter Try.func47, Try.ntmps47
  go_wp2_with fail
  generalize (w.alloc _).alloc _ = V at *
  refine (u16_any B b _ _ _ V h0.rd (drop_bytes HB.out 0) (by rw [List.length_drop]; have := HL.out; omega) (by omega) (by omega)).mono ?_
  rintro e w1 ⟨rfl, hrd1, hg1⟩
  have h1 : RS _ _ _ _ _ 2 _ _ _ _ _ := h0.ask (m := 2) (by have := HL.out; omega) hrd1 hg1
  clear hrd1 hg1 h0
  have h1' : RS w w1 B b zs 2 w.heap.size hhZ (w.heap.size + 1) hhZ 52 := h1
  rw [← hhPart_none zs] at h1'
  have H3 : Hid (RS w w1 B b zs (2 + 2 * 0) w.heap.size (hhPart zs 0).toArray (w.heap.size + 1) (hhPart zs 0).toArray 52) := h1'
  clear h1 h1'
  go_wp2
  go_loopw [7] (fun i wr => ∃ k : Nat, k ≤ 16 ∧ i = .int .i64 k ∧ RS w wr B b zs (2 + 2 * k) w.heap.size (hhPart zs 0).toArray (w.heap.size + 1) (hhPart zs k).toArray 52) (fun i _ => 16 - (intOf i).toNat)
  case atStart => exact ⟨0, Nat.zero_le _, rfl, H3.out⟩
  case round =>
    clear H3
    obtain ⟨k, hk, rfl, hs⟩ := hrel
    by_cases hlt : k < 16
    · have hk0 : (0 : Int) ≤ (k : Int) := by omega
      have hk1 : (k : Int) < 16 := by omega
      go_wp2_with fail
      refine (u16_any B b _ _ _ wr hs.rd (drop_bytes HB.out _) (by rw [List.length_drop]; have := HL.out; omega) (by omega) (by omega)).mono ?_
      rintro e w3 ⟨rfl, hrd3, hg3⟩
      have h4 := hs.ask (m := 2) (by have := HL.out; omega) hrd3 hg3
      rw [show 2 + 2 * k + 2 = 2 + 2 * (k + 1) by omega] at h4
      clear hrd3 hg3 hs
      have ck := h4.cell2 k _ (by rw [List.getElem?_toArray]; exact hhPart_at zs k (by omega))
      have f0 := h4.thaw2
      have h5 := h4.set2 k (.int .u16 (n2at zs (2 + 2 * k)))
      rw [hhPart_set zs k (by omega)] at h5
      have H5 := Lib.hid h5
      clear h4 h5
      go_wp2
      go_roundw
      case rel => exact ⟨k + 1, by omega, by go_num, H5.out⟩
      case measure => simp [intOf]; omega
    · obtain rfl : k = 16 := by omega
      have hs34 : RS w wr B b zs 34 w.heap.size (hhPart zs 0).toArray (w.heap.size + 1) (hhPart zs 16).toArray 52 := hs
      clear hs
      go_wp2_with fail
      refine (u16_any B b _ _ _ wr hs34.rd (drop_bytes HB.out _) (by rw [List.length_drop]; have := HL.out; omega) (by omega) (by omega)).mono ?_
      rintro e w3 ⟨rfl, hrd3, hg3⟩
      rw [show num (List.drop 34 zs) 2 = n2at zs 34 from rfl]
      have h4 := hs34.ask (m := 2) (by have := HL.out; omega) hrd3 hg3
      clear hrd3 hg3 hs34
      have ck := h4.cell2 16 _ (by rw [List.getElem?_toArray]; exact hhPart_at zs 16 (by omega))
      have f0 := h4.thaw2
      have h5 := h4.set2 16 (.int .u16 (n2at zs 34))
      rw [hhPart_last] at h5
      have H5 := Lib.hid h5
      clear h4 h5
      go_upto_region 9 with fail
      have hs' := H5.out
      rw [hhPart_none zs] at hs'
      generalize w3.setCell _ _ = w4 at *
      clear H5 ck f0
      have k1 := hs'.k1
      have k2 := hs'.k2
      have hg := hs'.gr
      clear hs'
      generalize hm : hhOf zs = m at *
      have Hm := Lib.hid hm
      clear hm
      have KR := Lib.hid (setRow_heap w4 w.heap.size hhZ (hhC m) 52 (0, 0) k1)
      have KG := Lib.hid (grown_row (Nat.le_refl _) (hhC m) hg)
      have SZ := Lib.hid (show hhZ.size = (hhC m).size from rfl)
      have S1 := Lib.hid (show (hhC m).all (·.oneCell') = true by simp [Value.oneCell'])
      have SI := Lib.hid (show (Try.prog.info? 52).map (·.size) = some (hhC m).size by kernel_rfl)
      go_wp2_with (first
        | (with_reducible refine wpList_load_row rfl 52 (.tmp 3) rfl (w.heap.size + 1) rfl 52 (hhC m) (0, 0) _ k2 Try.underlying52 rfl (by kernel_rfl) ?_)
        | (with_reducible refine wpList_store_row rfl 52 (.tmp 2) (.tmp 19) rfl w.heap.size (hhC m) rfl rfl 52 hhZ k1 SI.out SZ.out S1.out ?_))
      exact bodyPost_ret (v := hhV m) (results_cell_row Try.results47 _ _ w.heap.size 52 (hhC m) (0, 0) _ rfl KR.out Try.underlying52 rfl (by kernel_rfl)) rfl ⟨by rw [Hm.out], KG.out⟩

theorem Try.cellsHh : Try.prog.cellsOf 52 = 17 := by kernel_rfl
theorem Try.cellsArr16 : Try.prog.cellsOf 50 = 16 := by kernel_rfl
theorem Try.cellsU16h : Try.prog.cellsOf 28 = 1 := by kernel_rfl

section
variable {H : Type} {enc : TypeId × Value → H} {W : World} {base : Nat} {v : Value} {d : DataW H} {p : List MemPlace}

theorem read_u16h {m : Nat} {c : Value} {y : DataW H × List MemPlace} (h : DataW.trod enc Try.prog W 0 (fun _ => true) true m 28 [c] = some y) : ∃ a, c = .int .u16 a ∧ 0 ≤ a ∧ a < 65536 := by
  obtain ⟨a, e, _, wa⟩ := DataW.trod_int Try.underlying28 h
  simp at e
  subst e
  have := bounds_u16 wa
  exact ⟨a, rfl, by omega⟩

set_option maxRecDepth 100000 in
theorem open_hh (hv : Value.okWide Try.prog W .any base 52 v) (h : DataW.Trod enc Try.prog W 0 (fun _ => true) true 52 v d p) :
    ∃ m : Hh, v = hhV m ∧ m.ok := by
  obtain ⟨cs, rfl, hsz⟩ := okWide_struct Try.underlying52 hv
  obtain ⟨l⟩ := cs
  have hl : l.length = 17 := hsz.trans Try.cellsHh
  obtain ⟨fuel, hf⟩ := h
  obtain ⟨xs, n, _, _, _, hxl, hg⟩ := DataW.trod_struct Try.underlying52 hf
  clear hf hv hsz
  match l, hl with
  | [c0, c1, c2, c3, c4, c5, c6, c7, c8, c9, c10, c11, c12, c13, c14, c15, c16], _ =>
    have h0 := hg 0 _ rfl
    have h1 := hg 1 _ rfl
    match xs, hxl with
    | [y0, y1], _ =>
      simp [Try.cellsArr16, Try.cellsU16h, Value.cells] at h0 h1
      obtain ⟨ys, m, _, _, _, hyl, ha⟩ := DataW.trod_array Try.underlying50 h0
      have key : ∀ i, i < 16 → ∀ c, ([c0, c1, c2, c3, c4, c5, c6, c7, c8, c9, c10, c11, c12, c13, c14, c15] : List Value)[i]? = some c → ∃ a, c = .int .u16 a ∧ 0 ≤ a ∧ a < 65536 := by
        intro i hi c hc
        have h2 := ha i hi
        rw [Try.cellsU16h, Nat.mul_one, List.getElem?_eq_getElem (by omega)] at h2
        obtain ⟨hlt, hce⟩ := List.getElem?_eq_some_iff.1 hc
        rw [List.drop_eq_getElem_cons hlt, List.take_succ_cons, List.take_zero, hce] at h2
        exact read_u16h h2
      obtain ⟨g, rfl, g0⟩ := read_u16h h1
      obtain ⟨r0, rfl, b0⟩ := key 0 (by omega) c0 rfl
      obtain ⟨r1, rfl, b1⟩ := key 1 (by omega) c1 rfl
      obtain ⟨r2, rfl, b2⟩ := key 2 (by omega) c2 rfl
      obtain ⟨r3, rfl, b3⟩ := key 3 (by omega) c3 rfl
      obtain ⟨r4, rfl, b4⟩ := key 4 (by omega) c4 rfl
      obtain ⟨r5, rfl, b5⟩ := key 5 (by omega) c5 rfl
      obtain ⟨r6, rfl, b6⟩ := key 6 (by omega) c6 rfl
      obtain ⟨r7, rfl, b7⟩ := key 7 (by omega) c7 rfl
      obtain ⟨r8, rfl, b8⟩ := key 8 (by omega) c8 rfl
      obtain ⟨r9, rfl, b9⟩ := key 9 (by omega) c9 rfl
      obtain ⟨r10, rfl, b10⟩ := key 10 (by omega) c10 rfl
      obtain ⟨r11, rfl, b11⟩ := key 11 (by omega) c11 rfl
      obtain ⟨r12, rfl, b12⟩ := key 12 (by omega) c12 rfl
      obtain ⟨r13, rfl, b13⟩ := key 13 (by omega) c13 rfl
      obtain ⟨r14, rfl, b14⟩ := key 14 (by omega) c14 rfl
      obtain ⟨r15, rfl, b15⟩ := key 15 (by omega) c15 rfl
      refine ⟨⟨r0, r1, r2, r3, r4, r5, r6, r7, r8, r9, r10, r11, r12, r13, r14, r15, g⟩, rfl, g0, fun x hx => ?_⟩
      simp only [Hh.front, List.mem_cons, List.not_mem_nil, or_false] at hx
      rcases hx with rfl | rfl | rfl | rfl | rfl | rfl | rfl | rfl | rfl | rfl | rfl | rfl | rfl | rfl | rfl | rfl <;> assumption
end

end Go.Proofs.Ytmbncdhpfhlobaa
