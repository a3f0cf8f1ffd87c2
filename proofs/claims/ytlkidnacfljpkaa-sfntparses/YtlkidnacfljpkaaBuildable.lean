/- What buildable answers: which tables may be a font, as a contract over this seat's translation. -/
import Derived.Test.YtlkidnacfljpkaaTab
import Derived.Lib.Strings
namespace Go.Proofs.Ytlkidnacfljpkaa
open Go.RowKit
set_option linter.unusedVariables false

/-- Is the tag k of four bytes, and another one than that ahead? -/
def fineB (ts : List (List UInt8)) (k : Nat) : Bool := decide ((ts.getD k []).length = 4 ∧ (k = 0 ∨ ts.getD (k - 1) [] ≠ ts.getD k []))
def tagsB (ts : List (List UInt8)) (n : Nat) : Bool := (List.range n).all (fineB ts)
theorem tagsB_succ (ts : List (List UInt8)) (k : Nat) : tagsB ts (k + 1) = (tagsB ts k && fineB ts k) := by simp [tagsB, List.range_succ]
theorem tagsB_false {ts : List (List UInt8)} {k n : Nat} (hk : k < n) (h : fineB ts k = false) : tagsB ts n = false := by
  unfold tagsB
  rw [List.all_eq_false]
  exact ⟨k, List.mem_range.2 hk, by rw [h]; simp⟩

def tagLs (l : List Tab) : List (List UInt8) := l.map fun t => t.tag.toList
theorem tagLs_get {l : List Tab} {k : Nat} {t : Tab} (h : l[k]? = some t) : (tagLs l).getD k [] = t.tag.toList := by
  rw [List.getD_eq_getElem?_getD, tagLs, List.getElem?_map, h]; rfl
theorem size_toList (s : ByteArray) : s.toList.length = s.size := by rw [ByteArray.toList_eq]; exact (Lib.size_eq s).symm
theorem ret_bool {a b : Bool} (h : a = b) : Ending.returned (.bool a) = .returned (.bool b) := by rw [h]

/-- May these be a font, in this order? -/
def buildB (l : List Tab) : Bool := tagsB (tagLs l) l.length && decide (placeL (12 + 16 * l.length) (l.map Tab.n) ≤ 67108864)

set_option maxHeartbeats 2000000 in
theorem buildable_any (A : Option Addr) (n c : Nat) (l : List Tab) (w : World) (hr : RowS encT 2 w A n l) (hok : ∀ t ∈ l, t.n ≤ 100000000) (hn : n ≤ 1000) (hc : n ≤ c) :
    Calls Try.prog 26 #[.slice A n c] w (Ret w (.bool (buildB l))) := by
  have Hn := Lib.hid hr.len
  have HO := Lib.hid hok
  clear hok
  go_enter Try.func26, Try.ntmps26
  go_wp2
  go_loopw [7] (fun q wr => ∃ k : Nat, k ≤ n ∧ q = .int .i64 k ∧ tagsB (tagLs l) k = true ∧ Below w.heap.size w wr) (fun q _ => n - (intOf q).toNat)
  case atStart => exact ⟨0, Nat.zero_le _, rfl, rfl, Below.refl _ _⟩
  case round =>
    obtain ⟨k, hk, rfl, ht, hb⟩ := hrel
    have HT := Lib.hid ht
    clear ht
    by_cases hlt : k < n
    · obtain ⟨t, ht⟩ : ∃ t, l[k]? = some t := ⟨l[k]'(by have := Hn.out; omega), List.getElem?_eq_getElem (by have := Hn.out; omega)⟩
      obtain ⟨g, off, rfl, hg, hcl⟩ := (hr.below hb).at encT_len (by omega) ht
      have q0 : wr.cell? ⟨g, off + k * 2, none⟩ = some (.string t.tag) := hcl 0 _ rfl
      have q1 : wr.cell? ⟨g, off + k * 2 + 1, none⟩ = some (.slice t.A t.n t.c) := hcl 1 _ rfl
      have hgt := tagLs_get ht
      have Hgt := Lib.hid hgt
      have hb' := hb.alloc hb.size (.cells (encT t).toArray 30)
      have HB := Lib.hid hb'
      clear hcl hb' hgt
      have hne : g ≠ wr.heap.size := by omega
      by_cases h4 : t.tag.size = 4
      · have h4' : (((t.tag.size : Nat) : Int) != 4) = false := by rw [h4]; rfl
        have H4 : Hid (t.tag.toList.length = 4) := by show _ = _; rw [size_toList, h4]
        have H4s := Lib.hid h4
        by_cases hk0 : k = 0
        · subst hk0
          have HF : Hid (tagsB (tagLs l) (0 + 1) = true) := by show _ = _; rw [tagsB_succ, HT.out]; unfold fineB; rw [Hgt.out]; simp [H4.out]
          clear ht h4
          obtain ⟨tag, tA, tn, tc, zs⟩ := t
          simp only [Nat.zero_mul, Nat.add_zero] at q0 q1 h4'
          go_wp2
          go_quiet (fail)
          go_wp2
          go_roundw
          case rel => exact ⟨1, by omega, by go_num, HF.out, below_drewN HB.out _⟩
          case measure => simp [intOf]; omega
        · obtain ⟨j, rfl⟩ : ∃ j, k = j + 1 := ⟨k - 1, by omega⟩
          obtain ⟨s, hs⟩ : ∃ s, l[j]? = some s := ⟨l[j]'(by have := Hn.out; omega), List.getElem?_eq_getElem (by have := Hn.out; omega)⟩
          obtain ⟨g', off', e', _, hcl'⟩ := (hr.below hb).at encT_len (by omega) hs
          simp only [Option.some.injEq, Addr.mk.injEq, and_true] at e'
          obtain ⟨rfl, rfl⟩ := e'
          have p0 : wr.cell? ⟨g, off + j * 2, none⟩ = some (.string s.tag) := hcl' 0 _ rfl
          have hgs := tagLs_get hs
          have Hgs := Lib.hid hgs
          have z1 : IntKind.i64.wrap (((j + 1 : Nat) : Int) - 1) = (j : Int) := by rw [show ((j + 1 : Nat) : Int) - 1 = (j : Int) by omega]; exact IntWalk.i64_in _ (by omega)
          have z2 : (0 : Int) ≤ (j : Int) := by omega
          have z3 : (j : Int) < (n : Int) := by omega
          have z4 : (decide ((0 : Int) < ((j + 1 : Nat) : Int))) = true := by simp
          clear ht h4 hs hcl' hgs
          obtain ⟨tag, tA, tn, tc, zs⟩ := t
          obtain ⟨stag, sA, sn, sc, szs⟩ := s
          simp only at q0 q1 h4' p0
          by_cases he : stag.toList = tag.toList
          · have HF : Hid (buildB l = false) := by
              show _ = _
              unfold buildB
              rw [tagsB_false (k := j + 1) (by have := Hn.out; omega) (by unfold fineB; rw [Hgt.out, show j + 1 - 1 = j by omega, Hgs.out]; simp [he])]
              rfl
            have he' : (stag.toList == tag.toList) = true := by simp [he]
            have HE := Lib.hid he
            clear he
            go_wp2
            go_quiet (fail)
            go_wp2
            go_ret
            rw [HF.out]
            exact ⟨rfl, below_drewN HB.out _⟩
          · have HF : Hid (tagsB (tagLs l) (j + 1 + 1) = true) := by
              show _ = _
              rw [tagsB_succ, HT.out]
              unfold fineB
              rw [Hgt.out, show j + 1 - 1 = j by omega, Hgs.out]
              simp only at *
              simp [H4.out, he]
            have he' : (stag.toList == tag.toList) = false := by simp [he]
            have HE := Lib.hid he
            clear he
            go_wp2
            go_quiet (fail)
            go_wp2
            go_roundw
            case rel => exact ⟨j + 1 + 1, by omega, by go_num, HF.out, below_drewN HB.out _⟩
            case measure => simp [intOf]; omega
      · have HF : Hid (buildB l = false) := by
          show _ = _
          unfold buildB
          rw [tagsB_false (k := k) (by have := Hn.out; omega) (by unfold fineB; rw [Hgt.out, size_toList]; simp [h4])]
          rfl
        have h4' : (((t.tag.size : Nat) : Int) != 4) = true := by simp; omega
        clear ht h4
        obtain ⟨tag, tA, tn, tc, zs⟩ := t
        simp only at q0 q1 h4'
        go_wp2
        go_quiet (fail)
        go_wp2
        go_ret
        rw [HF.out]
        exact ⟨rfl, below_drewN HB.out _⟩
    · have HF : Hid (buildB l = decide (((placeL (12 + 16 * n) ((l.take n).map Tab.n) : Nat) : Int) ≤ 67108864)) := by
        show _ = _
        unfold buildB
        rw [show l.length = k by have := Hn.out; omega, HT.out, show k = n by omega, List.take_of_length_le (by have := Hn.out; omega)]
        simp
        omega
      have hs := hb.size
      go_wp2_with fail
      refine (placeOf_any _ n c l n _ (hr.below hb) HO.out (by omega) (by omega) hc).mono ?_
      rintro e w1 ⟨rfl, hb1⟩
      go_wp2
      go_ret
      refine ⟨ret_bool ?_, hb.trans (hb1.mono hs)⟩
      rw [HF.out]
      simp

end Go.Proofs.Ytlkidnacfljpkaa
