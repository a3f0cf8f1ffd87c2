/- Tables of a font in memory, and what the small functions on them answer (adjusts, still, sum, placeOf), as contracts over this seat's translation. -/
import Derived.Test.YtlkidnacfljpkaaSearch
import Derived.Test.YtlkidnacfljpkaaStructs
import Derived.Test.YtlkidnacfljpkaaZero
namespace Go.Proofs.Ytlkidnacfljpkaa
open Go.RowKit
set_option linter.unusedVariables false

/-- A table: its tag, where its data stand, and what they are. -/
structure Tab where
  tag : ByteArray
  A : Option Addr
  n : Nat
  c : Nat
  zs : List Int
  deriving Inhabited

def encT (t : Tab) : List Value := [.string t.tag, .slice t.A t.n t.c]
theorem encT_len (t : Tab) : (encT t).length = 2 := rfl
theorem encT_one (t : Tab) : ∀ u ∈ encT t, u.oneCell' = true := by intro u hu; simp [encT] at hu; rcases hu with rfl | rfl <;> rfl
abbrev tabV (t : Tab) : Value := .agg #[.string t.tag, .slice t.A t.n t.c]

/-- Its data are there, and not too many. -/
def Tab.ok (w : World) (t : Tab) : Prop := Row w t.A t.n (cellsOf .u8 t.zs) ∧ Bytes t.zs ∧ t.n ≤ 100000000

theorem Tab.ok.below {w w' : World} {t : Tab} (h : t.ok w) (hb : Below w.heap.size w w') : t.ok w' := ⟨h.1.below hb, h.2⟩
theorem Tab.ok.len {w : World} {t : Tab} (h : t.ok w) : t.zs.length = t.n := h.1.len

/-- "head". -/
def headL : List UInt8 := [104, 101, 97, 100]
/-- Has the table the bytes that make a file whole? -/
def adjB (tag : List UInt8) (zs : List Int) : Bool := decide (tag = headL ∧ 12 ≤ zs.length)

theorem adjusts_any (t : Tab) (w : World) (h : t.ok w) : Calls Try.prog 29 #[tabV t] w fun e w' => e = .returned (.bool (adjB t.tag.toList t.zs)) ∧ Below w.heap.size w w' := by
  have hl := h.len
  obtain ⟨tag, A, n, c, zs⟩ := t
  simp only at hl
  have hA : Below w.heap.size w (w.alloc (.cells #[.string tag, .slice A n c] 30)) := (Below.refl _ _).alloc (Nat.le_refl _) _
  have HA := Lib.hid hA
  by_cases hh : tag.toList = [104, 101, 97, 100]
  · have H : Hid (adjB tag.toList zs = decide (12 ≤ (n : Int))) := by
      show _ = _
      unfold adjB headL
      rw [hh, hl]
      simp
      omega
    clear h hl hA
    go_enter Try.func29, Try.ntmps29
    go_wp2
    go_ret
    rw [H.out]
    exact ⟨rfl, HA.out⟩
  · have H : Hid (adjB tag.toList zs = false) := by
      show _ = _
      unfold adjB headL
      simp [hh]
    clear h hl hA
    go_enter Try.func29, Try.ntmps29
    go_wp2
    go_ret
    rw [H.out]
    exact ⟨rfl, HA.out⟩

/-- The data as they are summed. -/
def stillL (tag : List UInt8) (zs : List Int) : List Int := if adjB tag zs = true then zeroedL zs 8 4 else zs

theorem stillL_len (tag : List UInt8) (zs : List Int) : (stillL tag zs).length = zs.length := by
  unfold stillL
  split
  · rename_i h
    unfold adjB at h
    simp at h
    unfold zeroedL
    simp
    omega
  · rfl

theorem stillL_bytes {tag : List UInt8} {zs : List Int} (h : Bytes zs) : Bytes (stillL tag zs) := by
  unfold stillL zeroedL
  split
  · exact bytes_append (fun x hx => h x (List.mem_of_mem_take hx)) (bytes_append (fun x hx => by have := List.eq_of_mem_replicate hx; omega) (fun x hx => h x (List.mem_of_mem_drop hx)))
  · exact h

/-- What a call that tells bytes (fresh, or those that were there), and turns nothing old, leaves. -/
def RetR (w : World) (zs : List Int) (e : Ending) (w' : World) : Prop := ∃ A n c, e = .returned (.slice A n c) ∧ Row w' A n (cellsOf .u8 zs) ∧ Below w.heap.size w w'

set_option maxHeartbeats 400000 in
theorem still_any (t : Tab) (w : World) (h : t.ok w) : Calls Try.prog 59 #[tabV t] w (RetR w (stillL t.tag.toList t.zs)) := by
  have hadj := fun W hW => adjusts_any t W hW
  have Hadj := Lib.hid hadj
  clear hadj
  have hl := h.len
  have hbd := h.2.2
  have hA : Below w.heap.size w (w.alloc (.cells (encT t).toArray 30)) := (Below.refl _ _).alloc (Nat.le_refl _) _
  have hok := h.below hA
  have hn := heap_alloc_new w (.cells (encT t).toArray 30)
  obtain ⟨tag, A, n, c, zs⟩ := t
  simp only [encT] at hl hbd hA hok hn
  go_enter Try.func59, Try.ntmps59
  go_wp2_with fail
  generalize w.alloc (.cells #[.string tag, .slice A n c] 30) = V at *
  refine (Hadj.out V hok).mono ?_
  rintro e w1 ⟨rfl, hb1⟩
  have hV : w.heap.size < V.heap.size := lt_of_block hn
  have hn1 := (hb1.block _ hV).trans hn
  have q1 : w1.cell? ⟨w.heap.size, 1, none⟩ = some (.slice A n c) := cell_of_row w1 _ 1 _ _ _ hn1
  have hr1 := (hok.below hb1).1
  have hb := hA.trans (hb1.mono hA.size)
  have hsz := hb.size
  simp only at hr1
  clear hn hn1 Hadj hb1 hA hok h
  cases hB : adjB tag.toList zs with
  | true =>
    have h12 : 12 ≤ n := by unfold adjB at hB; simp at hB; omega
    have HL : Hid (stillL tag.toList zs = zeroedL zs 8 4) := by show _ = _; unfold stillL; rw [if_pos hB]
    have hF : Hid (spanF n 8 = (8 : Nat)) := by show _ = _; unfold spanF; rw [if_neg (by omega)]; omega
    have hT : Hid (spanT n 8 4 = ((8 : Nat) : Int) + (4 : Nat)) := by show _ = _; unfold spanT spanN; rw [show spanF n 8 = (8 : Nat) from hF.out, if_neg (by omega)]; omega
    clear hB hl
    go_wp2_with fail
    refine (zeroed_any _ _ _ zs 8 4 8 4 _ hr1 (by omega) (by omega) (by omega) (by omega) (by omega) hF.out hT.out (by omega)).mono ?_
    rintro e w2 ⟨A2, n2, c2, rfl, hown, hb2⟩
    go_wp2
    go_ret
    rw [HL.out]
    exact ⟨A2, n2, c2, rfl, hown.row, hb.trans (hb2.mono hsz)⟩
  | false =>
    have HL : Hid (stillL tag.toList zs = zs) := by show _ = _; unfold stillL; rw [if_neg (by rw [hB]; simp)]
    clear hB hl
    go_wp2
    go_ret
    rw [HL.out]
    exact ⟨A, n, c, rfl, hr1, hb⟩

/-- A table's sum. -/
def sumL (tag : List UInt8) (zs : List Int) : Int := rs (stillL tag zs) % 4294967296

theorem tsum_any (t : Tab) (w : World) (h : t.ok w) : Calls Try.prog 57 #[tabV t] w (Ret w (.int .u32 (sumL t.tag.toList t.zs))) := by
  have hst := fun W hW => still_any t W hW
  have Hst := Lib.hid hst
  have hB := stillL_bytes (tag := t.tag.toList) h.2.1
  have hl := stillL_len t.tag.toList t.zs
  rw [h.len] at hl
  have hbd := h.2.2
  have hA : Below w.heap.size w (w.alloc (.cells (encT t).toArray 30)) := (Below.refl _ _).alloc (Nat.le_refl _) _
  have hok := h.below hA
  clear hst h
  obtain ⟨tag, A, n, c, zs⟩ := t
  simp only [encT] at hl hbd hA hok hB
  have HB := Lib.hid hB
  have Hl := Lib.hid hl
  clear hB hl
  go_enter Try.func57, Try.ntmps57
  go_wp2_with fail
  refine (Hst.out _ hok).mono ?_
  rintro e w1 ⟨A1, n1, c1, rfl, hr, hb1⟩
  have hb := hA.trans (hb1.mono hA.size)
  have hn1 : n1 ≤ 100000000 := by have := hr.len; have := Hl.out; omega
  clear hA hb1 hok
  go_wp2_with fail
  refine (sum_rs_any _ _ _ _ _ hr HB.out (by omega)).mono ?_
  rintro e w2 ⟨rfl, hb2⟩
  go_wp2
  go_ret
  exact ⟨rfl, hb.trans (hb2.mono hb.size)⟩

/-- Where the table behind these begins, from a place on. -/
def placeL (at_ : Nat) (l : List Nat) : Nat := l.foldl (fun a n => a + padN n) at_

theorem placeL_snoc (a : Nat) (l : List Nat) (n : Nat) : placeL a (l ++ [n]) = placeL a l + padN n := by simp [placeL]
theorem placeL_le (a : Nat) (l : List Nat) (m : Nat) (h : ∀ n ∈ l, n ≤ m) : placeL a l ≤ a + l.length * (m + 3) := by
  unfold placeL
  induction l generalizing a with
  | nil => simp
  | cons x l ih =>
    rw [List.foldl_cons]
    have := ih (a + padN x) (fun n hn => h n (by simp [hn]))
    have h2 : padN x ≤ m + 3 := by have := h x (by simp); unfold padN; omega
    rw [List.length_cons, Nat.succ_mul]
    omega

set_option maxHeartbeats 1000000 in
theorem placeOf_any (A : Option Addr) (n c : Nat) (l : List Tab) (i : Nat) (w : World) (hr : RowS encT 2 w A n l) (hok : ∀ t ∈ l, t.n ≤ 100000000) (hn : n ≤ 1000000) (hi : i ≤ n) (hc : n ≤ c) :
    Calls Try.prog 30 #[.slice A n c, .int .i64 i] w (Ret w (.int .i64 (placeL (12 + 16 * n) ((l.take i).map Tab.n)))) := by
  have Hn := Lib.hid hr.len
  have HO := Lib.hid hok
  clear hok
  go_enter Try.func30, Try.ntmps30
  go_wp2_with fail
  refine (dirSize_any _ _ (by omega) (by omega)).mono ?_
  rintro e w' ⟨rfl, rfl⟩
  have HE : Hid ((12 : Int) + (n : Int) * 16 = ((placeL (12 + 16 * n) (((l.take i).take 0).map Tab.n) : Nat) : Int)) := by show _ = _; simp [placeL]; omega
  go_wp2
  rw [HE.out]
  clear HE
  go_loopw [5, 15] (fun v q wr => ∃ k : Nat, k ≤ i ∧ q = .int .i64 k ∧ v = .int .i64 (placeL (12 + 16 * n) (((l.take i).take k).map Tab.n)) ∧ Below w.heap.size w wr) (fun _ q _ => i - (intOf q).toNat)
  case atStart => exact ⟨0, Nat.zero_le _, rfl, rfl, Below.refl _ _⟩
  case round =>
    obtain ⟨k, hk, rfl, rfl, hb⟩ := hrel
    by_cases hlt : k < i
    · obtain ⟨t, ht⟩ : ∃ t, l[k]? = some t := ⟨l[k]'(by have := Hn.out; omega), List.getElem?_eq_getElem (by have := Hn.out; omega)⟩
      obtain ⟨g, off, rfl, hg, hcl⟩ := (hr.below hb).at encT_len (by omega) ht
      have q0 : wr.cell? ⟨g, off + k * 2, none⟩ = some (.string t.tag) := hcl 0 _ rfl
      have q1 : wr.cell? ⟨g, off + k * 2 + 1, none⟩ = some (.slice t.A t.n t.c) := hcl 1 _ rfl
      have hbt := HO.out t (List.mem_of_getElem? ht)
      have hpl := placeL_le (12 + 16 * n) (((l.take i).take k).map Tab.n) 100000000 (fun m hm => by
        obtain ⟨t', ht', rfl⟩ := List.mem_map.1 hm
        exact HO.out t' (List.mem_of_mem_take (List.mem_of_mem_take ht')))
      have hlen : (((l.take i).take k).map Tab.n).length ≤ 1000000 := by simp; omega
      have hpl2 : placeL (12 + 16 * n) (((l.take i).take k).map Tab.n) ≤ 1000000000000000 := by
        have : (((l.take i).take k).map Tab.n).length * 100000003 ≤ 1000000 * 100000003 := Nat.mul_le_mul_right _ hlen
        omega
      have HS : Hid (placeL (12 + 16 * n) (((l.take i).take (k + 1)).map Tab.n) = placeL (12 + 16 * n) (((l.take i).take k).map Tab.n) + padN t.n) := by
        show _ = _
        rw [List.take_add_one, List.getElem?_take, if_pos hlt, ht, List.map_append]
        exact placeL_snoc _ _ _
      have HP : Hid ((((t.n : Int) + 4 - 1) / 4 * 4) = (padN t.n : Int)) := by show _ = _; unfold padN; omega
      have hb' := hb.alloc hb.size (.cells (encT t).toArray 30)
      have HB := Lib.hid hb'
      clear hpl hlen ht hcl hb' hb
      obtain ⟨tag, tA, tn, tc, zs⟩ := t
      simp only at q0 q1 hbt HS HP
      generalize placeL (12 + 16 * n) (((l.take i).take k).map Tab.n) = pl at *
      go_wp2
      go_roundw
      case rel => exact ⟨k + 1, by omega, by go_num, by rw [HS.out, HP.out]; go_num, HB.out⟩
      case measure => simp [intOf]; omega
    · have HE : Hid ((l.take i).take k = l.take i) := by show _ = _; rw [List.take_take, Nat.min_eq_right (by omega)]
      go_wp2
      go_ret
      rw [HE.out]
      exact ⟨rfl, hb⟩

end Go.Proofs.Ytlkidnacfljpkaa
