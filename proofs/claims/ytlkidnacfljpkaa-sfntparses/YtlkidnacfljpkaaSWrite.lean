/- What write lays: a directory, and the tables behind it, as a contract over this seat's translation. -/
import Derived.Test.YtlkidnacfljpkaaBuildable
import Derived.Test.YtlkidnacfljpkaaWriter
import Derived.Deep.RegionHeld3
import Derived.Lib.ConvBytes
namespace Go.Proofs.Ytlkidnacfljpkaa
open Go.RowKit
set_option linter.unusedVariables false

/-- A table as plain data: a tag, and bytes. -/
abbrev T := List UInt8 × List Int
def Tab.pure (t : Tab) : T := (t.tag.toList, t.zs)
/-- A tag's bytes as numbers. -/
def tagN (tag : List UInt8) : List Int := tag.map fun b => (b.toNat : Int)
theorem tagN_bytes (tag : List UInt8) : Bytes (tagN tag) := by
  intro x hx
  obtain ⟨b, _, rfl⟩ := List.mem_map.1 hx
  have := b.toNat_lt
  omega
theorem tagN_len (tag : List UInt8) : (tagN tag).length = tag.length := by simp [tagN]

/-- The directory's front, one entry, all bytes. -/
def hdrL (n : Nat) : List Int := b4 65536 ++ b2 n ++ b2 (sr1 n) ++ b2 (sr2 n) ++ b2 (sr3 n)
def placeT (l : List T) (i : Nat) : Nat := placeL (12 + 16 * l.length) ((l.take i).map fun t => t.2.length)
def entL (l : List T) (i : Nat) : List Int := tagN (l.getD i default).1 ++ b4 (sumL (l.getD i default).1 (l.getD i default).2) ++ b4 (placeT l i) ++ b4 (l.getD i default).2.length
def entsL (l : List T) (k : Nat) : List Int := (List.range k).flatMap (entL l)
def dataL (l : List T) : List Int := l.flatMap fun t => pad (stillL t.1 t.2)
def writeL (l : List T) : List Int := hdrL l.length ++ entsL l l.length ++ dataL l

theorem entsL_succ (l : List T) (k : Nat) : entsL l (k + 1) = entsL l k ++ entL l k := by simp [entsL, List.range_succ]
theorem dataL_snoc (l : List T) (k : Nat) (t : T) (h : l[k]? = some t) : dataL (l.take (k + 1)) = dataL (l.take k) ++ pad (stillL t.1 t.2) := by
  unfold dataL
  rw [List.take_add_one, h]
  simp

/-- '[]byte(s)'. -/
theorem bytes_below (w : World) (s : ByteArray) : Below w.heap.size w (Lib.bytesWorld w 5 s) :=
  ⟨rfl, rfl, rfl, by rw [Lib.bytesWorld_size]; omega, fun k hk => Lib.bytesWorld_at_old w 5 s k hk⟩
theorem bytes_row (w : World) (s : ByteArray) : Row (Lib.bytesWorld w 5 s) (some ⟨w.heap.size, 0, none⟩) s.size (cellsOf .u8 (tagN s.toList)) := by
  refine ⟨by rw [cellsOf_length, tagN_len, size_toList], fun _ => ⟨w.heap.size, 0, rfl, by rw [Lib.bytesWorld_size]; omega, fun j u hu => ?_⟩⟩
  have hj : j < s.size := by have := (List.getElem?_eq_some_iff.1 hu).1; rw [cellsOf_length, tagN_len, size_toList] at this; exact this
  rw [Nat.zero_add, Lib.bytesWorld_cell w 5 s j hj, ← hu]
  have hj' : j < s.data.toList.length := by rw [← Lib.size_eq]; exact hj
  rw [ByteArray.toList_eq, List.getD_eq_getElem?_getD]
  simp [cellsOf, tagN, List.getElem?_map, List.getElem?_eq_getElem hj']

/-- A block of another kind is no Writer's. -/
theorem Wr.spare {w : World} {B b k : Nat} {zs : List Int} {cs : Array Value} {t : TypeId} (h : Wr w B b zs) (hk : w.heap[k]? = some (.cells cs t (0, 0))) (h1 : t ≠ 5) (h2 : t ≠ 62) : ¬ WrS w b k := by
  rintro (rfl | ⟨A, n, c, hb, e⟩)
  · obtain ⟨A, n, c, hb, _⟩ := h
    rw [hk] at hb
    simp at hb
    exact h2 hb.2
  · obtain ⟨A', n', c', hb', _, hown⟩ := h
    rw [hb] at hb'
    simp at hb'
    obtain ⟨rfl, rfl, rfl⟩ := hb'
    rcases hown.shape with ⟨rfl, _⟩ | ⟨g, cur, rfl, _, _, hh, _⟩
    · simp [blockOf] at e
    · simp [blockOf] at e
      subst e
      rw [hk] at hh
      simp at hh
      exact h1 hh.2

/-- A Writer that is younger than w, and a table in a block of its own. -/
structure St (w wr : World) (zs : List Int) (bt : Nat) (t : Tab) : Prop where
  wr_ : Wr wr w.heap.size w.heap.size zs
  bel : Below w.heap.size w wr
  box : wr.heap[bt]? = some (.cells (encT t).toArray 30 (0, 0))

section
variable {w wr w' : World} {zs ys : List Int} {bt : Nat} {t : Tab}
theorem St.below (h : St w wr zs bt t) (hb : Below wr.heap.size wr w') : St w w' zs bt t :=
  ⟨h.wr_.below hb, h.bel.trans (hb.mono h.bel.size), (hb.block _ (lt_of_block h.box)).trans h.box⟩
theorem St.turned (h : St w wr zs bt t) (h1 : Wr w' w.heap.size w.heap.size ys) (ht : Turned wr w' (WrS wr w.heap.size)) : St w w' ys bt t :=
  ⟨h1, h.wr_.older h.bel (Nat.le_refl _) ht, (ht.block _ (lt_of_block h.box) (h.wr_.spare h.box (by decide) (by decide))).trans h.box⟩
theorem St.cells (h : St w wr zs bt t) : wr.cell? ⟨bt, 0, none⟩ = some (.string t.tag) ∧ wr.cell? ⟨bt, 1, none⟩ = some (.slice t.A t.n t.c) :=
  ⟨cell_of_row wr _ 0 _ _ _ h.box, cell_of_row wr _ 1 _ _ _ h.box⟩
theorem St.drew (h : St w wr zs bt t) : St w wr.drew zs bt t := ⟨h.wr_, h.bel.drew, h.box⟩
theorem St.drewN (h : St w wr zs bt t) (q : Nat) : St w (wr.drewN q) zs bt t := ⟨h.wr_, below_drewN h.bel q, h.box⟩
end

theorem u32_nat (n : Nat) (h : n ≤ 4000000000) : IntKind.u32.wrap (n : Int) = (n : Int) := IntWalk.u32_in _ (by omega)

theorem hdrL_len (n : Nat) : (hdrL n).length = 12 := rfl
theorem entsL_len (l : List T) (h4 : ∀ t ∈ l, t.1.length = 4) (k : Nat) (hk : k ≤ l.length) : (entsL l k).length = 16 * k := by
  induction k with
  | zero => rfl
  | succ k ih =>
    have ht : l.getD k default = l[k] := by rw [List.getD_eq_getElem?_getD, List.getElem?_eq_getElem (by omega)]; rfl
    rw [entsL_succ, List.length_append, ih (by omega)]
    unfold entL
    simp only [List.length_append, tagN_len, b4_len, ht, h4 _ (List.getElem_mem (by omega : k < l.length))]
    omega

theorem dataL_le (m : Nat) : ∀ (r : List T), (∀ t ∈ r, t.2.length ≤ m) → (dataL r).length ≤ r.length * (m + 3) := by
  intro r
  induction r with
  | nil => intro _; simp [dataL]
  | cons x r ih =>
    intro hx
    have h1 := ih (fun t ht => hx t (by simp [ht]))
    have h2 := hx x (by simp)
    unfold dataL at *
    rw [List.flatMap_cons, List.length_append, pad_len, stillL_len, List.length_cons, Nat.succ_mul]
    unfold padN
    omega

theorem dataL_take_le (m : Nat) (l : List T) (k : Nat) (h : ∀ t ∈ l, t.2.length ≤ m) : (dataL (l.take k)).length ≤ k * (m + 3) :=
  Nat.le_trans (dataL_le m (l.take k) (fun t ht => h t (List.mem_of_mem_take ht))) (Nat.mul_le_mul_right _ (by rw [List.length_take]; omega))

theorem dataL_len_le (l : List T) (k : Nat) (h : ∀ t ∈ l, t.2.length ≤ 100000000) : (dataL (l.take k)).length ≤ k * 100000003 := dataL_take_le 100000000 l k h

set_option maxRecDepth 100000 in
set_option maxHeartbeats 4000000 in
theorem write_any (A : Option Addr) (n c : Nat) (l : List Tab) (w : World) (hr : RowS encT 2 w A n l) (hok : ∀ t ∈ l, t.ok w) (h0 : 1 ≤ n) (hn : n ≤ 64) (hc : n ≤ c) (h4 : ∀ t ∈ l, t.tag.size = 4) (hpl : placeL (12 + 16 * n) (l.map Tab.n) ≤ 67108864) :
    Calls Try.prog 27 #[.slice A n c] w (RetB w (writeL (l.map Tab.pure))) := by
  have Hn := Lib.hid hr.len
  have HO := Lib.hid hok
  have H4 := Lib.hid h4
  have hsr := sr_le n h0 hn
  obtain ⟨s1, s2, s3, s4, s5, s6, s7⟩ := hsr
  clear hok h4
  have hw0 := wr_new w
  have hB0 : Below w.heap.size w (w.alloc (.cells #[.slice none 0 0] 62)) := (Below.refl _ _).alloc (Nat.le_refl _) _
  go_enter Try.func27, Try.ntmps27
  go_wp2_with fail
  generalize w.alloc (.cells #[.slice none 0 0] 62) = V at *
  refine (search_any n _ h0 hn).mono ?_
  rintro e w' ⟨rfl, rfl⟩
  go_wp2_with fail
  refine (wu32_any _ _ _ 65536 _ hw0 (by simp) (by omega) (by omega)).mono ?_
  rintro e w1 ⟨rfl, h1, t1⟩
  have b1 := hw0.older hB0 (Nat.le_refl _) t1
  clear t1 hw0 hB0
  go_wp2_with fail
  refine (wu16_any _ _ _ n _ h1 (by simp [b4, b2]) (by omega) (by omega)).mono ?_
  rintro e w2 ⟨rfl, h2, t2⟩
  have b2 := h1.older b1 (Nat.le_refl _) t2
  clear t2 h1 b1
  go_wp2_with fail
  refine (wu16_any _ _ _ (sr1 n) _ h2 (by simp [b4, Go.Proofs.Ytlkidnacfljpkaa.b2]) (by omega) (by omega)).mono ?_
  rintro e w3 ⟨rfl, h3, t3⟩
  have b3 := h2.older b2 (Nat.le_refl _) t3
  clear t3 h2 b2
  go_wp2_with fail
  refine (wu16_any _ _ _ (sr2 n) _ h3 (by simp [b4, Go.Proofs.Ytlkidnacfljpkaa.b2]) (by omega) (by omega)).mono ?_
  rintro e w4 ⟨rfl, h4, t4⟩
  have b4' := h3.older b3 (Nat.le_refl _) t4
  clear t4 h3 b3
  go_wp2_with fail
  refine (wu16_any _ _ _ (sr3 n) _ h4 (by simp [b4, Go.Proofs.Ytlkidnacfljpkaa.b2]) (by omega) (by omega)).mono ?_
  rintro e w5 ⟨rfl, h5, t5⟩
  have b5 := h4.older b4' (Nat.le_refl _) t5
  clear t5 h4 b4'
  have e5 : [] ++ b4 65536 ++ Go.Proofs.Ytlkidnacfljpkaa.b2 n ++ Go.Proofs.Ytlkidnacfljpkaa.b2 (sr1 n) ++ Go.Proofs.Ytlkidnacfljpkaa.b2 (sr2 n) ++ Go.Proofs.Ytlkidnacfljpkaa.b2 (sr3 n) = hdrL n ++ entsL (l.map Tab.pure) 0 := by simp [hdrL, entsL]
  rw [e5] at h5
  clear e5
  have H0 := Lib.hid h5
  have HB := Lib.hid b5
  clear h5 b5
  go_wp2
  go_loopw [31] (fun q wr => ∃ k : Nat, k ≤ n ∧ q = .int .i64 k ∧ Wr wr w.heap.size w.heap.size (hdrL n ++ entsL (l.map Tab.pure) k) ∧ Below w.heap.size w wr) (fun q _ => n - (intOf q).toNat)
  case atStart => exact ⟨0, Nat.zero_le _, rfl, H0.out, HB.out⟩
  case round =>
    clear H0 HB
    obtain ⟨k, hk, rfl, hwr, hbel⟩ := hrel
    by_cases hlt : k < n
    · obtain ⟨t, ht⟩ : ∃ t, l[k]? = some t := ⟨l[k]'(by have := Hn.out; omega), List.getElem?_eq_getElem (by have := Hn.out; omega)⟩
      obtain ⟨g, off, rfl, hg, hcl⟩ := (hr.below hbel).at encT_len (by omega) ht
      have q0 : wr.cell? ⟨g, off + k * 2, none⟩ = some (.string t.tag) := hcl 0 _ rfl
      have q1 : wr.cell? ⟨g, off + k * 2 + 1, none⟩ = some (.slice t.A t.n t.c) := hcl 1 _ rfl
      have hot := HO.out t (List.mem_of_getElem? ht)
      have ht4 := H4.out t (List.mem_of_getElem? ht)
      have hlen : (hdrL n ++ entsL (l.map Tab.pure) k).length = 12 + 16 * k := by
        rw [List.length_append, hdrL_len, entsL_len _ (fun x hx => by obtain ⟨y, hy, rfl⟩ := List.mem_map.1 hx; show y.tag.toList.length = 4; rw [size_toList]; exact H4.out y hy) k (by rw [List.length_map]; have := Hn.out; omega)]
      have hgd : (l.map Tab.pure).getD k default = (t.tag.toList, t.zs) := by rw [List.getD_eq_getElem?_getD, List.getElem?_map, ht]; rfl
      have hpt : placeT (l.map Tab.pure) k = placeL (12 + 16 * n) ((l.take k).map Tab.n) := by
        unfold placeT
        rw [List.length_map, Hn.out]
        congr 1
        rw [← List.map_take, List.map_map]
        apply List.map_congr_left
        intro x hx
        exact (HO.out x (List.mem_of_mem_take hx)).len
      have hple : placeL (12 + 16 * n) ((l.take k).map Tab.n) ≤ 67108864 := Nat.le_trans (by
        have : l.map Tab.n = (l.take k).map Tab.n ++ (l.drop k).map Tab.n := by rw [← List.map_append, List.take_append_drop]
        rw [this]
        unfold placeL
        rw [List.foldl_append]
        have : ∀ (r : List Nat) (a : Nat), a ≤ r.foldl (fun a n => a + padN n) a := by
          intro r
          induction r with
          | nil => intro a; exact Nat.le_refl _
          | cons x r ih => intro a; exact Nat.le_trans (Nat.le_add_right a (padN x)) (ih _)
        exact this _ _) hpl
      have hE : entsL (l.map Tab.pure) (k + 1) = entsL (l.map Tab.pure) k ++ (tagN t.tag.toList ++ b4 (sumL t.tag.toList t.zs) ++ b4 (placeL (12 + 16 * n) ((l.take k).map Tab.n)) ++ b4 t.n) := by
        rw [entsL_succ]
        unfold entL
        rw [hgd, hpt, show t.zs.length = t.n from hot.len]
      have HE := Lib.hid hE
      have Hlen := Lib.hid hlen
      have hsu : 0 ≤ sumL t.tag.toList t.zs ∧ sumL t.tag.toList t.zs < 4294967296 := by unfold sumL; omega
      obtain ⟨su0, su1⟩ := hsu
      have htn := hot.2.2
      have hpo := fun W (hW : Below w.heap.size w W) => placeOf_any (some ⟨g, off, none⟩) n c l k W (hr.below hW) (fun x hx => (HO.out x hx).2.2) (by omega) (by omega) hc
      have HPO := Lib.hid hpo
      have hts := fun W (hW : Below w.heap.size w W) => tsum_any t W (hot.below hW)
      have HTS := Lib.hid hts
      have hbx := heap_alloc_new wr (.cells (encT t).toArray 30)
      have hcv := fun W : World => Lib.run_convert_string_bytes (P := Try.prog) W 9 27 5 t.tag (u := .string) Try.underlying9 Try.underlying27 Try.underlying5
      have hst : St w (wr.alloc (.cells (encT t).toArray 30)) (hdrL n ++ entsL (l.map Tab.pure) k) wr.heap.size t :=
        ⟨hwr.below ((Below.refl _ _).alloc (Nat.le_refl _) _), hbel.alloc hbel.size _, hbx⟩
      have w4' : IntKind.u32.wrap (placeL (12 + 16 * n) ((l.take k).map Tab.n) : Int) = (placeL (12 + 16 * n) ((l.take k).map Tab.n) : Int) := u32_nat _ (by omega)
      have w5' : IntKind.u32.wrap (t.n : Int) = (t.n : Int) := u32_nat _ (by omega)
      clear hbx hts hpo hE hlen hgd hpt hot hcl hwr hbel
      obtain ⟨tag, tA, tn, tc, zs⟩ := t
      simp only [encT] at q0 q1 hst su0 su1 htn ht4 hcv w5' HE HTS
      generalize placeL (12 + 16 * n) ((l.take k).map Tab.n) = pl at *
      generalize sumL tag.toList zs = su at *
      go_wp2_with fail
      clear q0 q1
      generalize wr.alloc (.cells #[.string tag, .slice tA tn tc] 30) = V2 at *
      have hs := hst.drew
      have HT4 := Lib.hid ht4
      clear hst ht4
      go_region_held (fun w' => w'.cell? ⟨wr.heap.size, 0, none⟩ = some (.string tag) ∧ w'.cell? ⟨wr.heap.size, 1, none⟩ = some (.slice tA tn tc))
        (first | exact hs.cells | exact (hs.below (bytes_below _ _)).cells | exact hs2.cells | exact hs3.cells | exact hs4.cells | exact hs5.cells | exact hs6.cells | exact hs7.cells)
        (first
          | (go_at_call 56; refine (wput_any _ _ _ _ _ _ (tagN tag.toList) _ (hs.below (bytes_below _ _)).wr_ (bytes_row _ _) ?_).mono ?_; (rw [Hlen.out]; have := HT4.out; omega); rintro e w2 ⟨rfl, h2, t2⟩; have hs2 := (hs.below (bytes_below _ tag)).turned h2 t2; clear t2 h2)
          | (go_at_call 57; refine (HTS.out _ hs2.bel).mono ?_; rintro e w3 ⟨rfl, b3⟩; have hs3 := hs2.below b3; clear b3)
          | (go_at_call 30; refine (HPO.out _ hs4.bel).mono ?_; rintro e w5 ⟨rfl, b5⟩; have hs5 := hs4.below b5; clear b5)
          | (go_at_call 31; first
            | ((with_reducible refine (wu32_any _ _ _ su _ hs3.wr_ ?_ su0 su1).mono ?_); (simp only [List.length_append, Hlen.out, tagN_len, size_toList, HT4.out]; omega); rintro e w4 ⟨rfl, h4, t4⟩; have hs4 := hs3.turned h4 t4; clear t4 h4)
            | ((with_reducible refine (wu32_any _ _ _ (pl : Int) _ hs5.wr_ ?_ (by omega) (by omega)).mono ?_); (simp only [List.length_append, Hlen.out, tagN_len, size_toList, HT4.out, b4_len]; omega); rintro e w6 ⟨rfl, h6, t6⟩; have hs6 := hs5.turned h6 t6; clear t6 h6)
            | ((with_reducible refine (wu32_any _ _ _ (tn : Int) _ hs6.wr_ ?_ (by omega) (by omega)).mono ?_); (simp only [List.length_append, Hlen.out, tagN_len, size_toList, HT4.out, b4_len]; omega); rintro e w7 ⟨rfl, h7, t7⟩; have hs7 := hs6.turned h7 t7; clear t7 h7)))
      have hwf := hs7.wr_
      have hbf := hs7.bel
      rw [List.append_assoc, List.append_assoc, List.append_assoc, List.append_assoc, ← List.append_assoc (tagN tag.toList), ← List.append_assoc (tagN tag.toList ++ _), ← HE.out] at hwf
      clear hs hs2 hs3 hs4 hs5 hs6 hs7 hcv w4' w5'
      go_wp2
      go_roundw
      case rel => exact ⟨k + 1, by omega, by go_num, hwf, hbf⟩
      case measure => simp [intOf]; omega
    · obtain rfl : k = n := by omega
      have HW : Hid (Wr wr w.heap.size w.heap.size (hdrL k ++ entsL (l.map Tab.pure) k ++ dataL ((l.map Tab.pure).take 0))) := by
        show Wr _ _ _ _
        simpa [dataL] using hwr
      have HB := Lib.hid hbel
      have hlen : (hdrL k ++ entsL (l.map Tab.pure) k).length = 12 + 16 * k := by
        rw [List.length_append, hdrL_len, entsL_len _ (fun x hx => by obtain ⟨y, hy, rfl⟩ := List.mem_map.1 hx; show y.tag.toList.length = 4; rw [size_toList]; exact H4.out y hy) k (by rw [List.length_map]; have := Hn.out; omega)]
      have Hlen := Lib.hid hlen
      clear hwr hbel hlen
      go_wp2
      go_loopw [56] (fun q wr => ∃ j : Nat, j ≤ k ∧ q = .int .i64 j ∧ Wr wr w.heap.size w.heap.size (hdrL k ++ entsL (l.map Tab.pure) k ++ dataL ((l.map Tab.pure).take j)) ∧ Below w.heap.size w wr) (fun q _ => k - (intOf q).toNat)
      case atStart => exact ⟨0, Nat.zero_le _, rfl, HW.out, HB.out⟩
      case round =>
        clear HW HB
        obtain ⟨j, hj, rfl, hwr, hbel⟩ := hrel
        by_cases hlt : j < k
        · obtain ⟨t, ht⟩ : ∃ t, l[j]? = some t := ⟨l[j]'(by have := Hn.out; omega), List.getElem?_eq_getElem (by have := Hn.out; omega)⟩
          obtain ⟨g, off, rfl, hg, hcl⟩ := (hr.below hbel).at encT_len (by omega) ht
          have q0 : wr.cell? ⟨g, off + j * 2, none⟩ = some (.string t.tag) := hcl 0 _ rfl
          have q1 : wr.cell? ⟨g, off + j * 2 + 1, none⟩ = some (.slice t.A t.n t.c) := hcl 1 _ rfl
          have hot := HO.out t (List.mem_of_getElem? ht)
          have hD := dataL_snoc (l.map Tab.pure) j (t.tag.toList, t.zs) (by rw [List.getElem?_map, ht]; rfl)
          have hlt2 := dataL_len_le (l.map Tab.pure) j (fun x hx => by obtain ⟨y, hy, rfl⟩ := List.mem_map.1 hx; show y.zs.length ≤ 100000000; have := HO.out y hy; rw [this.len]; exact this.2.2)
          have hsl := stillL_len t.tag.toList t.zs
          rw [hot.len] at hsl
          have htn := hot.2.2
          have HD := Lib.hid hD
          have Hlt := Lib.hid hlt2
          have Hsl := Lib.hid hsl
          have hbx := heap_alloc_new wr (.cells (encT t).toArray 30)
          have hst : St w (wr.alloc (.cells (encT t).toArray 30)) (hdrL k ++ entsL (l.map Tab.pure) k ++ dataL ((l.map Tab.pure).take j)) wr.heap.size t :=
            ⟨hwr.below ((Below.refl _ _).alloc (Nat.le_refl _) _), hbel.alloc hbel.size _, hbx⟩
          have hstl := fun W (hW : Below w.heap.size w W) => still_any t W (hot.below hW)
          have HST := Lib.hid hstl
          clear hbx hstl hD hlt2 hsl hot hcl hwr hbel ht
          obtain ⟨tag, tA, tn, tc, zs⟩ := t
          simp only [encT] at q0 q1 hst htn HD HST Hsl
          go_wp2_with fail
          generalize wr.alloc (.cells #[.string tag, .slice tA tn tc] 30) = V2 at *
          refine (HST.out V2 hst.bel).mono ?_
          rintro e w2 ⟨A2, n2, c2, rfl, hr2, b2'⟩
          have hs2 := hst.below b2'
          have hn2 : n2 = tn := by have := hr2.len; rw [Hsl.out] at this; exact this.symm
          subst hn2
          clear hst b2' q0 q1
          go_wp2_with fail
          refine (pad_any _ _ _ _ _ hr2 (by omega)).mono ?_
          rintro e w3 ⟨A3, n3, c3, rfl, hown3, b3'⟩
          have hs3 := hs2.below b3'
          have hn3 : n3 ≤ 100000003 := by have := hown3.len; rw [pad_len, Hsl.out] at this; unfold padN at this; omega
          clear hs2 b3' hr2
          go_wp2_with fail
          refine (wput_any _ _ _ _ _ _ _ _ hs3.wr_ hown3.row ?_).mono ?_
          · rw [List.length_append, Hlen.out]
            have := Hlt.out
            have : j * 100000003 ≤ 64 * 100000003 := Nat.mul_le_mul_right _ (by omega)
            omega
          rintro e w4 ⟨rfl, h4, t4⟩
          have hs4 := hs3.turned h4 t4
          have hwf := hs4.wr_
          have hbf := hs4.bel
          rw [List.append_assoc, ← HD.out] at hwf
          clear hs3 hs4 h4 t4 hown3
          go_wp2
          go_roundw
          case rel => exact ⟨j + 1, by omega, by go_num, hwf, hbf⟩
          case measure => simp [intOf]; omega
        · have hE : (l.map Tab.pure).take j = l.map Tab.pure := List.take_of_length_le (by rw [List.length_map]; have := Hn.out; omega)
          rw [hE] at hwr
          have hlt2 := dataL_len_le (l.map Tab.pure) k (fun x hx => by obtain ⟨y, hy, rfl⟩ := List.mem_map.1 hx; show y.zs.length ≤ 100000000; have := HO.out y hy; rw [this.len]; exact this.2.2)
          rw [show (l.map Tab.pure).take k = l.map Tab.pure from List.take_of_length_le (by rw [List.length_map]; have := Hn.out; omega)] at hlt2
          have hL : hdrL k ++ entsL (l.map Tab.pure) k ++ dataL (l.map Tab.pure) = writeL (l.map Tab.pure) := by unfold writeL; rw [List.length_map, Hn.out]
          have hll : (hdrL k ++ entsL (l.map Tab.pure) k ++ dataL (l.map Tab.pure)).length ≤ 140737488351232 := by
            rw [List.length_append, Hlen.out]
            have : k * 100000003 ≤ 64 * 100000003 := Nat.mul_le_mul_right _ (by omega)
            omega
          rw [hL] at hwr hll
          have HLL := Lib.hid hll
          clear hE hlt2 hL hll
          go_wp2_with fail
          refine (done_any _ _ _ _ hwr HLL.out).mono ?_
          rintro e w5 ⟨A5, n5, c5, rfl, hown, b5⟩
          have hs := hbel.size
          go_wp2
          go_ret
          exact ⟨A5, n5, c5, rfl, hown.mono hs, hbel.trans (b5.mono hs)⟩

end Go.Proofs.Ytlkidnacfljpkaa
