/- What sfnt.directory answers, as a contract over this seat's translation. -/
import Derived.Test.YtlkidnacfljpkaaRdQ
import Derived.Test.YtlkidnacfljpkaaWin
import Derived.Test.YtlkidnacfljpkaaJoinN
import Derived.Test.YtlkidnacfljpkaaFew
import Derived.Lib.MinMax
import Derived.Deep.RegionHeld3
import Derived.Deep.DeepCutAuto
namespace Go.Proofs.Ytlkidnacfljpkaa
open Go.RowKit
set_option linter.unusedVariables false

/-- What the directory tells of a table. -/
structure Ent where
  tag : ByteArray
  sm : Int
  at_ : Int
  sz : Int
  deriving Inhabited
def encE (t : Ent) : List Value := [.string t.tag, .int .u32 t.sm, .int .u32 t.at_, .int .u32 t.sz]
theorem encE_len (t : Ent) : (encE t).length = 4 := rfl
theorem encE_one (t : Ent) : ∀ u ∈ encE t, u.oneCell' = true := by intro u hu; simp [encE] at hu; rcases hu with rfl | rfl | rfl | rfl <;> rfl

def ent0 : Ent := ⟨ByteArray.empty, 0, 0, 0⟩
/-- The directory's row i. -/
def entOf (zs : List Int) (i : Nat) : Ent := ⟨strOfNums (told (zs.drop (12 + 16 * i)) 4), n4at zs (12 + 16 * i + 4), n4at zs (12 + 16 * i + 4 + 4), n4at zs (12 + 16 * i + 4 + 4 + 4)⟩
def cntN (zs : List Int) : Nat := (n2at zs 4).toNat
def dirL (zs : List Int) : List Ent := (List.range (cntN zs)).map (entOf zs)
/-- Does it begin as a font does, and is it all there? -/
def frontB (zs : List Int) : Bool := (n4at zs 0 == 65536) && decide ([n2at zs 6, n2at zs 8, n2at zs 10] = [sr1 (cntN zs), sr2 (cntN zs), sr3 (cntN zs)])
def dirB (zs : List Int) : Bool := cntB (n2at zs 4) && frontB zs && decide (12 + 16 * cntN zs ≤ zs.length)

theorem Try.entinfo : (Try.prog.info? 73).map (fun i => (i.zero, i.size, i.bytes)) = some (some (.agg #[.string ByteArray.empty, .int .u32 0, .int .u32 0, .int .u32 0]), 4, 32) := by kernel_rfl

def RetDir (w : World) (zs : List Int) (e : Ending) (w' : World) : Prop :=
  ∃ A n c ok, e = .returned (.tuple #[.slice A n c, .bool ok]) ∧ Below w.heap.size w w' ∧ ok = dirB zs ∧ (ok = true → OwnS 73 encE 4 w' w.heap.size A n c (dirL zs))

theorem retDir_no {w w' : World} {zs : List Int} (h : dirB zs = false) (hb : Below w.heap.size w w') : RetDir w zs (.returned (.tuple #[.slice none 0 0, .bool false])) w' :=
  ⟨none, 0, 0, false, rfl, hb, h.symm, fun h => by cases h⟩

theorem eq_three (w : World) (d : Nat) (a0 a1 a2 b0 b1 b2 : Int) : (Op.equalIn (d + 2) 104 (.agg #[.int .u16 a0, .int .u16 a1, .int .u16 a2]) (.agg #[.int .u16 b0, .int .u16 b1, .int .u16 b2])).run Try.prog w = .ok (decide ([a0, a1, a2] = [b0, b1, b2])) w :=
  run_equalIn_ints w d 104 51 3 .u16 .u16 [a0, a1, a2] [b0, b1, b2] Try.underlying104 Try.underlying51 (by simp [go_sem]) (by simp [go_sem]) rfl rfl

/-- The rows when j of k have been read. -/
def dirPart (zs : List Int) (k j : Nat) : List Ent := (List.range k).map fun t => if t < j then entOf zs t else ent0
theorem dirPart_zero (zs : List Int) (k : Nat) : dirPart zs k 0 = List.replicate k ent0 := by
  unfold dirPart
  apply List.ext_getElem?
  intro i
  rw [List.getElem?_map, List.getElem?_replicate]
  by_cases h : i < k
  · rw [List.getElem?_range h, if_pos h]; simp
  · rw [List.getElem?_eq_none (by simpa using h), if_neg h]; rfl
theorem dirPart_full (zs : List Int) (k : Nat) : dirPart zs k k = (List.range k).map (entOf zs) := by
  unfold dirPart
  apply List.map_congr_left
  intro t ht
  rw [if_pos (List.mem_range.1 ht)]
theorem dirPart_set (zs : List Int) (k j : Nat) (hj : j < k) : (dirPart zs k j).set j (entOf zs j) = dirPart zs k (j + 1) := by
  unfold dirPart
  apply List.ext_getElem?
  intro i
  rw [List.getElem?_set]
  by_cases h : i < k
  · rw [List.getElem?_map, List.getElem?_map, List.getElem?_range h]
    by_cases e : j = i
    · subst e
      simp [hj]
    · rw [if_neg e]
      simp only [Option.map_some]
      congr 1
      by_cases h1 : i < j
      · rw [if_pos h1, if_pos (by omega)]
      · rw [if_neg h1, if_neg (by omega)]
  · rw [List.getElem?_eq_none (by simpa using h), List.getElem?_eq_none (by simpa using h)]
    split
    · split
      · rename_i h1; simp at h1; omega
      · rfl
    · rfl

/-- A Reader in block b that was asked for i bytes, and rows of a directory in block G, j of them read. -/
structure DS (w wr : World) (b G k : Nat) (zs : List Int) (i j : Nat) : Prop where
  q : RdQ wr w.heap.size b zs i
  own : OwnS 73 encE 4 wr w.heap.size (some ⟨G, 0, none⟩) k k (dirPart zs k j)
  bel : Below w.heap.size w wr
  ne : b ≠ G
  le : w.heap.size ≤ G
theorem DS.drew {w wr : World} {b G k : Nat} {zs : List Int} {i j : Nat} (h : DS w wr b G k zs i j) : DS w wr.drew b G k zs i j := ⟨h.q, h.own, h.bel.drew, h.ne, h.le⟩
theorem DS.ask {w wr w' : World} {b G k : Nat} {zs : List Int} {i i' j : Nat} (h : DS w wr b G k zs i j) (hq : RdQ w' w.heap.size b zs i') (hg : wr.grownBy w' (some b)) : DS w w' b G k zs i' j :=
  ⟨hq, h.own.grown hg (fun g e => by simp [blockOf] at e; subst e; intro e; cases e; exact h.ne rfl), h.bel.grown hg h.bel.size (fun k e => by cases e; exact h.q.from_), h.ne, h.le⟩

theorem DS.cells {w wr : World} {b G k : Nat} {zs : List Int} {i j : Nat} (h : DS w wr b G k zs i j) (hj : j < k) :
    wr.cell? ⟨G, j * 4, none⟩ = some (.string ByteArray.empty) ∧ wr.cell? ⟨G, j * 4 + 1, none⟩ = some (.int .u32 0) ∧ wr.cell? ⟨G, j * 4 + 2, none⟩ = some (.int .u32 0) ∧ wr.cell? ⟨G, j * 4 + 3, none⟩ = some (.int .u32 0) ∧ ∀ o, wr.frozen? ⟨G, o, none⟩ = false := by
  have hz : (dirPart zs k j)[j]? = some ent0 := by
    unfold dirPart
    rw [List.getElem?_map, List.getElem?_range hj]
    simp
  obtain ⟨g', off', e', _, hc⟩ := (h.own.row encE_len).at encE_len (by omega) hz
  simp only [Option.some.injEq, Addr.mk.injEq, and_true] at e'
  obtain ⟨rfl, rfl⟩ := e'
  refine ⟨?_, ?_, ?_, ?_, h.own.thaw⟩
  · have := hc 0 _ rfl; rwa [Nat.zero_add] at this
  · have := hc 1 _ rfl; rwa [Nat.zero_add] at this
  · have := hc 2 _ rfl; rwa [Nat.zero_add] at this
  · have := hc 3 _ rfl; rwa [Nat.zero_add] at this

theorem DS.store {w wr : World} {b G k : Nat} {zs : List Int} {j : Nat} (h : DS w wr b G k zs (12 + 16 * j + 4 + 4 + 4 + 4) j) (hj : j < k) : DS w (setCells wr G (j * 4) (encE (entOf zs j))) b G k zs (12 + 16 * (j + 1)) (j + 1) := by
  have hst := ownS_store encE_len h.own hj (entOf zs j)
  rw [dirPart_set zs k j hj] at hst
  refine ⟨?_, hst, setCells_below h.le _ _ _ h.bel, h.ne, h.le⟩
  have hq := h.q
  rw [show 12 + 16 * j + 4 + 4 + 4 + 4 = 12 + 16 * (j + 1) by omega] at hq
  refine hq.keep (by rw [setCells_size]; exact Nat.le_refl _) fun g _ _ ho => setCells_block ?_ _ _ _
  rintro rfl
  rcases ho with e | ⟨cur, hc⟩
  · exact h.ne e.symm
  · rcases h.own.shape with ⟨e, _⟩ | ⟨g', cur', e, _, _, hh, _⟩
    · cases e
    · cases e
      rw [hc] at hh
      simp at hh

theorem rdq_take4 {w : World} {B b : Nat} {zs : List Int} {i : Nat} (h : RdQ w B b zs i) (hl : zs.length ≤ 140737488351232) : Calls Try.prog 65 #[.pointer (some ⟨b, 0, none⟩), .int .i64 4] w (RetQT w B b (told (zs.drop i) 4) zs (i + 4)) := rdq_take h hl 4 (by omega)

theorem ne_rd {w : World} {B b : Nat} {zs : List Int} {i : Nat} {A : Option Addr} {n : Nat} (hA : ∀ g, blockOf A = some g → B ≤ g ∧ ∃ cur, w.heap[g]? = some (.cells cur 5 (0, 0))) (hq : RdQ w B b zs i) : 0 < n → blockOf A ≠ some b := fun _ e => by
  obtain ⟨_, cur, hc⟩ := hA b e
  obtain ⟨cs, hb⟩ := hq.block
  exact u8_ne_rd hc hb rfl

set_option maxRecDepth 100000 in
set_option maxHeartbeats 4000000 in
theorem dir_any (A : Option Addr) (n c : Nat) (zs : List Int) (w : World) (hr : Row w A n (cellsOf .u8 zs)) (hB : Bytes zs) (hn : n ≤ 140737488351232) (hc : n ≤ c) :
    Calls Try.prog 34 #[.slice A n c] w (RetDir w (zs.take 1036)) := by
  obtain ⟨i0, hi, hz0, hz1, hz2⟩ := info_parts Try.entinfo
  obtain ⟨m, hm, hmn, hm36⟩ : ∃ m : Nat, min (n : Int) 1036 = m ∧ m ≤ n ∧ m ≤ 1036 := ⟨min n 1036, by omega, by omega, by omega⟩
  have hr' : Row w A m (cellsOf .u8 (zs.take 1036)) := by
    have h := hr.take (k := m) hmn
    rw [cellsOf_take] at h
    have hl := hr.len
    rw [show zs.take 1036 = zs.take m by
      rcases Nat.le_total n 1036 with h1 | h1
      · rw [List.take_of_length_le (by omega), List.take_of_length_le (by omega)]
      · rw [show m = 1036 by omega]]
    exact h
  have hB' : Bytes (zs.take 1036) := cut_bytes hB _
  have hl' := hr'.len
  clear hr hB
  generalize zs.take 1036 = ps at *
  have HB := Lib.hid hB'
  have HL := Lib.hid hl'
  have k0 := n2at_lt HB.out 4
  obtain ⟨k, hk⟩ : ∃ k : Nat, n2at ps 4 = k := ⟨cntN ps, by unfold cntN; omega⟩
  have hkc : cntN ps = k := by unfold cntN; omega
  have hk16 : (k : Int) < 65536 := by omega
  have hkz : (0 : Int) ≤ (k : Int) := by omega
  have key : ∃ s1 s2 s3 : Int, (∀ W, Calls Try.prog 20 #[.int .i64 (k : Int)] W fun e w' => e = .returned (.tuple #[.int .u16 s1, .int .u16 s2, .int .u16 s3]) ∧ W = w') ∧ dirB ps = (cntB k && ((n4at ps 0 == 65536) && decide ([n2at ps 6, n2at ps 8, n2at ps 10] = [s1, s2, s3])) && decide (12 + 16 * k ≤ m)) := by
    cases hcnt : cntB k with
    | false => exact ⟨0, 0, 0, fun W => search_no (k : Int) W hcnt, by unfold dirB; rw [hk, hcnt]; rfl⟩
    | true =>
      have h1 : 1 ≤ k ∧ k ≤ 64 := by unfold cntB at hcnt; simp at hcnt; omega
      exact ⟨_, _, _, fun W => search_any k W h1.1 h1.2, by unfold dirB frontB; rw [hk, hkc, hcnt, hl']⟩
  obtain ⟨s1, s2, s3, hs, hd⟩ := key
  have HS := Lib.hid hs
  have HD := Lib.hid hd
  have Hk := Lib.hid hk
  have Hkc := Lib.hid hkc
  clear hs hd
  have hmc : (m : Int) ≤ (c : Int) := by omega
  have hm0 : (0 : Int) ≤ (m : Int) := by omega
  clear hB' hl' k0 hkc hk
  go_enter Try.func34, Try.ntmps34
  go_wp2_with fail
  refine (dirSize_any 64 w (by omega) (by omega)).mono ?_
  rintro e w' ⟨rfl, rfl⟩
  go_wp2_with fail
  refine (new_any A m _ ps w hr' (by omega)).mono ?_
  rintro e w1 ⟨b, rfl, hrd, hb1⟩
  have hq := RdQ.new hrd
  clear hrd hr' hm
  go_wp2_with fail
  refine (rdq_u32 hq HB.out (by have := HL.out; omega)).mono ?_
  rintro e w2 ⟨rfl, hq2, hg2⟩
  have hB2 := hb1.grown hg2 hb1.size (fun k e => by cases e; exact hq.from_)
  clear hq hg2 hb1
  go_wp2_with fail
  refine (rdq_u16 hq2 HB.out (by have := HL.out; omega)).mono ?_
  rintro e w3 ⟨rfl, hq3, hg3⟩
  have hB3 := hB2.grown hg3 hB2.size (fun k e => by cases e; exact hq2.from_)
  clear hq2 hg3 hB2
  rw [show n2at ps (0 + 4) = (k : Int) from Hk.out]
  go_wp2_with fail
  with_reducible refine (HS.out w3).mono ?_
  rintro e w' ⟨rfl, rfl⟩
  have HC := Lib.hid (fun W => countable_any (k : Int) W)
  cases e1 : (n4at ps 0 == 65536) with
  | false =>
    have HN : Hid (dirB ps = false) := by show dirB ps = false; rw [HD.out, e1]; simp
    go_wp2
    go_ret2
    exact retDir_no HN.out hB3
  | true =>
    go_wp2_with fail
    with_reducible refine (rdq_u16 hq3 HB.out (by have := HL.out; omega)).mono ?_
    rintro e w4 ⟨rfl, hq4, hg4⟩
    have hB4 := hB3.grown hg4 hB3.size (fun k e => by cases e; exact hq3.from_)
    clear hq3 hg4 hB3
    go_wp2_with fail
    with_reducible refine (rdq_u16 hq4 HB.out (by have := HL.out; omega)).mono ?_
    rintro e w5 ⟨rfl, hq5, hg5⟩
    have hB5 := hB4.grown hg5 hB4.size (fun k e => by cases e; exact hq4.from_)
    clear hq4 hg5 hB4
    go_wp2_with fail
    with_reducible refine (rdq_u16 hq5 HB.out (by have := HL.out; omega)).mono ?_
    rintro e w6 ⟨rfl, hq6, hg6⟩
    have hB6 := hB5.grown hg6 hB5.size (fun k e => by cases e; exact hq5.from_)
    clear hq5 hg6 hB5
    simp only [Nat.zero_add, Nat.reduceAdd] at hq6 ⊢
    have heq : (Op.equalIn 10000 104 (.agg #[.int .u16 (n2at ps 6), .int .u16 (n2at ps 8), .int .u16 (n2at ps 10)]) (.agg #[.int .u16 s1, .int .u16 s2, .int .u16 s3])).run Try.prog w6 = .ok (decide ([n2at ps 6, n2at ps 8, n2at ps 10] = [s1, s2, s3])) w6 := eq_three w6 9998 _ _ _ _ _ _
    cases e2 : decide ([n2at ps 6, n2at ps 8, n2at ps 10] = [s1, s2, s3]) with
    | false =>
      have HN : Hid (dirB ps = false) := by show dirB ps = false; rw [HD.out, e1, e2]; simp
      rw [e2] at heq
      clear e2 e1
      go_wp2
      go_ret2
      exact retDir_no HN.out hB6
    | true =>
      rw [e2] at heq
      cases hcnt : cntB k with
      | false =>
        have HN : Hid (dirB ps = false) := by show dirB ps = false; rw [HD.out, hcnt]; simp
        rw [hcnt] at HC
        clear e2 e1 hcnt
        go_wp2_with fail
        with_reducible refine (HC.out w6).mono ?_
        rintro e w' ⟨rfl, rfl⟩
        go_wp2
        go_ret2
        exact retDir_no HN.out hB6
      | true =>
        have HY : Hid (dirB ps = decide (12 + 16 * k ≤ m)) := by show dirB ps = _; rw [HD.out, hcnt, e1, e2]; rfl
        have hk64 : 1 ≤ k ∧ k ≤ 64 := by unfold cntB at hcnt; simp at hcnt; omega
        rw [hcnt] at HC
        clear e2 e1 hcnt
        go_wp2_with fail
        with_reducible refine (HC.out w6).mono ?_
        rintro e w' ⟨rfl, rfl⟩
        clear heq
        go_wp2_with (at_make; refine wpList_make_S rfl (.tmp 53) (.tmp 53) _ rfl 73 encE 4 encE_len (by omega) w.heap.size i0 _ ent0 32 Try.underlying67 hi hz0 hz1 rfl hz2 _ _ k rfl rfl rfl rfl (by omega) (by omega) hB6.size ?_; intro w7 hown hg7)
        have hs : DS w w7 b w6.heap.size k ps 12 0 := by
          refine ⟨hq6.keep hg7.size (fun g hg _ _ => hg7.block g hg (by simp)), ?_, hB6.grown hg7 hB6.size (fun k e => by cases e), by have := hq6.lt; omega, hB6.size⟩
          rw [dirPart_zero]
          exact hown
        have HS0 := Lib.hid hs
        generalize w6.heap.size = G at *
        clear hs hown hg7 hq6 hB6
        go_loopw [57] (fun i wr => ∃ j : Nat, j ≤ k ∧ i = .int .i64 j ∧ DS w wr b G k ps (12 + 16 * j) j) (fun i _ => k - (intOf i).toNat)
        case atStart => exact ⟨0, Nat.zero_le _, rfl, HS0.out⟩
        case round =>
          clear HS0
          obtain ⟨j, hj, rfl, hs⟩ := hrel
          by_cases hlt : j < k
          · have hj0 : (0 : Int) ≤ (j : Int) := by omega
            have hj1 : (j : Int) < (k : Int) := by omega
            go_upto_region 12 with fail
            replace hs := hs.drew
            obtain ⟨r0, r1, r2, r3, f0⟩ := hs.cells hlt
            go_region_held (fun w' => True)
              (trivial)
              (first
                | (go_at_call 65; (with_reducible refine (rdq_take4 hs.q (by have := HL.out; omega)).mono ?_); rintro e wt ⟨At, nt, ct, rfl, hrow, hA, hq, hg⟩; replace hs := hs.ask hq hg; have hne := ne_rd (n := nt) hA hq; have hconv := conv_str At nt ct _ wt hrow; clear hA hq hg r0 r1 r2 r3 f0; obtain ⟨r0, r1, r2, r3, f0⟩ := hs.cells hlt)
                | (go_at_call 63; (with_reducible refine (rdq_u32 hs.q HB.out (by have := HL.out; omega)).mono ?_); rintro e wt ⟨rfl, hq, hg⟩; replace hs := hs.ask hq hg; replace hrow := hrow.ask hg hne; replace hconv := conv_str At nt ct _ wt hrow; clear hq hg r0 r1 r2 r3 f0; obtain ⟨r0, r1, r2, r3, f0⟩ := hs.cells hlt))
            all_goals
              have HT := Lib.hid (hs.store hlt)
              clear hs hrow hne
              go_wp2
              go_roundw
              case rel => exact ⟨j + 1, by omega, by go_num, HT.out⟩
              case measure => simp [intOf]; omega
          · obtain rfl : j = k := by omega
            have hq := hs.q
            have hown := hs.own
            have hbel := hs.bel
            rw [dirPart_full] at hown
            have HO := Lib.hid hown
            have HBl := Lib.hid hbel
            clear hs hown hbel
            go_wp2_with fail
            with_reducible refine (rdq_badB hq).mono ?_
            rintro e w' ⟨rfl, rfl⟩
            clear hq
            go_wp2
            go_ret2
            refine ⟨_, _, _, _, rfl, HBl.out, ?_, fun _ => ?_⟩
            · rw [HY.out, HL.out]
              by_cases hmm : m < 12 + 16 * j
              · rw [decide_eq_true hmm, decide_eq_false (by omega)]; rfl
              · rw [decide_eq_false hmm, decide_eq_true (by omega)]; rfl
            · unfold dirL
              rw [Hkc.out]
              exact HO.out

end Go.Proofs.Ytlkidnacfljpkaa
