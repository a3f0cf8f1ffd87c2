/- The law WordReads. -/
import Derived.Test.YteampemlkkkfcaaWrites
namespace Go.Proofs.Yteampemlkkkfcaa
open Go.RowKit
set_option linter.unusedVariables false

theorem n2_zero (A : Option Addr) (n c : Nat) (zs : List Int) (w : World) (hr : Row w A n (cellsOf .u8 zs)) (hB : Bytes zs) (hn : n ≤ 140737488351232) :
    Calls Try.prog 18 #[.slice A n c, .int .i64 0] w (Quiet w (.tuple #[.int .i64 (n2v zs 0), .bool (n2b zs 0)])) := n2_any A n c zs 0 w hr hB hn (by omega)
theorem n4_zero (A : Option Addr) (n c : Nat) (zs : List Int) (w : World) (hr : Row w A n (cellsOf .u8 zs)) (hB : Bytes zs) (hn : n ≤ 140737488351232) :
    Calls Try.prog 19 #[.slice A n c, .int .i64 0] w (Quiet w (.tuple #[.int .u32 (n4v zs 0), .bool (n4b zs 0)])) := n4_any A n c zs 0 w hr hB hn (by omega)

/-- What a Reader of ps has left. -/
def stL (ps : List Int) (a : Nat) (bad : Bool) : List Int := if bad then [] else ps.drop a

theorem st_ok (ps : List Int) (a m : Nat) (h : a + m ≤ ps.length) : told (stL ps a false) m = part ps a (a + m) ∧ rest (stL ps a false) m = stL ps (a + m) false ∧ gone (stL ps a false) a m = ((a + m : Nat) : Int) ∧ badn (stL ps a false) false m = false := by
  have h1 : m ≤ (ps.drop a).length := by rw [List.length_drop]; omega
  simp only [stL, Bool.false_eq_true, if_false, told, rest, gone, badn, if_pos h1]
  refine ⟨?_, ?_, by omega, trivial⟩
  · unfold part
    rw [List.drop_take]
    congr 1
    omega
  · rw [List.drop_drop]

theorem st_no (ps : List Int) (a m : Nat) (bad : Bool) (ha : a ≤ ps.length) (h : bad = true ∨ ps.length < a + m) : told (stL ps a bad) m = [] ∧ rest (stL ps a bad) m = stL ps a true ∧ gone (stL ps a bad) a m = (a : Int) ∧ badn (stL ps a bad) bad m = true := by
  cases bad with
  | true =>
    simp only [stL, if_true, told, rest, gone, badn]
    by_cases hm : m ≤ ([] : List Int).length
    · have : m = 0 := by simpa using hm
      subst this
      simp
    · simp only [if_neg hm]; simp
  | false =>
    have h1 : ¬ m ≤ (ps.drop a).length := by rw [List.length_drop]; rcases h with h | h; cases h; omega
    simp only [stL, Bool.false_eq_true, if_false, told, rest, gone, badn, if_neg h1]; simp

theorem st_bytes {ps : List Int} (h : Bytes ps) (a : Nat) (bad : Bool) : Bytes (stL ps a bad) := by
  unfold stL
  split
  · intro x hx; cases hx
  · exact fun x hx => h x (List.mem_of_mem_drop hx)
theorem st_len (ps : List Int) (a : Nat) (bad : Bool) : (stL ps a bad).length ≤ ps.length := by unfold stL; split <;> simp

theorem part_bytes {ps : List Int} (h : Bytes ps) (a b : Nat) : Bytes (part ps a b) := fun x hx => h x (List.mem_of_mem_take (List.mem_of_mem_drop hx))
theorem part_len (ps : List Int) (a m : Nat) (h : a + m ≤ ps.length) : (part ps a (a + m)).length = m := by unfold part; rw [List.length_drop, List.length_take]; omega

theorem n2_be (q : List Int) (h : q.length = 2) : n2v q 0 = be q := by
  match q, h with
  | [x, y], _ => simp [n2v, be]; omega
theorem n4_be (q : List Int) (h : q.length = 4) : n4v q 0 = be q := by
  match q, h with
  | [x, y, z, t], _ => simp [n4v, n2v, be]; omega

/-- What holds at a round's head. -/
def ReadsRel (w : World) (r n1 : Nat) (A1 : Option Addr) (ps : List Int) (a : Nat) (bad : Bool) (wr : World) : Prop :=
  a ≤ n1 ∧ Rd wr w.heap.size r (stL ps a bad) a bad ∧ Row wr A1 n1 (cellsOf .u8 ps) ∧ Below w.heap.size w wr

set_option maxRecDepth 100000 in
set_option maxHeartbeats 20000000 in
theorem law_WordReads (A : Option Addr) (n c : Nat) (zs : List Int) (AA : Option Addr) (nA cA : Nat) (as_ : List Int) (w : World) (hr : Row w A n (cellsOf .u8 zs)) (hB : Bytes zs) (hn : n ≤ 9223372036854775807)
    (hrA : Row w AA nA (cellsOf .u8 as_)) (hBA : Bytes as_) (hnA : nA ≤ 9223372036854775807) :
    Calls Try.prog 3 #[.slice A n c, .slice AA nA cA] w (True_ w) := by
  go_enter Try.func3, Try.ntmps3
  go_wp2_with fail
  refine (awake_any w).mono ?_
  rintro e w0 ⟨rfl, hb0⟩
  go_wp2_with fail
  refine (cut_any _ _ _ zs 60 _ (hr.below hb0) hn (by omega)).mono ?_
  rintro e w1 ⟨A1, n1, c1, rfl, hown, hb1'⟩
  have hb1 : Below w.heap.size w w1 := hb0.trans (hb1'.mono hb0.size)
  have hB1 : Bytes (zs.take (60 : Int).toNat) := cut_bytes hB _
  have hl1 : n1 ≤ 60 := by have := hown.len; rw [List.length_take] at this; simp at this; omega
  clear hb1' hb0 hr hB hn
  generalize zs.take (60 : Int).toNat = ps at *
  go_wp2_with fail
  refine (new_any _ _ _ ps _ hown.row (by omega)).mono ?_
  rintro e w2 ⟨r, rfl, hrd, hb2'⟩
  have Hne := Lib.hid (hown.row.ne hrd.from_)
  have hrow : Row w2 A1 n1 (cellsOf .u8 ps) := hown.row.below hb2'
  have hs1 := hb1.size
  have hb2 : Below w.heap.size w w2 := hb1.trans (hb2'.mono hs1)
  have hfrom : w.heap.size ≤ r := by have := hrd.from_; omega
  have hrd2 : Rd w2 w.heap.size r (stL ps 0 false) ((0 : Nat) : Int) false := by simpa [stL] using hrd.mono hs1
  have Hl : Hid (ps.length = n1) := hown.len
  have Hst : Hid (ReadsRel w r n1 A1 ps 0 false w2) := ⟨Nat.zero_le _, hrd2, hrow, hb2⟩
  have HLA := Lib.hid hrA.len
  have HBA := Lib.hid hBA
  have HB := Lib.hid hB1
  clear hown hb2' hrd hb1 hs1 hrow hb2 hrd2 hB1 hBA
  go_wp2
  go_loopw [6, 7, 27] (fun s6 s7 i wr => ∃ (k a : Nat) (bad : Bool), k ≤ nA ∧ i = .int .i64 k ∧ s6 = .int .i64 a ∧ s7 = .bool bad ∧ ReadsRel w r n1 A1 ps a bad wr) (fun _ _ i _ => nA - (intOf i).toNat)
  case atStart => exact ⟨0, 0, false, Nat.zero_le _, rfl, rfl, rfl, Hst.out⟩
  case round =>
    clear Hst
    obtain ⟨k, a, bad, hk, rfl, rfl, rfl, han, hrd, hrow, hb⟩ := hrel
    by_cases hlt : k < nA
    · obtain ⟨x, ex⟩ := get_some (zs := as_) (k := k) (by have := HLA.out; omega)
      obtain ⟨g, off, hAA, _, hc⟩ := (hrA.below hb).at (cellsOf_get (k := .u8) ex)
      subst hAA
      obtain ⟨x0, x1⟩ := HBA.out x (List.mem_of_getElem? ex)
      have HBA' := HBA
      clear ex
      by_cases hk20 : 20 ≤ k
      · go_wp2
        go_ret
        exact ⟨rfl, hb⟩
      · have hk19 : k < 20 := by omega
        clear hk20
        obtain ⟨m5, hm5⟩ : ∃ m : Nat, x / 5 % 12 = (m : Int) := Int.eq_ofNat_of_zero_le (by omega)
        have hm5b : m5 ≤ 11 := by omega
        have h5 : x % 5 = 0 ∨ x % 5 = 1 ∨ x % 5 = 2 ∨ x % 5 = 3 ∨ x % 5 = 4 := by omega
        have hs := hb.size
        rcases h5 with h5 | h5 | h5 | h5 | h5
        · skip
          cases bad with
          | true =>
            have Hno : Hid (true = true ∨ ps.length < a + 1) := .inl rfl
            have hq := st_no ps a 1 true (by have := Hl.out; omega) Hno.out
            have Hq := Lib.hid hq
            clear hq
            have hal : Below wr.heap.size wr (wr.alloc (.cells #[.int .i64 1, .int .i64 2, .int .i64 2, .int .i64 4, .int .i64 (m5 : Int)] 3)) := (Below.refl _ _).alloc (Nat.le_refl _) _
            have hrd2 := hrd.below hal
            have hrow2 := hrow.below hal
            have hb2 := hb.alloc hs (.cells #[.int .i64 1, .int .i64 2, .int .i64 2, .int .i64 4, .int .i64 (m5 : Int)] 3)
            clear hal hrd hrow hb
            go_wp2_with fail
            refine (n2_zero none 0 0 [] _ (Row.empty _ _) (fun x hx => by cases hx) (by omega)).mono ?_
            rintro e w3 ⟨rfl, q, rfl⟩
            rw [show n2v [] 0 = 0 from rfl]
            have hrd3 := hrd2.drewN q
            have hrow3 := hrow2.drewN q
            have hb3 := below_drewN hb2 q
            generalize World.drewN _ q = w3 at *
            clear hrd2 hrow2 hb2
            go_wp2_with fail
            refine (n4_zero none 0 0 [] _ (Row.empty _ _) (fun x hx => by cases hx) (by omega)).mono ?_
            rintro e w4 ⟨rfl, q', rfl⟩
            rw [show n4v [] 0 = 0 from rfl]
            have hrd4 := hrd3.drewN q'
            have hrow4 := hrow3.drewN q'
            have hb4 := below_drewN hb3 q'
            generalize World.drewN w3 q' = w4 at *
            clear hrd3 hrow3 hb3
            go_wp2_with fail
            refine (u8_any _ r _ _ _ _ hrd4 (st_bytes HB.out a true) (by have := st_len ps a true; have := Hl.out; omega) (by omega) (by omega)).mono ?_
            rintro e w5 ⟨rfl, hrd5, hg⟩
            have hb5 : Below w.heap.size w w5 := hb4.grown hg hb4.size (fun k e => by cases e; exact hfrom)
            have hp5 := hrow4.ask hg Hne.out
            rw [Hq.out.2.1, Hq.out.2.2.1, Hq.out.2.2.2] at hrd5
            rw [show num (stL ps a true) 1 = 0 by unfold num; rw [Hq.out.1]; rfl]
            clear hg hrd4 hrow4 hb4
            go_wp2_with fail
            refine (bad_any _ r _ _ _ _ hrd5).mono ?_
            rintro e w' ⟨rfl, rfl⟩
            go_wp2_with fail
            refine (left_any _ r _ _ _ _ hrd5).mono ?_
            rintro e w' ⟨rfl, rfl⟩
            rw [show (stL ps a true).length = 0 from rfl]
            have hya : ((a : Int) != (a : Int)) = false := by simp
            go_wp2_with fail
            refine (at_any _ r _ _ _ _ hrd5).mono ?_
            rintro e w' ⟨rfl, rfl⟩
            go_wp2
            go_roundw
            case rel => exact ⟨k + 1, a, true, by omega, by go_num, rfl, rfl, han, hrd5, hp5, hb5⟩
            case measure => simp [intOf]; omega
          | false =>
            by_cases hbig : n1 < a + 1
            · skip
              have Hno : Hid (false = true ∨ ps.length < a + 1) := .inr (by have := Hl.out; omega)
              have hbt : decide ((n1 : Int) - (a : Int) < 1) = true := by simp; omega
              have hq := st_no ps a 1 false (by have := Hl.out; omega) Hno.out
              have Hq := Lib.hid hq
              clear hq
              have hal : Below wr.heap.size wr (wr.alloc (.cells #[.int .i64 1, .int .i64 2, .int .i64 2, .int .i64 4, .int .i64 (m5 : Int)] 3)) := (Below.refl _ _).alloc (Nat.le_refl _) _
              have hrd2 := hrd.below hal
              have hrow2 := hrow.below hal
              have hb2 := hb.alloc hs (.cells #[.int .i64 1, .int .i64 2, .int .i64 2, .int .i64 4, .int .i64 (m5 : Int)] 3)
              clear hal hrd hrow hb
              go_wp2_with fail
              refine (n2_zero none 0 0 [] _ (Row.empty _ _) (fun x hx => by cases hx) (by omega)).mono ?_
              rintro e w3 ⟨rfl, q, rfl⟩
              rw [show n2v [] 0 = 0 from rfl]
              have hrd3 := hrd2.drewN q
              have hrow3 := hrow2.drewN q
              have hb3 := below_drewN hb2 q
              generalize World.drewN _ q = w3 at *
              clear hrd2 hrow2 hb2
              go_wp2_with fail
              refine (n4_zero none 0 0 [] _ (Row.empty _ _) (fun x hx => by cases hx) (by omega)).mono ?_
              rintro e w4 ⟨rfl, q', rfl⟩
              rw [show n4v [] 0 = 0 from rfl]
              have hrd4 := hrd3.drewN q'
              have hrow4 := hrow3.drewN q'
              have hb4 := below_drewN hb3 q'
              generalize World.drewN w3 q' = w4 at *
              clear hrd3 hrow3 hb3
              go_wp2_with fail
              refine (u8_any _ r _ _ _ _ hrd4 (st_bytes HB.out a false) (by have := st_len ps a false; have := Hl.out; omega) (by omega) (by omega)).mono ?_
              rintro e w5 ⟨rfl, hrd5, hg⟩
              have hb5 : Below w.heap.size w w5 := hb4.grown hg hb4.size (fun k e => by cases e; exact hfrom)
              have hp5 := hrow4.ask hg Hne.out
              rw [Hq.out.2.1, Hq.out.2.2.1, Hq.out.2.2.2] at hrd5
              rw [show num (stL ps a false) 1 = 0 by unfold num; rw [Hq.out.1]; rfl]
              clear hg hrd4 hrow4 hb4
              go_wp2_with fail
              refine (bad_any _ r _ _ _ _ hrd5).mono ?_
              rintro e w' ⟨rfl, rfl⟩
              go_wp2_with fail
              refine (left_any _ r _ _ _ _ hrd5).mono ?_
              rintro e w' ⟨rfl, rfl⟩
              rw [show (stL ps a true).length = 0 from rfl]
              have hya : ((a : Int) != (a : Int)) = false := by simp
              go_wp2_with fail
              refine (at_any _ r _ _ _ _ hrd5).mono ?_
              rintro e w' ⟨rfl, rfl⟩
              go_wp2
              go_roundw
              case rel => exact ⟨k + 1, a, true, by omega, by go_num, rfl, rfl, han, hrd5, hp5, hb5⟩
              case measure => simp [intOf]; omega
            · skip
              have hbt : decide ((n1 : Int) - (a : Int) < 1) = false := by simp; omega
              have hq := st_ok ps a 1 (by have := Hl.out; omega)
              have Hq := Lib.hid hq
              clear hq
              have hal : Below wr.heap.size wr (wr.alloc (.cells #[.int .i64 1, .int .i64 2, .int .i64 2, .int .i64 4, .int .i64 (m5 : Int)] 3)) := (Below.refl _ _).alloc (Nat.le_refl _) _
              have hrd2 := hrd.below hal
              have hrow2 := hrow.below hal
              have hb2 := hb.alloc hs (.cells #[.int .i64 1, .int .i64 2, .int .i64 2, .int .i64 4, .int .i64 (m5 : Int)] 3)
              clear hal hrd hrow hb
              go_wp2_with fail
              refine (part_any _ _ _ ps _ _ _ hrow2 (by omega) (by omega)).mono ?_
              rintro e w2 ⟨A3, n3, k3, rfl, hown3, hb3'⟩
              have Hne3 : Hid (0 < n3 → blockOf A3 ≠ some r) := fun _ e => by have := (hown3.from_ r e).1; have := hrd2.lt; omega
              rw [show (a : Int).toNat = a by omega, show ((a : Int) + 1).toNat = a + 1 by omega] at hown3
              have hb2s := hb2.size
              have hrd3 := hrd2.below hb3'
              have hrow3 := hrow2.below hb3'
              have hb3 : Below w.heap.size w w2 := hb2.trans (hb3'.mono hb2s)
              have hq3 := hown3.row
              have Hql : Hid ((part ps a (a + 1)).length = 1) := part_len ps a 1 (by have := Hl.out; omega)
              have HQB : Hid (Bytes (part ps a (a + 1))) := part_bytes HB.out _ _
              have hn3b : n3 ≤ 60 := by have := hown3.len; have := Hql.out; omega
              obtain ⟨qs, hqs⟩ : ∃ qs, part ps a (a + 1) = qs := ⟨_, rfl⟩
              have HQ := Lib.hid hqs
              rw [hqs] at hq3 Hql HQB
              clear hqs hrd2 hrow2 hb2 hb2s hb3' hown3
              obtain ⟨n20, n21⟩ := n2v_le HQB.out 0
              go_wp2_with fail
              refine (n2_zero _ _ _ qs _ hq3 HQB.out (by omega)).mono ?_
              rintro e w3 ⟨rfl, q, rfl⟩
              have hrd4 := hrd3.drewN q
              have hrow4 := hrow3.drewN q
              have hb4 := below_drewN hb3 q
              have hq4 := hq3.drewN q
              generalize World.drewN w2 q = w3 at *
              clear hrd3 hrow3 hb3 hq3
              have hrd3 := hrd4
              have hrow3 := hrow4
              have hb3 := hb4
              have hq3 := hq4
              clear hrd4 hrow4 hb4 hq4
              go_wp2_with fail
              refine (n4_zero _ _ _ qs _ hq3 HQB.out (by omega)).mono ?_
              rintro e w4 ⟨rfl, q', rfl⟩
              have hrd4 := hrd3.drewN q'
              have hrow4 := hrow3.drewN q'
              have hb4 := below_drewN hb3 q'
              have hq4 := hq3.drewN q'
              generalize World.drewN w3 q' = w4 at *
              clear hrd3 hrow3 hb3 hq3
              go_wp2_with fail
              refine (u8_any _ r _ _ _ _ hrd4 (st_bytes HB.out a false) (by have := st_len ps a false; have := Hl.out; omega) (by omega) (by omega)).mono ?_
              rintro e w5 ⟨rfl, hrd5, hg⟩
              have hb5 : Below w.heap.size w w5 := hb4.grown hg hb4.size (fun k e => by cases e; exact hfrom)
              have hp5 := hrow4.ask hg Hne.out
              rw [Hq.out.2.1, Hq.out.2.2.1, Hq.out.2.2.2] at hrd5
              obtain ⟨y, hy⟩ := List.length_eq_one_iff.1 Hql.out
              rw [show num (stL ps a false) 1 = y by unfold num; rw [Hq.out.1, HQ.out, hy]; simp [be]]
              rw [hy] at hq4
              have hn3 : n3 = 1 := hq4.len.symm
              subst hn3
              obtain ⟨g3, off3, hA3, _, hc3⟩ := (hq4.ask hg Hne3.out).at (j := 0) (u := .int .u8 y) rfl
              subst hA3
              rw [Nat.add_zero] at hc3
              have hyy : (y == y) = true := by simp
              clear hg hrd4 hrow4 hb4
              go_wp2_with fail
              refine (bad_any _ r _ _ _ _ hrd5).mono ?_
              rintro e w' ⟨rfl, rfl⟩
              go_wp2_with fail
              refine (left_any _ r _ _ _ _ hrd5).mono ?_
              rintro e w' ⟨rfl, rfl⟩
              rw [show ((stL ps (a + 1) false).length : Int) = (n1 : Int) - ((a : Int) + 1) by simp only [stL, Bool.false_eq_true, if_false, List.length_drop]; have := Hl.out; omega]
              have hyl : ((n1 : Int) - ((a : Int) + 1) != (n1 : Int) - ((a : Int) + 1)) = false := by simp
              have hya : ((a : Int) + 1 != (a : Int) + 1) = false := by simp
              go_wp2_with fail
              refine (at_any _ r _ _ _ _ hrd5).mono ?_
              rintro e w' ⟨rfl, rfl⟩
              rw [show ((a + 1 : Nat) : Int) = (a : Int) + 1 by omega]
              go_wp2
              go_roundw
              case rel => exact ⟨k + 1, (a + 1), false, by omega, by go_num, by go_num, rfl, by omega, hrd5, hp5, hb5⟩
              case measure => simp [intOf]; omega
        · skip
          cases bad with
          | true =>
            have Hno : Hid (true = true ∨ ps.length < a + 2) := .inl rfl
            have hq := st_no ps a 2 true (by have := Hl.out; omega) Hno.out
            have Hq := Lib.hid hq
            clear hq
            have hal : Below wr.heap.size wr (wr.alloc (.cells #[.int .i64 1, .int .i64 2, .int .i64 2, .int .i64 4, .int .i64 (m5 : Int)] 3)) := (Below.refl _ _).alloc (Nat.le_refl _) _
            have hrd2 := hrd.below hal
            have hrow2 := hrow.below hal
            have hb2 := hb.alloc hs (.cells #[.int .i64 1, .int .i64 2, .int .i64 2, .int .i64 4, .int .i64 (m5 : Int)] 3)
            clear hal hrd hrow hb
            go_wp2_with fail
            refine (n2_zero none 0 0 [] _ (Row.empty _ _) (fun x hx => by cases hx) (by omega)).mono ?_
            rintro e w3 ⟨rfl, q, rfl⟩
            rw [show n2v [] 0 = 0 from rfl]
            have hrd3 := hrd2.drewN q
            have hrow3 := hrow2.drewN q
            have hb3 := below_drewN hb2 q
            generalize World.drewN _ q = w3 at *
            clear hrd2 hrow2 hb2
            go_wp2_with fail
            refine (n4_zero none 0 0 [] _ (Row.empty _ _) (fun x hx => by cases hx) (by omega)).mono ?_
            rintro e w4 ⟨rfl, q', rfl⟩
            rw [show n4v [] 0 = 0 from rfl]
            have hrd4 := hrd3.drewN q'
            have hrow4 := hrow3.drewN q'
            have hb4 := below_drewN hb3 q'
            generalize World.drewN w3 q' = w4 at *
            clear hrd3 hrow3 hb3
            go_wp2_with fail
            refine (u16_any _ r _ _ _ _ hrd4 (st_bytes HB.out a true) (by have := st_len ps a true; have := Hl.out; omega) (by omega) (by omega)).mono ?_
            rintro e w5 ⟨rfl, hrd5, hg⟩
            have hb5 : Below w.heap.size w w5 := hb4.grown hg hb4.size (fun k e => by cases e; exact hfrom)
            have hp5 := hrow4.ask hg Hne.out
            rw [Hq.out.2.1, Hq.out.2.2.1, Hq.out.2.2.2] at hrd5
            rw [show num (stL ps a true) 2 = 0 by unfold num; rw [Hq.out.1]; rfl]
            clear hg hrd4 hrow4 hb4
            go_wp2_with fail
            refine (bad_any _ r _ _ _ _ hrd5).mono ?_
            rintro e w' ⟨rfl, rfl⟩
            go_wp2_with fail
            refine (left_any _ r _ _ _ _ hrd5).mono ?_
            rintro e w' ⟨rfl, rfl⟩
            rw [show (stL ps a true).length = 0 from rfl]
            have hya : ((a : Int) != (a : Int)) = false := by simp
            go_wp2_with fail
            refine (at_any _ r _ _ _ _ hrd5).mono ?_
            rintro e w' ⟨rfl, rfl⟩
            go_wp2
            go_roundw
            case rel => exact ⟨k + 1, a, true, by omega, by go_num, rfl, rfl, han, hrd5, hp5, hb5⟩
            case measure => simp [intOf]; omega
          | false =>
            by_cases hbig : n1 < a + 2
            · skip
              have Hno : Hid (false = true ∨ ps.length < a + 2) := .inr (by have := Hl.out; omega)
              have hbt : decide ((n1 : Int) - (a : Int) < 2) = true := by simp; omega
              have hq := st_no ps a 2 false (by have := Hl.out; omega) Hno.out
              have Hq := Lib.hid hq
              clear hq
              have hal : Below wr.heap.size wr (wr.alloc (.cells #[.int .i64 1, .int .i64 2, .int .i64 2, .int .i64 4, .int .i64 (m5 : Int)] 3)) := (Below.refl _ _).alloc (Nat.le_refl _) _
              have hrd2 := hrd.below hal
              have hrow2 := hrow.below hal
              have hb2 := hb.alloc hs (.cells #[.int .i64 1, .int .i64 2, .int .i64 2, .int .i64 4, .int .i64 (m5 : Int)] 3)
              clear hal hrd hrow hb
              go_wp2_with fail
              refine (n2_zero none 0 0 [] _ (Row.empty _ _) (fun x hx => by cases hx) (by omega)).mono ?_
              rintro e w3 ⟨rfl, q, rfl⟩
              rw [show n2v [] 0 = 0 from rfl]
              have hrd3 := hrd2.drewN q
              have hrow3 := hrow2.drewN q
              have hb3 := below_drewN hb2 q
              generalize World.drewN _ q = w3 at *
              clear hrd2 hrow2 hb2
              go_wp2_with fail
              refine (n4_zero none 0 0 [] _ (Row.empty _ _) (fun x hx => by cases hx) (by omega)).mono ?_
              rintro e w4 ⟨rfl, q', rfl⟩
              rw [show n4v [] 0 = 0 from rfl]
              have hrd4 := hrd3.drewN q'
              have hrow4 := hrow3.drewN q'
              have hb4 := below_drewN hb3 q'
              generalize World.drewN w3 q' = w4 at *
              clear hrd3 hrow3 hb3
              go_wp2_with fail
              refine (u16_any _ r _ _ _ _ hrd4 (st_bytes HB.out a false) (by have := st_len ps a false; have := Hl.out; omega) (by omega) (by omega)).mono ?_
              rintro e w5 ⟨rfl, hrd5, hg⟩
              have hb5 : Below w.heap.size w w5 := hb4.grown hg hb4.size (fun k e => by cases e; exact hfrom)
              have hp5 := hrow4.ask hg Hne.out
              rw [Hq.out.2.1, Hq.out.2.2.1, Hq.out.2.2.2] at hrd5
              rw [show num (stL ps a false) 2 = 0 by unfold num; rw [Hq.out.1]; rfl]
              clear hg hrd4 hrow4 hb4
              go_wp2_with fail
              refine (bad_any _ r _ _ _ _ hrd5).mono ?_
              rintro e w' ⟨rfl, rfl⟩
              go_wp2_with fail
              refine (left_any _ r _ _ _ _ hrd5).mono ?_
              rintro e w' ⟨rfl, rfl⟩
              rw [show (stL ps a true).length = 0 from rfl]
              have hya : ((a : Int) != (a : Int)) = false := by simp
              go_wp2_with fail
              refine (at_any _ r _ _ _ _ hrd5).mono ?_
              rintro e w' ⟨rfl, rfl⟩
              go_wp2
              go_roundw
              case rel => exact ⟨k + 1, a, true, by omega, by go_num, rfl, rfl, han, hrd5, hp5, hb5⟩
              case measure => simp [intOf]; omega
            · skip
              have hbt : decide ((n1 : Int) - (a : Int) < 2) = false := by simp; omega
              have hq := st_ok ps a 2 (by have := Hl.out; omega)
              have Hq := Lib.hid hq
              clear hq
              have hal : Below wr.heap.size wr (wr.alloc (.cells #[.int .i64 1, .int .i64 2, .int .i64 2, .int .i64 4, .int .i64 (m5 : Int)] 3)) := (Below.refl _ _).alloc (Nat.le_refl _) _
              have hrd2 := hrd.below hal
              have hrow2 := hrow.below hal
              have hb2 := hb.alloc hs (.cells #[.int .i64 1, .int .i64 2, .int .i64 2, .int .i64 4, .int .i64 (m5 : Int)] 3)
              clear hal hrd hrow hb
              go_wp2_with fail
              refine (part_any _ _ _ ps _ _ _ hrow2 (by omega) (by omega)).mono ?_
              rintro e w2 ⟨A3, n3, k3, rfl, hown3, hb3'⟩
              have Hne3 : Hid (0 < n3 → blockOf A3 ≠ some r) := fun _ e => by have := (hown3.from_ r e).1; have := hrd2.lt; omega
              rw [show (a : Int).toNat = a by omega, show ((a : Int) + 2).toNat = a + 2 by omega] at hown3
              have hb2s := hb2.size
              have hrd3 := hrd2.below hb3'
              have hrow3 := hrow2.below hb3'
              have hb3 : Below w.heap.size w w2 := hb2.trans (hb3'.mono hb2s)
              have hq3 := hown3.row
              have Hql : Hid ((part ps a (a + 2)).length = 2) := part_len ps a 2 (by have := Hl.out; omega)
              have HQB : Hid (Bytes (part ps a (a + 2))) := part_bytes HB.out _ _
              have hn3b : n3 ≤ 60 := by have := hown3.len; have := Hql.out; omega
              obtain ⟨qs, hqs⟩ : ∃ qs, part ps a (a + 2) = qs := ⟨_, rfl⟩
              have HQ := Lib.hid hqs
              rw [hqs] at hq3 Hql HQB
              clear hqs hrd2 hrow2 hb2 hb2s hb3' hown3
              obtain ⟨n20, n21⟩ := n2v_le HQB.out 0
              go_wp2_with fail
              refine (n2_zero _ _ _ qs _ hq3 HQB.out (by omega)).mono ?_
              rintro e w3 ⟨rfl, q, rfl⟩
              have hrd4 := hrd3.drewN q
              have hrow4 := hrow3.drewN q
              have hb4 := below_drewN hb3 q
              have hq4 := hq3.drewN q
              generalize World.drewN w2 q = w3 at *
              clear hrd3 hrow3 hb3 hq3
              have hrd3 := hrd4
              have hrow3 := hrow4
              have hb3 := hb4
              have hq3 := hq4
              clear hrd4 hrow4 hb4 hq4
              go_wp2_with fail
              refine (n4_zero _ _ _ qs _ hq3 HQB.out (by omega)).mono ?_
              rintro e w4 ⟨rfl, q', rfl⟩
              have hrd4 := hrd3.drewN q'
              have hrow4 := hrow3.drewN q'
              have hb4 := below_drewN hb3 q'
              have hq4 := hq3.drewN q'
              generalize World.drewN w3 q' = w4 at *
              clear hrd3 hrow3 hb3 hq3
              go_wp2_with fail
              refine (u16_any _ r _ _ _ _ hrd4 (st_bytes HB.out a false) (by have := st_len ps a false; have := Hl.out; omega) (by omega) (by omega)).mono ?_
              rintro e w5 ⟨rfl, hrd5, hg⟩
              have hb5 : Below w.heap.size w w5 := hb4.grown hg hb4.size (fun k e => by cases e; exact hfrom)
              have hp5 := hrow4.ask hg Hne.out
              rw [Hq.out.2.1, Hq.out.2.2.1, Hq.out.2.2.2] at hrd5
              rw [show num (stL ps a false) 2 = n2v qs 0 by unfold num; rw [Hq.out.1, HQ.out]; exact (n2_be _ Hql.out).symm]
              have hyy : (n2v qs 0 == n2v qs 0) = true := by simp
              clear hg hrd4 hrow4 hb4
              go_wp2_with fail
              refine (bad_any _ r _ _ _ _ hrd5).mono ?_
              rintro e w' ⟨rfl, rfl⟩
              go_wp2_with fail
              refine (left_any _ r _ _ _ _ hrd5).mono ?_
              rintro e w' ⟨rfl, rfl⟩
              rw [show ((stL ps (a + 2) false).length : Int) = (n1 : Int) - ((a : Int) + 2) by simp only [stL, Bool.false_eq_true, if_false, List.length_drop]; have := Hl.out; omega]
              have hyl : ((n1 : Int) - ((a : Int) + 2) != (n1 : Int) - ((a : Int) + 2)) = false := by simp
              have hya : ((a : Int) + 2 != (a : Int) + 2) = false := by simp
              go_wp2_with fail
              refine (at_any _ r _ _ _ _ hrd5).mono ?_
              rintro e w' ⟨rfl, rfl⟩
              rw [show ((a + 2 : Nat) : Int) = (a : Int) + 2 by omega]
              go_wp2
              go_roundw
              case rel => exact ⟨k + 1, (a + 2), false, by omega, by go_num, by go_num, rfl, by omega, hrd5, hp5, hb5⟩
              case measure => simp [intOf]; omega
        · skip
          cases bad with
          | true =>
            have Hno : Hid (true = true ∨ ps.length < a + 2) := .inl rfl
            have hq := st_no ps a 2 true (by have := Hl.out; omega) Hno.out
            have Hq := Lib.hid hq
            clear hq
            have hal : Below wr.heap.size wr (wr.alloc (.cells #[.int .i64 1, .int .i64 2, .int .i64 2, .int .i64 4, .int .i64 (m5 : Int)] 3)) := (Below.refl _ _).alloc (Nat.le_refl _) _
            have hrd2 := hrd.below hal
            have hrow2 := hrow.below hal
            have hb2 := hb.alloc hs (.cells #[.int .i64 1, .int .i64 2, .int .i64 2, .int .i64 4, .int .i64 (m5 : Int)] 3)
            clear hal hrd hrow hb
            go_wp2_with fail
            refine (n2_zero none 0 0 [] _ (Row.empty _ _) (fun x hx => by cases hx) (by omega)).mono ?_
            rintro e w3 ⟨rfl, q, rfl⟩
            rw [show n2v [] 0 = 0 from rfl]
            have hrd3 := hrd2.drewN q
            have hrow3 := hrow2.drewN q
            have hb3 := below_drewN hb2 q
            generalize World.drewN _ q = w3 at *
            clear hrd2 hrow2 hb2
            go_wp2_with fail
            refine (n4_zero none 0 0 [] _ (Row.empty _ _) (fun x hx => by cases hx) (by omega)).mono ?_
            rintro e w4 ⟨rfl, q', rfl⟩
            rw [show n4v [] 0 = 0 from rfl]
            have hrd4 := hrd3.drewN q'
            have hrow4 := hrow3.drewN q'
            have hb4 := below_drewN hb3 q'
            generalize World.drewN w3 q' = w4 at *
            clear hrd3 hrow3 hb3
            go_wp2_with fail
            refine (i16_any _ r _ _ _ _ hrd4 (st_bytes HB.out a true) (by have := st_len ps a true; have := Hl.out; omega) (by omega) (by omega)).mono ?_
            rintro e w5 ⟨rfl, hrd5, hg⟩
            have hb5 : Below w.heap.size w w5 := hb4.grown hg hb4.size (fun k e => by cases e; exact hfrom)
            have hp5 := hrow4.ask hg Hne.out
            rw [Hq.out.2.1, Hq.out.2.2.1, Hq.out.2.2.2] at hrd5
            rw [show sgn (num (stL ps a true) 2) = 0 by unfold num; rw [Hq.out.1]; rfl]
            clear hg hrd4 hrow4 hb4
            go_wp2_with fail
            refine (sign_any 0 _ (by omega) (by omega)).mono ?_
            rintro e w' ⟨rfl, rfl⟩
            rw [show (if (32767 : Int) < 0 then (0 : Int) - 65536 else 0) = 0 from rfl]
            go_wp2_with fail
            refine (bad_any _ r _ _ _ _ hrd5).mono ?_
            rintro e w' ⟨rfl, rfl⟩
            go_wp2_with fail
            refine (left_any _ r _ _ _ _ hrd5).mono ?_
            rintro e w' ⟨rfl, rfl⟩
            rw [show (stL ps a true).length = 0 from rfl]
            have hya : ((a : Int) != (a : Int)) = false := by simp
            go_wp2_with fail
            refine (at_any _ r _ _ _ _ hrd5).mono ?_
            rintro e w' ⟨rfl, rfl⟩
            go_wp2
            go_roundw
            case rel => exact ⟨k + 1, a, true, by omega, by go_num, rfl, rfl, han, hrd5, hp5, hb5⟩
            case measure => simp [intOf]; omega
          | false =>
            by_cases hbig : n1 < a + 2
            · skip
              have Hno : Hid (false = true ∨ ps.length < a + 2) := .inr (by have := Hl.out; omega)
              have hbt : decide ((n1 : Int) - (a : Int) < 2) = true := by simp; omega
              have hq := st_no ps a 2 false (by have := Hl.out; omega) Hno.out
              have Hq := Lib.hid hq
              clear hq
              have hal : Below wr.heap.size wr (wr.alloc (.cells #[.int .i64 1, .int .i64 2, .int .i64 2, .int .i64 4, .int .i64 (m5 : Int)] 3)) := (Below.refl _ _).alloc (Nat.le_refl _) _
              have hrd2 := hrd.below hal
              have hrow2 := hrow.below hal
              have hb2 := hb.alloc hs (.cells #[.int .i64 1, .int .i64 2, .int .i64 2, .int .i64 4, .int .i64 (m5 : Int)] 3)
              clear hal hrd hrow hb
              go_wp2_with fail
              refine (n2_zero none 0 0 [] _ (Row.empty _ _) (fun x hx => by cases hx) (by omega)).mono ?_
              rintro e w3 ⟨rfl, q, rfl⟩
              rw [show n2v [] 0 = 0 from rfl]
              have hrd3 := hrd2.drewN q
              have hrow3 := hrow2.drewN q
              have hb3 := below_drewN hb2 q
              generalize World.drewN _ q = w3 at *
              clear hrd2 hrow2 hb2
              go_wp2_with fail
              refine (n4_zero none 0 0 [] _ (Row.empty _ _) (fun x hx => by cases hx) (by omega)).mono ?_
              rintro e w4 ⟨rfl, q', rfl⟩
              rw [show n4v [] 0 = 0 from rfl]
              have hrd4 := hrd3.drewN q'
              have hrow4 := hrow3.drewN q'
              have hb4 := below_drewN hb3 q'
              generalize World.drewN w3 q' = w4 at *
              clear hrd3 hrow3 hb3
              go_wp2_with fail
              refine (i16_any _ r _ _ _ _ hrd4 (st_bytes HB.out a false) (by have := st_len ps a false; have := Hl.out; omega) (by omega) (by omega)).mono ?_
              rintro e w5 ⟨rfl, hrd5, hg⟩
              have hb5 : Below w.heap.size w w5 := hb4.grown hg hb4.size (fun k e => by cases e; exact hfrom)
              have hp5 := hrow4.ask hg Hne.out
              rw [Hq.out.2.1, Hq.out.2.2.1, Hq.out.2.2.2] at hrd5
              rw [show sgn (num (stL ps a false) 2) = 0 by unfold num; rw [Hq.out.1]; rfl]
              clear hg hrd4 hrow4 hb4
              go_wp2_with fail
              refine (sign_any 0 _ (by omega) (by omega)).mono ?_
              rintro e w' ⟨rfl, rfl⟩
              rw [show (if (32767 : Int) < 0 then (0 : Int) - 65536 else 0) = 0 from rfl]
              go_wp2_with fail
              refine (bad_any _ r _ _ _ _ hrd5).mono ?_
              rintro e w' ⟨rfl, rfl⟩
              go_wp2_with fail
              refine (left_any _ r _ _ _ _ hrd5).mono ?_
              rintro e w' ⟨rfl, rfl⟩
              rw [show (stL ps a true).length = 0 from rfl]
              have hya : ((a : Int) != (a : Int)) = false := by simp
              go_wp2_with fail
              refine (at_any _ r _ _ _ _ hrd5).mono ?_
              rintro e w' ⟨rfl, rfl⟩
              go_wp2
              go_roundw
              case rel => exact ⟨k + 1, a, true, by omega, by go_num, rfl, rfl, han, hrd5, hp5, hb5⟩
              case measure => simp [intOf]; omega
            · skip
              have hbt : decide ((n1 : Int) - (a : Int) < 2) = false := by simp; omega
              have hq := st_ok ps a 2 (by have := Hl.out; omega)
              have Hq := Lib.hid hq
              clear hq
              have hal : Below wr.heap.size wr (wr.alloc (.cells #[.int .i64 1, .int .i64 2, .int .i64 2, .int .i64 4, .int .i64 (m5 : Int)] 3)) := (Below.refl _ _).alloc (Nat.le_refl _) _
              have hrd2 := hrd.below hal
              have hrow2 := hrow.below hal
              have hb2 := hb.alloc hs (.cells #[.int .i64 1, .int .i64 2, .int .i64 2, .int .i64 4, .int .i64 (m5 : Int)] 3)
              clear hal hrd hrow hb
              go_wp2_with fail
              refine (part_any _ _ _ ps _ _ _ hrow2 (by omega) (by omega)).mono ?_
              rintro e w2 ⟨A3, n3, k3, rfl, hown3, hb3'⟩
              have Hne3 : Hid (0 < n3 → blockOf A3 ≠ some r) := fun _ e => by have := (hown3.from_ r e).1; have := hrd2.lt; omega
              rw [show (a : Int).toNat = a by omega, show ((a : Int) + 2).toNat = a + 2 by omega] at hown3
              have hb2s := hb2.size
              have hrd3 := hrd2.below hb3'
              have hrow3 := hrow2.below hb3'
              have hb3 : Below w.heap.size w w2 := hb2.trans (hb3'.mono hb2s)
              have hq3 := hown3.row
              have Hql : Hid ((part ps a (a + 2)).length = 2) := part_len ps a 2 (by have := Hl.out; omega)
              have HQB : Hid (Bytes (part ps a (a + 2))) := part_bytes HB.out _ _
              have hn3b : n3 ≤ 60 := by have := hown3.len; have := Hql.out; omega
              obtain ⟨qs, hqs⟩ : ∃ qs, part ps a (a + 2) = qs := ⟨_, rfl⟩
              have HQ := Lib.hid hqs
              rw [hqs] at hq3 Hql HQB
              clear hqs hrd2 hrow2 hb2 hb2s hb3' hown3
              obtain ⟨n20, n21⟩ := n2v_le HQB.out 0
              go_wp2_with fail
              refine (n2_zero _ _ _ qs _ hq3 HQB.out (by omega)).mono ?_
              rintro e w3 ⟨rfl, q, rfl⟩
              have hrd4 := hrd3.drewN q
              have hrow4 := hrow3.drewN q
              have hb4 := below_drewN hb3 q
              have hq4 := hq3.drewN q
              generalize World.drewN w2 q = w3 at *
              clear hrd3 hrow3 hb3 hq3
              have hrd3 := hrd4
              have hrow3 := hrow4
              have hb3 := hb4
              have hq3 := hq4
              clear hrd4 hrow4 hb4 hq4
              go_wp2_with fail
              refine (n4_zero _ _ _ qs _ hq3 HQB.out (by omega)).mono ?_
              rintro e w4 ⟨rfl, q', rfl⟩
              have hrd4 := hrd3.drewN q'
              have hrow4 := hrow3.drewN q'
              have hb4 := below_drewN hb3 q'
              have hq4 := hq3.drewN q'
              generalize World.drewN w3 q' = w4 at *
              clear hrd3 hrow3 hb3 hq3
              go_wp2_with fail
              refine (i16_any _ r _ _ _ _ hrd4 (st_bytes HB.out a false) (by have := st_len ps a false; have := Hl.out; omega) (by omega) (by omega)).mono ?_
              rintro e w5 ⟨rfl, hrd5, hg⟩
              have hb5 : Below w.heap.size w w5 := hb4.grown hg hb4.size (fun k e => by cases e; exact hfrom)
              have hp5 := hrow4.ask hg Hne.out
              rw [Hq.out.2.1, Hq.out.2.2.1, Hq.out.2.2.2] at hrd5
              rw [show num (stL ps a false) 2 = n2v qs 0 by unfold num; rw [Hq.out.1, HQ.out]; exact (n2_be _ Hql.out).symm]
              clear hg hrd4 hrow4 hb4
              by_cases hsg : 32767 < n2v qs 0
              · rw [show sgn (n2v qs 0) = n2v qs 0 - 65536 by unfold sgn; rw [if_pos hsg]]
                have hyy : (n2v qs 0 - 65536 == n2v qs 0 - 65536) = true := by simp
                go_wp2_with fail
                refine (sign_any (n2v qs 0) _ n20 (by omega)).mono ?_
                rintro e w' ⟨rfl, rfl⟩
                rw [if_pos hsg]
                go_wp2_with fail
                refine (bad_any _ r _ _ _ _ hrd5).mono ?_
                rintro e w' ⟨rfl, rfl⟩
                go_wp2_with fail
                refine (left_any _ r _ _ _ _ hrd5).mono ?_
                rintro e w' ⟨rfl, rfl⟩
                rw [show ((stL ps (a + 2) false).length : Int) = (n1 : Int) - ((a : Int) + 2) by simp only [stL, Bool.false_eq_true, if_false, List.length_drop]; have := Hl.out; omega]
                have hyl : ((n1 : Int) - ((a : Int) + 2) != (n1 : Int) - ((a : Int) + 2)) = false := by simp
                have hya : ((a : Int) + 2 != (a : Int) + 2) = false := by simp
                go_wp2_with fail
                refine (at_any _ r _ _ _ _ hrd5).mono ?_
                rintro e w' ⟨rfl, rfl⟩
                rw [show ((a + 2 : Nat) : Int) = (a : Int) + 2 by omega]
                go_wp2
                go_roundw
                case rel => exact ⟨k + 1, (a + 2), false, by omega, by go_num, by go_num, rfl, by omega, hrd5, hp5, hb5⟩
                case measure => simp [intOf]; omega
              · rw [show sgn (n2v qs 0) = n2v qs 0 by unfold sgn; rw [if_neg hsg]]
                have hyy : (n2v qs 0 == n2v qs 0) = true := by simp
                go_wp2_with fail
                refine (sign_any (n2v qs 0) _ n20 (by omega)).mono ?_
                rintro e w' ⟨rfl, rfl⟩
                rw [if_neg (by omega)]
                go_wp2_with fail
                refine (bad_any _ r _ _ _ _ hrd5).mono ?_
                rintro e w' ⟨rfl, rfl⟩
                go_wp2_with fail
                refine (left_any _ r _ _ _ _ hrd5).mono ?_
                rintro e w' ⟨rfl, rfl⟩
                rw [show ((stL ps (a + 2) false).length : Int) = (n1 : Int) - ((a : Int) + 2) by simp only [stL, Bool.false_eq_true, if_false, List.length_drop]; have := Hl.out; omega]
                have hyl : ((n1 : Int) - ((a : Int) + 2) != (n1 : Int) - ((a : Int) + 2)) = false := by simp
                have hya : ((a : Int) + 2 != (a : Int) + 2) = false := by simp
                go_wp2_with fail
                refine (at_any _ r _ _ _ _ hrd5).mono ?_
                rintro e w' ⟨rfl, rfl⟩
                rw [show ((a + 2 : Nat) : Int) = (a : Int) + 2 by omega]
                go_wp2
                go_roundw
                case rel => exact ⟨k + 1, (a + 2), false, by omega, by go_num, by go_num, rfl, by omega, hrd5, hp5, hb5⟩
                case measure => simp [intOf]; omega
        · skip
          cases bad with
          | true =>
            have Hno : Hid (true = true ∨ ps.length < a + 4) := .inl rfl
            have hq := st_no ps a 4 true (by have := Hl.out; omega) Hno.out
            have Hq := Lib.hid hq
            clear hq
            have hal : Below wr.heap.size wr (wr.alloc (.cells #[.int .i64 1, .int .i64 2, .int .i64 2, .int .i64 4, .int .i64 (m5 : Int)] 3)) := (Below.refl _ _).alloc (Nat.le_refl _) _
            have hrd2 := hrd.below hal
            have hrow2 := hrow.below hal
            have hb2 := hb.alloc hs (.cells #[.int .i64 1, .int .i64 2, .int .i64 2, .int .i64 4, .int .i64 (m5 : Int)] 3)
            clear hal hrd hrow hb
            go_wp2_with fail
            refine (n2_zero none 0 0 [] _ (Row.empty _ _) (fun x hx => by cases hx) (by omega)).mono ?_
            rintro e w3 ⟨rfl, q, rfl⟩
            rw [show n2v [] 0 = 0 from rfl]
            have hrd3 := hrd2.drewN q
            have hrow3 := hrow2.drewN q
            have hb3 := below_drewN hb2 q
            generalize World.drewN _ q = w3 at *
            clear hrd2 hrow2 hb2
            go_wp2_with fail
            refine (n4_zero none 0 0 [] _ (Row.empty _ _) (fun x hx => by cases hx) (by omega)).mono ?_
            rintro e w4 ⟨rfl, q', rfl⟩
            rw [show n4v [] 0 = 0 from rfl]
            have hrd4 := hrd3.drewN q'
            have hrow4 := hrow3.drewN q'
            have hb4 := below_drewN hb3 q'
            generalize World.drewN w3 q' = w4 at *
            clear hrd3 hrow3 hb3
            go_wp2_with fail
            refine (u32_any _ r _ _ _ _ hrd4 (st_bytes HB.out a true) (by have := st_len ps a true; have := Hl.out; omega) (by omega) (by omega)).mono ?_
            rintro e w5 ⟨rfl, hrd5, hg⟩
            have hb5 : Below w.heap.size w w5 := hb4.grown hg hb4.size (fun k e => by cases e; exact hfrom)
            have hp5 := hrow4.ask hg Hne.out
            rw [Hq.out.2.1, Hq.out.2.2.1, Hq.out.2.2.2] at hrd5
            rw [show num (stL ps a true) 4 = 0 by unfold num; rw [Hq.out.1]; rfl]
            clear hg hrd4 hrow4 hb4
            go_wp2_with fail
            refine (bad_any _ r _ _ _ _ hrd5).mono ?_
            rintro e w' ⟨rfl, rfl⟩
            go_wp2_with fail
            refine (left_any _ r _ _ _ _ hrd5).mono ?_
            rintro e w' ⟨rfl, rfl⟩
            rw [show (stL ps a true).length = 0 from rfl]
            have hya : ((a : Int) != (a : Int)) = false := by simp
            go_wp2_with fail
            refine (at_any _ r _ _ _ _ hrd5).mono ?_
            rintro e w' ⟨rfl, rfl⟩
            go_wp2
            go_roundw
            case rel => exact ⟨k + 1, a, true, by omega, by go_num, rfl, rfl, han, hrd5, hp5, hb5⟩
            case measure => simp [intOf]; omega
          | false =>
            by_cases hbig : n1 < a + 4
            · skip
              have Hno : Hid (false = true ∨ ps.length < a + 4) := .inr (by have := Hl.out; omega)
              have hbt : decide ((n1 : Int) - (a : Int) < 4) = true := by simp; omega
              have hq := st_no ps a 4 false (by have := Hl.out; omega) Hno.out
              have Hq := Lib.hid hq
              clear hq
              have hal : Below wr.heap.size wr (wr.alloc (.cells #[.int .i64 1, .int .i64 2, .int .i64 2, .int .i64 4, .int .i64 (m5 : Int)] 3)) := (Below.refl _ _).alloc (Nat.le_refl _) _
              have hrd2 := hrd.below hal
              have hrow2 := hrow.below hal
              have hb2 := hb.alloc hs (.cells #[.int .i64 1, .int .i64 2, .int .i64 2, .int .i64 4, .int .i64 (m5 : Int)] 3)
              clear hal hrd hrow hb
              go_wp2_with fail
              refine (n2_zero none 0 0 [] _ (Row.empty _ _) (fun x hx => by cases hx) (by omega)).mono ?_
              rintro e w3 ⟨rfl, q, rfl⟩
              rw [show n2v [] 0 = 0 from rfl]
              have hrd3 := hrd2.drewN q
              have hrow3 := hrow2.drewN q
              have hb3 := below_drewN hb2 q
              generalize World.drewN _ q = w3 at *
              clear hrd2 hrow2 hb2
              go_wp2_with fail
              refine (n4_zero none 0 0 [] _ (Row.empty _ _) (fun x hx => by cases hx) (by omega)).mono ?_
              rintro e w4 ⟨rfl, q', rfl⟩
              rw [show n4v [] 0 = 0 from rfl]
              have hrd4 := hrd3.drewN q'
              have hrow4 := hrow3.drewN q'
              have hb4 := below_drewN hb3 q'
              generalize World.drewN w3 q' = w4 at *
              clear hrd3 hrow3 hb3
              go_wp2_with fail
              refine (u32_any _ r _ _ _ _ hrd4 (st_bytes HB.out a false) (by have := st_len ps a false; have := Hl.out; omega) (by omega) (by omega)).mono ?_
              rintro e w5 ⟨rfl, hrd5, hg⟩
              have hb5 : Below w.heap.size w w5 := hb4.grown hg hb4.size (fun k e => by cases e; exact hfrom)
              have hp5 := hrow4.ask hg Hne.out
              rw [Hq.out.2.1, Hq.out.2.2.1, Hq.out.2.2.2] at hrd5
              rw [show num (stL ps a false) 4 = 0 by unfold num; rw [Hq.out.1]; rfl]
              clear hg hrd4 hrow4 hb4
              go_wp2_with fail
              refine (bad_any _ r _ _ _ _ hrd5).mono ?_
              rintro e w' ⟨rfl, rfl⟩
              go_wp2_with fail
              refine (left_any _ r _ _ _ _ hrd5).mono ?_
              rintro e w' ⟨rfl, rfl⟩
              rw [show (stL ps a true).length = 0 from rfl]
              have hya : ((a : Int) != (a : Int)) = false := by simp
              go_wp2_with fail
              refine (at_any _ r _ _ _ _ hrd5).mono ?_
              rintro e w' ⟨rfl, rfl⟩
              go_wp2
              go_roundw
              case rel => exact ⟨k + 1, a, true, by omega, by go_num, rfl, rfl, han, hrd5, hp5, hb5⟩
              case measure => simp [intOf]; omega
            · skip
              have hbt : decide ((n1 : Int) - (a : Int) < 4) = false := by simp; omega
              have hq := st_ok ps a 4 (by have := Hl.out; omega)
              have Hq := Lib.hid hq
              clear hq
              have hal : Below wr.heap.size wr (wr.alloc (.cells #[.int .i64 1, .int .i64 2, .int .i64 2, .int .i64 4, .int .i64 (m5 : Int)] 3)) := (Below.refl _ _).alloc (Nat.le_refl _) _
              have hrd2 := hrd.below hal
              have hrow2 := hrow.below hal
              have hb2 := hb.alloc hs (.cells #[.int .i64 1, .int .i64 2, .int .i64 2, .int .i64 4, .int .i64 (m5 : Int)] 3)
              clear hal hrd hrow hb
              go_wp2_with fail
              refine (part_any _ _ _ ps _ _ _ hrow2 (by omega) (by omega)).mono ?_
              rintro e w2 ⟨A3, n3, k3, rfl, hown3, hb3'⟩
              have Hne3 : Hid (0 < n3 → blockOf A3 ≠ some r) := fun _ e => by have := (hown3.from_ r e).1; have := hrd2.lt; omega
              rw [show (a : Int).toNat = a by omega, show ((a : Int) + 4).toNat = a + 4 by omega] at hown3
              have hb2s := hb2.size
              have hrd3 := hrd2.below hb3'
              have hrow3 := hrow2.below hb3'
              have hb3 : Below w.heap.size w w2 := hb2.trans (hb3'.mono hb2s)
              have hq3 := hown3.row
              have Hql : Hid ((part ps a (a + 4)).length = 4) := part_len ps a 4 (by have := Hl.out; omega)
              have HQB : Hid (Bytes (part ps a (a + 4))) := part_bytes HB.out _ _
              have hn3b : n3 ≤ 60 := by have := hown3.len; have := Hql.out; omega
              obtain ⟨qs, hqs⟩ : ∃ qs, part ps a (a + 4) = qs := ⟨_, rfl⟩
              have HQ := Lib.hid hqs
              rw [hqs] at hq3 Hql HQB
              clear hqs hrd2 hrow2 hb2 hb2s hb3' hown3
              obtain ⟨n20, n21⟩ := n2v_le HQB.out 0
              go_wp2_with fail
              refine (n2_zero _ _ _ qs _ hq3 HQB.out (by omega)).mono ?_
              rintro e w3 ⟨rfl, q, rfl⟩
              have hrd4 := hrd3.drewN q
              have hrow4 := hrow3.drewN q
              have hb4 := below_drewN hb3 q
              have hq4 := hq3.drewN q
              generalize World.drewN w2 q = w3 at *
              clear hrd3 hrow3 hb3 hq3
              have hrd3 := hrd4
              have hrow3 := hrow4
              have hb3 := hb4
              have hq3 := hq4
              clear hrd4 hrow4 hb4 hq4
              go_wp2_with fail
              refine (n4_zero _ _ _ qs _ hq3 HQB.out (by omega)).mono ?_
              rintro e w4 ⟨rfl, q', rfl⟩
              have hrd4 := hrd3.drewN q'
              have hrow4 := hrow3.drewN q'
              have hb4 := below_drewN hb3 q'
              have hq4 := hq3.drewN q'
              generalize World.drewN w3 q' = w4 at *
              clear hrd3 hrow3 hb3 hq3
              go_wp2_with fail
              refine (u32_any _ r _ _ _ _ hrd4 (st_bytes HB.out a false) (by have := st_len ps a false; have := Hl.out; omega) (by omega) (by omega)).mono ?_
              rintro e w5 ⟨rfl, hrd5, hg⟩
              have hb5 : Below w.heap.size w w5 := hb4.grown hg hb4.size (fun k e => by cases e; exact hfrom)
              have hp5 := hrow4.ask hg Hne.out
              rw [Hq.out.2.1, Hq.out.2.2.1, Hq.out.2.2.2] at hrd5
              rw [show num (stL ps a false) 4 = n4v qs 0 by unfold num; rw [Hq.out.1, HQ.out]; exact (n4_be _ Hql.out).symm]
              have hyy : (n4v qs 0 == n4v qs 0) = true := by simp
              clear hg hrd4 hrow4 hb4
              go_wp2_with fail
              refine (bad_any _ r _ _ _ _ hrd5).mono ?_
              rintro e w' ⟨rfl, rfl⟩
              go_wp2_with fail
              refine (left_any _ r _ _ _ _ hrd5).mono ?_
              rintro e w' ⟨rfl, rfl⟩
              rw [show ((stL ps (a + 4) false).length : Int) = (n1 : Int) - ((a : Int) + 4) by simp only [stL, Bool.false_eq_true, if_false, List.length_drop]; have := Hl.out; omega]
              have hyl : ((n1 : Int) - ((a : Int) + 4) != (n1 : Int) - ((a : Int) + 4)) = false := by simp
              have hya : ((a : Int) + 4 != (a : Int) + 4) = false := by simp
              go_wp2_with fail
              refine (at_any _ r _ _ _ _ hrd5).mono ?_
              rintro e w' ⟨rfl, rfl⟩
              rw [show ((a + 4 : Nat) : Int) = (a : Int) + 4 by omega]
              go_wp2
              go_roundw
              case rel => exact ⟨k + 1, (a + 4), false, by omega, by go_num, by go_num, rfl, by omega, hrd5, hp5, hb5⟩
              case measure => simp [intOf]; omega
        · skip
          cases bad with
          | true =>
            have Hno : Hid (true = true ∨ ps.length < a + m5) := .inl rfl
            have hq := st_no ps a m5 true (by have := Hl.out; omega) Hno.out
            have Hq := Lib.hid hq
            clear hq
            have hal : Below wr.heap.size wr (wr.alloc (.cells #[.int .i64 1, .int .i64 2, .int .i64 2, .int .i64 4, .int .i64 (m5 : Int)] 3)) := (Below.refl _ _).alloc (Nat.le_refl _) _
            have hrd2 := hrd.below hal
            have hrow2 := hrow.below hal
            have hb2 := hb.alloc hs (.cells #[.int .i64 1, .int .i64 2, .int .i64 2, .int .i64 4, .int .i64 (m5 : Int)] 3)
            clear hal hrd hrow hb
            go_wp2_with fail
            refine (n2_zero none 0 0 [] _ (Row.empty _ _) (fun x hx => by cases hx) (by omega)).mono ?_
            rintro e w3 ⟨rfl, q, rfl⟩
            rw [show n2v [] 0 = 0 from rfl]
            have hrd3 := hrd2.drewN q
            have hrow3 := hrow2.drewN q
            have hb3 := below_drewN hb2 q
            generalize World.drewN _ q = w3 at *
            clear hrd2 hrow2 hb2
            go_wp2_with fail
            refine (n4_zero none 0 0 [] _ (Row.empty _ _) (fun x hx => by cases hx) (by omega)).mono ?_
            rintro e w4 ⟨rfl, q', rfl⟩
            rw [show n4v [] 0 = 0 from rfl]
            have hrd4 := hrd3.drewN q'
            have hrow4 := hrow3.drewN q'
            have hb4 := below_drewN hb3 q'
            generalize World.drewN w3 q' = w4 at *
            clear hrd3 hrow3 hb3
            go_wp2_with fail
            refine (take_any _ r _ _ _ _ hrd4 (by have := st_len ps a true; have := Hl.out; omega) (by omega) (by omega) m5).mono ?_
            rintro e w5 ⟨A5, n5, k5, rfl, hrow5, _, hrd5, hg⟩
            have hb5 : Below w.heap.size w w5 := hb4.grown hg hb4.size (fun k e => by cases e; exact hfrom)
            have hp5 := hrow4.ask hg Hne.out
            rw [Hq.out.2.1, Hq.out.2.2.1, Hq.out.2.2.2] at hrd5
            rw [Hq.out.1] at hrow5
            have hn5 : n5 ≤ 60 := by have := hrow5.len; simp at this; omega
            clear hg hrd4 hrow4 hb4
            go_wp2_with fail
            refine (same_any _ _ _ _ _ _ _ [] _ hrow5 (Row.empty _ _) (by omega) (by omega)).mono ?_
            rintro e w6 ⟨rfl, q2, rfl⟩
            rw [sameB_refl]
            have hrd6 := hrd5.drewN q2
            have hp6 := hp5.drewN q2
            have hb6 := below_drewN hb5 q2
            generalize World.drewN w5 q2 = w6 at *
            clear hrd5 hp5 hb5 hrow5
            obtain ⟨w5, rfl⟩ : ∃ x, x = w6 := ⟨w6, rfl⟩
            have hrd5 := hrd6
            have hp5 := hp6
            have hb5 := hb6
            clear hrd6 hp6 hb6
            go_wp2_with fail
            refine (bad_any _ r _ _ _ _ hrd5).mono ?_
            rintro e w' ⟨rfl, rfl⟩
            go_wp2_with fail
            refine (left_any _ r _ _ _ _ hrd5).mono ?_
            rintro e w' ⟨rfl, rfl⟩
            rw [show (stL ps a true).length = 0 from rfl]
            have hya : ((a : Int) != (a : Int)) = false := by simp
            go_wp2_with fail
            refine (at_any _ r _ _ _ _ hrd5).mono ?_
            rintro e w' ⟨rfl, rfl⟩
            go_wp2
            go_roundw
            case rel => exact ⟨k + 1, a, true, by omega, by go_num, rfl, rfl, han, hrd5, hp5, hb5⟩
            case measure => simp [intOf]; omega
          | false =>
            by_cases hbig : n1 < a + m5
            · skip
              have Hno : Hid (false = true ∨ ps.length < a + m5) := .inr (by have := Hl.out; omega)
              have hbt : decide ((n1 : Int) - (a : Int) < (m5 : Int)) = true := by simp; omega
              have hq := st_no ps a m5 false (by have := Hl.out; omega) Hno.out
              have Hq := Lib.hid hq
              clear hq
              have hal : Below wr.heap.size wr (wr.alloc (.cells #[.int .i64 1, .int .i64 2, .int .i64 2, .int .i64 4, .int .i64 (m5 : Int)] 3)) := (Below.refl _ _).alloc (Nat.le_refl _) _
              have hrd2 := hrd.below hal
              have hrow2 := hrow.below hal
              have hb2 := hb.alloc hs (.cells #[.int .i64 1, .int .i64 2, .int .i64 2, .int .i64 4, .int .i64 (m5 : Int)] 3)
              clear hal hrd hrow hb
              go_wp2_with fail
              refine (n2_zero none 0 0 [] _ (Row.empty _ _) (fun x hx => by cases hx) (by omega)).mono ?_
              rintro e w3 ⟨rfl, q, rfl⟩
              rw [show n2v [] 0 = 0 from rfl]
              have hrd3 := hrd2.drewN q
              have hrow3 := hrow2.drewN q
              have hb3 := below_drewN hb2 q
              generalize World.drewN _ q = w3 at *
              clear hrd2 hrow2 hb2
              go_wp2_with fail
              refine (n4_zero none 0 0 [] _ (Row.empty _ _) (fun x hx => by cases hx) (by omega)).mono ?_
              rintro e w4 ⟨rfl, q', rfl⟩
              rw [show n4v [] 0 = 0 from rfl]
              have hrd4 := hrd3.drewN q'
              have hrow4 := hrow3.drewN q'
              have hb4 := below_drewN hb3 q'
              generalize World.drewN w3 q' = w4 at *
              clear hrd3 hrow3 hb3
              go_wp2_with fail
              refine (take_any _ r _ _ _ _ hrd4 (by have := st_len ps a false; have := Hl.out; omega) (by omega) (by omega) m5).mono ?_
              rintro e w5 ⟨A5, n5, k5, rfl, hrow5, _, hrd5, hg⟩
              have hb5 : Below w.heap.size w w5 := hb4.grown hg hb4.size (fun k e => by cases e; exact hfrom)
              have hp5 := hrow4.ask hg Hne.out
              rw [Hq.out.2.1, Hq.out.2.2.1, Hq.out.2.2.2] at hrd5
              rw [Hq.out.1] at hrow5
              have hn5 : n5 ≤ 60 := by have := hrow5.len; simp at this; omega
              clear hg hrd4 hrow4 hb4
              go_wp2_with fail
              refine (same_any _ _ _ _ _ _ _ [] _ hrow5 (Row.empty _ _) (by omega) (by omega)).mono ?_
              rintro e w6 ⟨rfl, q2, rfl⟩
              rw [sameB_refl]
              have hrd6 := hrd5.drewN q2
              have hp6 := hp5.drewN q2
              have hb6 := below_drewN hb5 q2
              generalize World.drewN w5 q2 = w6 at *
              clear hrd5 hp5 hb5 hrow5
              obtain ⟨w5, rfl⟩ : ∃ x, x = w6 := ⟨w6, rfl⟩
              have hrd5 := hrd6
              have hp5 := hp6
              have hb5 := hb6
              clear hrd6 hp6 hb6
              go_wp2_with fail
              refine (bad_any _ r _ _ _ _ hrd5).mono ?_
              rintro e w' ⟨rfl, rfl⟩
              go_wp2_with fail
              refine (left_any _ r _ _ _ _ hrd5).mono ?_
              rintro e w' ⟨rfl, rfl⟩
              rw [show (stL ps a true).length = 0 from rfl]
              have hya : ((a : Int) != (a : Int)) = false := by simp
              go_wp2_with fail
              refine (at_any _ r _ _ _ _ hrd5).mono ?_
              rintro e w' ⟨rfl, rfl⟩
              go_wp2
              go_roundw
              case rel => exact ⟨k + 1, a, true, by omega, by go_num, rfl, rfl, han, hrd5, hp5, hb5⟩
              case measure => simp [intOf]; omega
            · skip
              have hbt : decide ((n1 : Int) - (a : Int) < (m5 : Int)) = false := by simp; omega
              have hq := st_ok ps a m5 (by have := Hl.out; omega)
              have Hq := Lib.hid hq
              clear hq
              have hal : Below wr.heap.size wr (wr.alloc (.cells #[.int .i64 1, .int .i64 2, .int .i64 2, .int .i64 4, .int .i64 (m5 : Int)] 3)) := (Below.refl _ _).alloc (Nat.le_refl _) _
              have hrd2 := hrd.below hal
              have hrow2 := hrow.below hal
              have hb2 := hb.alloc hs (.cells #[.int .i64 1, .int .i64 2, .int .i64 2, .int .i64 4, .int .i64 (m5 : Int)] 3)
              clear hal hrd hrow hb
              go_wp2_with fail
              refine (part_any _ _ _ ps _ _ _ hrow2 (by omega) (by omega)).mono ?_
              rintro e w2 ⟨A3, n3, k3, rfl, hown3, hb3'⟩
              have Hne3 : Hid (0 < n3 → blockOf A3 ≠ some r) := fun _ e => by have := (hown3.from_ r e).1; have := hrd2.lt; omega
              rw [show (a : Int).toNat = a by omega, show ((a : Int) + (m5 : Int)).toNat = a + m5 by omega] at hown3
              have hb2s := hb2.size
              have hrd3 := hrd2.below hb3'
              have hrow3 := hrow2.below hb3'
              have hb3 : Below w.heap.size w w2 := hb2.trans (hb3'.mono hb2s)
              have hq3 := hown3.row
              have Hql : Hid ((part ps a (a + m5)).length = m5) := part_len ps a m5 (by have := Hl.out; omega)
              have HQB : Hid (Bytes (part ps a (a + m5))) := part_bytes HB.out _ _
              have hn3b : n3 ≤ 60 := by have := hown3.len; have := Hql.out; omega
              obtain ⟨qs, hqs⟩ : ∃ qs, part ps a (a + m5) = qs := ⟨_, rfl⟩
              have HQ := Lib.hid hqs
              rw [hqs] at hq3 Hql HQB
              clear hqs hrd2 hrow2 hb2 hb2s hb3' hown3
              obtain ⟨n20, n21⟩ := n2v_le HQB.out 0
              go_wp2_with fail
              refine (n2_zero _ _ _ qs _ hq3 HQB.out (by omega)).mono ?_
              rintro e w3 ⟨rfl, q, rfl⟩
              have hrd4 := hrd3.drewN q
              have hrow4 := hrow3.drewN q
              have hb4 := below_drewN hb3 q
              have hq4 := hq3.drewN q
              generalize World.drewN w2 q = w3 at *
              clear hrd3 hrow3 hb3 hq3
              have hrd3 := hrd4
              have hrow3 := hrow4
              have hb3 := hb4
              have hq3 := hq4
              clear hrd4 hrow4 hb4 hq4
              go_wp2_with fail
              refine (n4_zero _ _ _ qs _ hq3 HQB.out (by omega)).mono ?_
              rintro e w4 ⟨rfl, q', rfl⟩
              have hrd4 := hrd3.drewN q'
              have hrow4 := hrow3.drewN q'
              have hb4 := below_drewN hb3 q'
              have hq4 := hq3.drewN q'
              generalize World.drewN w3 q' = w4 at *
              clear hrd3 hrow3 hb3 hq3
              go_wp2_with fail
              refine (take_any _ r _ _ _ _ hrd4 (by have := st_len ps a false; have := Hl.out; omega) (by omega) (by omega) m5).mono ?_
              rintro e w5 ⟨A5, n5, k5, rfl, hrow5, _, hrd5, hg⟩
              have hb5 : Below w.heap.size w w5 := hb4.grown hg hb4.size (fun k e => by cases e; exact hfrom)
              have hp5 := hrow4.ask hg Hne.out
              rw [Hq.out.2.1, Hq.out.2.2.1, Hq.out.2.2.2] at hrd5
              rw [Hq.out.1, HQ.out] at hrow5
              have hn5 : n5 ≤ 60 := by have := hrow5.len; have := Hql.out; omega
              have hq5 := hq4.ask hg Hne3.out
              clear hg hrd4 hrow4 hb4
              go_wp2_with fail
              refine (same_any _ _ _ _ _ _ _ _ _ hrow5 hq5 (by omega) (by omega)).mono ?_
              rintro e w6 ⟨rfl, q2, rfl⟩
              rw [sameB_refl]
              have hrd6 := hrd5.drewN q2
              have hp6 := hp5.drewN q2
              have hb6 := below_drewN hb5 q2
              generalize World.drewN w5 q2 = w6 at *
              clear hrd5 hp5 hb5 hrow5 hq5
              obtain ⟨w5, rfl⟩ : ∃ x, x = w6 := ⟨w6, rfl⟩
              have hrd5 := hrd6
              have hp5 := hp6
              have hb5 := hb6
              clear hrd6 hp6 hb6
              go_wp2_with fail
              refine (bad_any _ r _ _ _ _ hrd5).mono ?_
              rintro e w' ⟨rfl, rfl⟩
              go_wp2_with fail
              refine (left_any _ r _ _ _ _ hrd5).mono ?_
              rintro e w' ⟨rfl, rfl⟩
              rw [show ((stL ps (a + m5) false).length : Int) = (n1 : Int) - ((a : Int) + (m5 : Int)) by simp only [stL, Bool.false_eq_true, if_false, List.length_drop]; have := Hl.out; omega]
              have hyl : ((n1 : Int) - ((a : Int) + (m5 : Int)) != (n1 : Int) - ((a : Int) + (m5 : Int))) = false := by simp
              have hya : ((a : Int) + (m5 : Int) != (a : Int) + (m5 : Int)) = false := by simp
              go_wp2_with fail
              refine (at_any _ r _ _ _ _ hrd5).mono ?_
              rintro e w' ⟨rfl, rfl⟩
              rw [show ((a + m5 : Nat) : Int) = (a : Int) + (m5 : Int) by omega]
              go_wp2
              go_roundw
              case rel => exact ⟨k + 1, (a + m5), false, by omega, by go_num, by go_num, rfl, by omega, hrd5, hp5, hb5⟩
              case measure => simp [intOf]; omega
    · go_wp2
      go_ret
      exact ⟨rfl, hb⟩

end Go.Proofs.Yteampemlkkkfcaa
