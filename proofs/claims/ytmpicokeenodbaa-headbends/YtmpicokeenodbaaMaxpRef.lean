/- The document's own answers of layer 6 (Bytes, Right), equality, awake, as contracts over this seat's translation. -/
import Derived.Test.YtmpicokeenodbaaMaxpParse
import Derived.Test.YtmpicokeenodbaaJoinN
namespace Go.Proofs.Ytmpicokeenodbaa
open Go.RowKit
set_option linter.unusedVariables false

abbrev restC (m : Mp) : Array Value := #[.int .u16 m.r0, .int .u16 m.r1, .int .u16 m.r2, .int .u16 m.r3, .int .u16 m.r4, .int .u16 m.r5, .int .u16 m.r6, .int .u16 m.r7, .int .u16 m.r8, .int .u16 m.r9, .int .u16 m.r10, .int .u16 m.r11, .int .u16 m.r12]

theorem run_eq_rest (m : Mp) (w : World) (d : Nat) : (Op.equalIn (d + 2) 51 (.agg (restC m)) (.agg (restC m))).run Try.prog w = .ok true w := by
  have h := run_equalIn_ints (P := Try.prog) w d 51 23 13 .u16 .u16 m.rest m.rest Try.underlying51 Try.underlying23 (by simp [go_sem]) (by simp [go_sem]) rfl rfl
  rw [decide_eq_true rfl] at h
  exact h

set_option maxRecDepth 100000 in
theorem run_eq_mp (m : Mp) (w : World) : (binOp .eql 53 (mpV m) (mpV m)).run Try.prog w = .ok (.bool true) w := by
  have h := run_eq_rest m w 9997
  rw [run_eql_struct]
  obtain ⟨g, r0, r1, r2, r3, r4, r5, r6, r7, r8, r9, r10, r11, r12⟩ := m
  simp only [restC] at h
  simp [go_sem, h]

theorem run_eq_restB (m : Mp) (w : World) : (binOp .eql 51 (.agg (restC m)) (.agg (restC m))).run Try.prog w = .ok (.bool true) w := by
  have h := run_eq_rest m w 9998
  rw [run_eql_struct, h]
  rfl

set_option maxRecDepth 100000 in
set_option maxHeartbeats 4000000 in
theorem rbytes_any (m : Mp) (w : World) (hm : m.ok) : Calls Try.prog 28 #[.int .u16 m.g, .agg (restC m)] w (RetB w (mpL m)) := by
  have hL : mpL m = b4 65536 ++ b2 m.g ++ m.rest.flatMap b2 := rfl
  have HL := Lib.hid hL
  have hr := hm.2
  obtain ⟨⟨g0, g1⟩, _⟩ := hm
  have HR := Lib.hid hr
  generalize hrest : m.rest = rs at *
  have Hrs := Lib.hid hrest
  clear hL hr hrest
  obtain ⟨g, r0, r1, r2, r3, r4, r5, r6, r7, r8, r9, r10, r11, r12⟩ := m
  simp only at g0 g1 HL
  have hA : Below w.heap.size w (w.alloc (.cells #[.int .u16 r0, .int .u16 r1, .int .u16 r2, .int .u16 r3, .int .u16 r4, .int .u16 r5, .int .u16 r6, .int .u16 r7, .int .u16 r8, .int .u16 r9, .int .u16 r10, .int .u16 r11, .int .u16 r12] 51)) := (Below.refl _ _).alloc (Nat.le_refl _) _
  have hk : (w.alloc (.cells #[.int .u16 r0, .int .u16 r1, .int .u16 r2, .int .u16 r3, .int .u16 r4, .int .u16 r5, .int .u16 r6, .int .u16 r7, .int .u16 r8, .int .u16 r9, .int .u16 r10, .int .u16 r11, .int .u16 r12] 51)).heap[w.heap.size]? = some (.cells #[.int .u16 r0, .int .u16 r1, .int .u16 r2, .int .u16 r3, .int .u16 r4, .int .u16 r5, .int .u16 r6, .int .u16 r7, .int .u16 r8, .int .u16 r9, .int .u16 r10, .int .u16 r11, .int .u16 r12] 51 (0, 0)) := heap_alloc_new w _
  go_enter Try.func28, Try.ntmps28
  go_wp2_with fail
  generalize w.alloc _ = V at *
  refine (b4_any 65536 _ (by omega) (by omega)).mono ?_
  rintro e w1 ⟨A1, n1, c1, rfl, hown1, hb1⟩
  have hV := lt_of_block hk
  have hk1 := (hb1.block _ hV).trans hk
  have hB1 := hA.trans (hb1.mono hA.size)
  clear hk hA hb1
  go_wp2_with fail
  refine (b2_any g _ g0 (by omega)).mono ?_
  rintro e w2 ⟨A2, n2, c2, rfl, hown2, hb2⟩
  have hk2 := (hb2.block _ (lt_of_block hk1)).trans hk1
  have hB2 := hB1.trans (hb2.mono hB1.size)
  have h1 := hown1.row.below hb2
  have h2 := hown2.row
  have l1 := h1.len
  have l2 := h2.len
  rw [show (b4 65536).length = 4 from rfl] at l1
  rw [show (b2 g).length = 2 from rfl] at l2
  subst l1 l2
  clear hb2 hk1 hB1 hown1 hown2
  go_wp2_with fail
  refine (joinN_any w2 _ [⟨A1, 4, c1, b4 65536⟩, ⟨A2, 2, c2, b2 g⟩] 2 _ rfl rfl rfl ?_ (by omega) (by simp [joined, b4, b2])).mono ?_
  · intro p hp
    simp at hp
    rcases hp with rfl | rfl
    · exact h1
    · exact h2
  rintro e w3 ⟨A3, n3, c3, rfl, hown3, hb3⟩
  have hk3 := (hb3.block _ (lt_of_block hk2)).trans hk2
  have hB3 := hB2.trans (hb3.mono hB2.size)
  have hj : joined [⟨A1, 4, c1, b4 65536⟩, ⟨A2, 2, c2, b2 g⟩] = b4 65536 ++ b2 g ++ (rs.take 0).flatMap b2 := by simp [joined]
  rw [hj] at hown3
  have hO3 := hown3.mono hB2.size
  have HO3 := Lib.hid hO3
  have HB3 := Lib.hid hB3
  have q0 : w3.cell? ⟨w.heap.size, 0, none⟩ = some (.int .u16 r0) := cell_of_row w3 _ 0 _ _ _ hk3
  have q1 : w3.cell? ⟨w.heap.size, 1, none⟩ = some (.int .u16 r1) := cell_of_row w3 _ 1 _ _ _ hk3
  have q2 : w3.cell? ⟨w.heap.size, 2, none⟩ = some (.int .u16 r2) := cell_of_row w3 _ 2 _ _ _ hk3
  have q3 : w3.cell? ⟨w.heap.size, 3, none⟩ = some (.int .u16 r3) := cell_of_row w3 _ 3 _ _ _ hk3
  have q4 : w3.cell? ⟨w.heap.size, 4, none⟩ = some (.int .u16 r4) := cell_of_row w3 _ 4 _ _ _ hk3
  have q5 : w3.cell? ⟨w.heap.size, 5, none⟩ = some (.int .u16 r5) := cell_of_row w3 _ 5 _ _ _ hk3
  have q6 : w3.cell? ⟨w.heap.size, 6, none⟩ = some (.int .u16 r6) := cell_of_row w3 _ 6 _ _ _ hk3
  have q7 : w3.cell? ⟨w.heap.size, 7, none⟩ = some (.int .u16 r7) := cell_of_row w3 _ 7 _ _ _ hk3
  have q8 : w3.cell? ⟨w.heap.size, 8, none⟩ = some (.int .u16 r8) := cell_of_row w3 _ 8 _ _ _ hk3
  have q9 : w3.cell? ⟨w.heap.size, 9, none⟩ = some (.int .u16 r9) := cell_of_row w3 _ 9 _ _ _ hk3
  have q10 : w3.cell? ⟨w.heap.size, 10, none⟩ = some (.int .u16 r10) := cell_of_row w3 _ 10 _ _ _ hk3
  have q11 : w3.cell? ⟨w.heap.size, 11, none⟩ = some (.int .u16 r11) := cell_of_row w3 _ 11 _ _ _ hk3
  have q12 : w3.cell? ⟨w.heap.size, 12, none⟩ = some (.int .u16 r12) := cell_of_row w3 _ 12 _ _ _ hk3
  clear hj h1 h2 hk2 hB2 hk3 hb3 hB3 hown3 hO3 hV
  go_wp2
  clear q0 q1 q2 q3 q4 q5 q6 q7 q8 q9 q10 q11 q12
  go_loopw [5, 15] (fun v i wr => ∃ (k : Nat) (A : Option Addr) (n c : Nat), k ≤ 13 ∧ i = .int .i64 k ∧ v = .slice A n c ∧ OwnB wr w.heap.size A n c (b4 65536 ++ b2 g ++ (rs.take k).flatMap b2) ∧ Below w.heap.size w wr) (fun _ i _ => 13 - (intOf i).toNat)
  case atStart => exact ⟨0, A3, n3, c3, Nat.zero_le _, rfl, rfl, HO3.out, HB3.out⟩
  case round =>
    clear HO3 HB3
    obtain ⟨k, A, n, c, hk, rfl, rfl, hown, hbel⟩ := hrel
    by_cases hlt : k < 13
    · obtain ⟨x, hx⟩ := get_some (zs := rs) (k := k) (by rw [← Hrs.out]; exact hlt)
      obtain ⟨x0, x1⟩ := HR.out x (List.mem_of_getElem? hx)
      have hx2 := flat_snoc hx
      have hlen : (b4 65536 ++ b2 g ++ (rs.take k).flatMap b2).length ≤ 100 := by
        rw [List.length_append, List.length_append, flat_b2_len, List.length_take]
        simp [b4, b2]
        omega
      have hn : n ≤ 100 := by have := hown.len; omega
      have hix := run_index_arr (P := Try.prog) wr 51 23 13 #[.int .u16 r0, .int .u16 r1, .int .u16 r2, .int .u16 r3, .int .u16 r4, .int .u16 r5, .int .u16 r6, .int .u16 r7, .int .u16 r8, .int .u16 r9, .int .u16 r10, .int .u16 r11, .int .u16 r12] k (.int .u16 x) Try.underlying51 (by simp [go_sem]) (by simp [go_sem]) hlt (by
        have h := cellsOf_get (k := .u16) hx
        rw [← Hrs.out] at h
        simpa [Mp.rest, cellsOf] using h)
      have Hx := Lib.hid hx2
      have Hlen := Lib.hid hlen
      clear hx hx2 hlen
      go_wp2_with fail
      clear hix
      refine (b2_any x _ x0 (by omega)).mono ?_
      rintro e w4 ⟨A4, n4, c4, rfl, hown4, hb4⟩
      have hB4 := hbel.trans (hb4.mono hbel.size)
      have h1 := hown.row.below hb4
      have h2 := hown4.row
      have l2 := h2.len
      rw [show (b2 x).length = 2 from rfl] at l2
      subst l2
      clear hown hown4 hb4 hbel
      go_wp2_with fail
      refine (joinN_any w4 _ [⟨A, n, c, b4 65536 ++ b2 g ++ (rs.take k).flatMap b2⟩, ⟨A4, 2, c4, b2 x⟩] 2 _ rfl rfl rfl ?_ (by omega) (by have := Hlen.out; simp only [joined, List.flatMap_cons, List.flatMap_nil, List.append_nil]; rw [List.length_append]; simp [b2]; simp [b2] at this; omega)).mono ?_
      · intro p hp
        simp only [List.mem_cons, List.not_mem_nil, or_false] at hp
        rcases hp with rfl | rfl
        · exact h1
        · exact h2
      rintro e w5 ⟨A5, n5, c5, rfl, hown5, hb5⟩
      have hj : joined [⟨A, n, c, b4 65536 ++ b2 g ++ (rs.take k).flatMap b2⟩, ⟨A4, 2, c4, b2 x⟩] = b4 65536 ++ b2 g ++ (rs.take (k + 1)).flatMap b2 := by rw [Hx.out]; simp [joined]
      rw [hj] at hown5
      have hO5 := hown5.mono hB4.size
      have hB5 := hB4.trans (hb5.mono hB4.size)
      clear hj hown5 hb5 hB4 h1 h2
      go_wp2
      go_roundw
      case rel => exact ⟨k + 1, A5, n5, c5, by omega, by go_num, rfl, hO5, hB5⟩
      case measure => simp [intOf]; omega
    · have hE : rs.take k = rs := by rw [← Hrs.out]; exact List.take_of_length_le (by simp [Mp.rest]; omega)
      rw [hE, ← HL.out] at hown
      clear hE
      go_wp2
      go_ret
      exact ⟨A, n, c, rfl, hown, hbel⟩

theorem rright_any (A : Option Addr) (n c : Nat) (zs : List Int) (w : World) (hr : Row w A n (cellsOf .u8 zs)) (hB : Bytes zs) (hn : n ≤ 140737488351232) :
    Calls Try.prog 29 #[.slice A n c] w (Quiet w (.bool (mpRight zs))) := by
  have hl := hr.len
  have h4 := n4_any A n c zs 0 w hr hB hn (by omega)
  have h2 := fun W (hW : Row W A n (cellsOf .u8 zs)) => n2_any A n c zs 4 W hW hB hn (by omega)
  have b4 := n4at_lt hB 0
  have b2 := n2at_lt hB 4
  rw [n4v_at] at h4
  simp only [n2v_at] at h2
  have H4 := Lib.hid h4
  have H2 := Lib.hid h2
  have HT : Hid (mpRight zs = (n4b zs 0 && ((n : Int) == 32) && (n4at zs 0 == 65536) && decide (0 < n2at zs 4))) := by
    show _ = _
    unfold mpRight n4b
    rw [Bool.eq_iff_iff]
    simp only [decide_eq_true_eq, Bool.and_eq_true, beq_iff_eq, ne_eq]
    omega
  clear h4 h2 hB
  generalize n4at zs 0 = x at *
  generalize n2at zs 4 = y at *
  generalize n4b zs 0 = b at *
  cases b with
  | false =>
    have HF : Hid (mpRight zs = false) := by rw [HT.out]; rfl
    clear HT
    rw [HF.out]
    go_enter Try.func29, Try.ntmps29
    go_wp2_with fail
    refine H4.out.mono ?_
    rintro e w1 ⟨rfl, q1, rfl⟩
    go_wp2_with fail
    refine (H2.out _ (hr.drewN q1)).mono ?_
    rintro e w1 ⟨rfl, q2, rfl⟩
    go_wp2
    go_ret
    exact ⟨rfl, q1 + q2, rfl⟩
  | true =>
    cases e1 : ((n : Int) == 32) with
    | false =>
      have HF : Hid (mpRight zs = false) := by rw [HT.out, e1]; rfl
      clear HT
      rw [HF.out]
      go_enter Try.func29, Try.ntmps29
      go_wp2_with fail
      refine H4.out.mono ?_
      rintro e w1 ⟨rfl, q1, rfl⟩
      go_wp2_with fail
      refine (H2.out _ (hr.drewN q1)).mono ?_
      rintro e w1 ⟨rfl, q2, rfl⟩
      go_wp2
      go_ret
      exact ⟨rfl, q1 + q2, rfl⟩
    | true =>
      cases e2 : (x == 65536) with
      | false =>
        have HF : Hid (mpRight zs = false) := by rw [HT.out, e1, e2]; rfl
        clear HT
        rw [HF.out]
        go_enter Try.func29, Try.ntmps29
        go_wp2_with fail
        refine H4.out.mono ?_
        rintro e w1 ⟨rfl, q1, rfl⟩
        go_wp2_with fail
        refine (H2.out _ (hr.drewN q1)).mono ?_
        rintro e w1 ⟨rfl, q2, rfl⟩
        go_wp2
        go_ret
        exact ⟨rfl, q1 + q2, rfl⟩
      | true =>
        have HF : Hid (mpRight zs = decide (0 < y)) := by rw [HT.out, e1, e2]; rfl
        clear HT
        rw [HF.out]
        go_enter Try.func29, Try.ntmps29
        go_wp2_with fail
        refine H4.out.mono ?_
        rintro e w1 ⟨rfl, q1, rfl⟩
        go_wp2_with fail
        refine (H2.out _ (hr.drewN q1)).mono ?_
        rintro e w1 ⟨rfl, q2, rfl⟩
        go_wp2
        go_ret
        exact ⟨rfl, q1 + q2, rfl⟩

set_option maxRecDepth 100000 in
theorem awake6_any (w : World) : Calls Try.prog 25 #[] w (True_ w) := by
  have h := fun W => mbytes_any ⟨1, 0, 0, 0, 0, 0, 0, 0, 0, 0, 0, 0, 0, 0⟩ W ⟨by decide, by intro x hx; simp [Mp.rest] at hx; omega⟩ (by decide)
  have H := Lib.hid h
  clear h
  go_enter Try.func25, Try.ntmps25
  go_wp2_with fail
  refine (H.out _).mono ?_
  rintro e w1 ⟨A, n, c, rfl, hown, hb⟩
  have hl := hown.len
  rw [mpL_len] at hl
  subst hl
  have hrow := hown.row
  obtain ⟨g, off, rfl, hg, c1⟩ := hrow.at (j := 1) (u := .int .u8 1) rfl
  obtain ⟨g', off', e', _, c5⟩ := hrow.at (j := 5) (u := .int .u8 1) rfl
  simp only [Option.some.injEq, Addr.mk.injEq, and_true] at e'
  obtain ⟨rfl, rfl⟩ := e'
  clear hown hrow
  go_wp2
  go_ret
  exact ⟨rfl, hb⟩

end Go.Proofs.Ytmpicokeenodbaa
