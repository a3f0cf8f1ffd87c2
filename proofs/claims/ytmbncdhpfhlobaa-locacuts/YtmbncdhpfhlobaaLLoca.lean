/- The laws LocaShorts and LocaParses. -/
import Derived.Test.YtmbncdhpfhlobaaLocaP
import Derived.Test.YtmbncdhpfhlobaaLocaRef
import Derived.Test.YtmbncdhpfhlobaaLocaRef2
import Derived.Test.YtmbncdhpfhlobaaLaw01
namespace Go.Proofs.Ytmbncdhpfhlobaa
open Go.RowKit
set_option linter.unusedVariables false

/-- Building, where all fits. -/
theorem locaBuild_ok (A : Option Addr) (n c : Nat) (l : List Int) (w : World) (hr : Row w A n (cellsOf .i64 l)) (hn : n ≤ 65535) (hok : okS 0 l = true) :
    Calls Try.prog 33 #[.slice A n c] w fun e w' => ∃ A n c, e = .returned (.tuple #[.slice A n c, .bool (longOf l)]) ∧ OwnB w' w.heap.size A n c (bytesOf l) ∧ Below w.heap.size w w' :=
  (locaBuild_any A n c l w hr hn).mono fun e w' ⟨hb, h⟩ => by
    rcases h with ⟨h, _⟩ | ⟨_, A, n, c, he, ho⟩
    · rw [hok] at h; cases h
    · exact ⟨A, n, c, he, ho, hb⟩

theorem rBuild_ok (A : Option Addr) (n c : Nat) (l : List Int) (w : World) (hr : Row w A n (cellsOf .i64 l)) (hn : n ≤ 65535) (hok : okS 0 l = true) :
    Calls Try.prog 34 #[.slice A n c] w fun e w' => ∃ A n c, e = .returned (.tuple #[.slice A n c, .bool (longOf l)]) ∧ OwnB w' w.heap.size A n c (bytesOf l) ∧ Below w.heap.size w w' :=
  (rBuild_any A n c l w hr hn hok).mono fun e w' ⟨hb, h⟩ => by
    rcases h with ⟨h, _⟩ | ⟨_, A, n, c, he, ho⟩
    · rw [hok] at h; cases h
    · exact ⟨A, n, c, he, ho, hb⟩

theorem bytesOf_len (l : List Int) : (bytesOf l).length = (l.length + 1) * eachB (longOf l) := by unfold bytesOf; rw [plsB_len, scan_len]

theorem awake8_any (w : World) : Calls Try.prog 29 #[] w (True_ w) := by
  have HB : Hid (bytesOf [2, 4] = [0, 0, 0, 1, 0, 3]) := by show bytesOf [2, 4] = [0, 0, 0, 1, 0, 3]; decide
  have HL : Hid (longOf [2, 4] = false) := by show longOf [2, 4] = false; decide
  go_enter Try.func29, Try.ntmps29
  go_wp2_with fail
  refine (locaBuild_ok _ _ _ [2, 4] _ (row_lit w .i64 3 [2, 4] 2 rfl) (by omega) (by decide)).mono ?_
  rintro e w1 ⟨A, n, c, rfl, ho, hb⟩
  have ha : Below w.heap.size w (w.alloc (.cells (cellsOf .i64 [2, 4]).toArray 3)) := (Below.refl _ _).alloc (Nat.le_refl _) _
  have hb1 : Below w.heap.size w w1 := ha.trans (hb.mono (by simp))
  rw [HL.out]
  rw [HB.out] at ho
  have hn : n = 6 := ho.len.symm
  subst hn
  have hrow := ho.row.below ((Below.refl w1.heap.size w1).alloc (Nat.le_refl _) (.cells (cellsOf .u8 [0, 0, 0, 1, 0, 3]).toArray 5))
  clear ho hb ha
  go_wp2_with fail
  refine (same_any _ _ _ _ _ _ _ [0, 0, 0, 1, 0, 3] _ hrow (row_lit w1 .u8 5 [0, 0, 0, 1, 0, 3] 6 rfl) (by omega) (by omega)).mono ?_
  rintro e w2 ⟨rfl, q, rfl⟩
  rw [sameB_refl]
  go_wp2
  go_ret
  exact ⟨rfl, below_drewN (hb1.alloc hb1.size _) q⟩

set_option maxRecDepth 100000 in
set_option maxHeartbeats 1000000 in
theorem law_LocaParses (A : Option Addr) (n c : Nat) (zs : List Int) (long : Bool) (g : Nat) (size : Int) (w : World) (hr : Row w A n (cellsOf .u8 zs)) (hB : Bytes zs) (hn : n ≤ 9223372036854775807) (hg : g < 65536) :
    Calls Try.prog 8 #[.slice A n c, .bool long, .int .u16 g, .int .i64 size] w (True_ w) := by
  have HB : Hid (Bytes (zs.take (100 : Int).toNat)) := fun x hx => hB x (List.mem_of_mem_take hx)
  clear hB
  go_enter Try.func8, Try.ntmps8
  go_wp2_with fail
  refine (awake8_any w).mono ?_
  rintro e w0 ⟨rfl, hb0⟩
  go_wp2_with fail
  refine (cut_any _ _ _ zs 100 _ (hr.below hb0) hn (by omega)).mono ?_
  rintro e w1 ⟨A1, n1, k1, rfl, hown, hb1'⟩
  have hb1 : Below w.heap.size w w1 := hb0.trans (hb1'.mono hb0.size)
  have hl1 : n1 ≤ 100 := by have := hown.len; rw [List.length_take] at this; simp at this; omega
  have hrow1 := hown.row
  clear hb1' hb0 hr hn hown
  generalize zs.take (100 : Int).toNat = ps at *
  go_wp2_with fail
  refine (locaParse_any _ _ _ ps long g size _ hrow1 HB.out (by omega) hg).mono ?_
  rintro e w2 ⟨hb2, h2⟩
  have hrow2 := hrow1.below hb2
  have hbw2 : Below w.heap.size w w2 := hb1.trans (hb2.mono hb1.size)
  have hP := Lib.hid (places_any A1 n1 k1 ps long g size w2 hrow2 HB.out (by omega) hg)
  rcases h2 with ⟨h2, rfl⟩ | ⟨h2, A2, n2, c2, rfl, hown2⟩
  · have H2 := Lib.hid h2
    clear h2 hrow1 hb1 hb2
    go_wp2_with fail
    refine hP.out.mono ?_
    rintro e w3 ⟨hb3, h3⟩
    have hbw3 : Below w.heap.size w w3 := hbw2.trans (hb3.mono hbw2.size)
    rcases h3 with ⟨h3, rfl⟩ | ⟨h3, _⟩
    · clear h3
      go_wp2
      go_ret
      exact ⟨rfl, hbw3⟩
    · exact absurd h3 (by rw [H2.out]; decide)
  · have H2 := Lib.hid h2
    clear h2 hrow1 hb1 hb2
    go_wp2_with fail
    refine hP.out.mono ?_
    rintro e w3 ⟨hb3, h3⟩
    have hbw3 : Below w.heap.size w w3 := hbw2.trans (hb3.mono hbw2.size)
    rcases h3 with ⟨h3, _⟩ | ⟨h3, A3, n3, c3, rfl, hown3⟩
    · exact absurd h3 (by rw [H2.out]; decide)
    · clear h3
      have r2 := hown2.row.below hb3
      have r3 := hown3.row
      have l2 : n2 ≤ 65536 := by have := hown2.len; rw [pls_len] at this; omega
      have l3 : n3 ≤ 65536 := by have := hown3.len; rw [pls_len] at this; omega
      clear hown2 hown3 hb3 hrow2
      go_wp2_with fail
      refine (equalI_any _ _ _ _ _ _ _ _ _ r2 r3 (by omega) (by omega)).mono ?_
      rintro e w4 ⟨rfl, q, rfl⟩
      rw [sameB_refl]
      go_wp2
      go_ret
      exact ⟨rfl, below_drewN hbw3 q⟩

theorem law_LocaParsesI (A : Option Addr) (n c : Nat) (zs : List Int) (long : Bool) (g : Int) (size : Int) (w : World) (hr : Row w A n (cellsOf .u8 zs)) (hB : Bytes zs) (hn : n ≤ 9223372036854775807) (g0 : 0 ≤ g) (g1 : g < 65536) :
    Calls Try.prog 8 #[.slice A n c, .bool long, .int .u16 g, .int .i64 size] w (True_ w) := by
  obtain ⟨g, rfl⟩ := Int.eq_ofNat_of_zero_le g0
  exact law_LocaParses A n c zs long g size w hr hB hn (by omega)

theorem long2 (a b : Int) (ha : 0 ≤ a) (hb : 0 ≤ b) (a2 : a % 2 = 0) (b2 : b % 2 = 0) : longOf [a, b] = decide (131070 < a + b) := by
  simp only [longOf, scan, fitB, List.all_cons, List.all_nil, Bool.and_true]
  rw [Int.zero_add, Bool.eq_iff_iff]
  simp
  omega
theorem long3 (a b : Int) (a2 : a % 2 = 0) (b2 : b % 2 = 0) : longOf [a, b, 1] = true := by
  simp only [longOf, scan, fitB, List.all_cons, List.all_nil, Bool.and_true]
  rw [Int.zero_add, Bool.eq_iff_iff]
  simp
  omega

set_option maxRecDepth 100000 in
set_option maxHeartbeats 1000000 in
theorem law_LocaShorts (n d : Int) (odd : Bool) (w : World) (n0 : 0 ≤ n) (n1 : n < 65536) (d0 : 0 ≤ d) (d1 : d < 4294967296) :
    Calls Try.prog 12 #[.int .u16 n, .int .u32 d, .bool odd] w (True_ w) := by
  obtain ⟨i0, hi, hz0, hz1, hz2⟩ := info_parts Try.i64info
  have hk0 : 0 ≤ d % 200000 := by omega
  have hk1 : d % 200000 < 200000 := by omega
  cases odd with
  | false =>
    have HL := Lib.hid (long2 (2 * n) (d % 200000 * 2) (by omega) (by omega) (by omega) (by omega))
    have HO : Hid (okS 0 [2 * n, d % 200000 * 2] = true) := by show okS 0 [2 * n, d % 200000 * 2] = true; simp [okS]; omega
    go_enter Try.func12, Try.ntmps12
    go_wp2_with fail
    refine (awake8_any w).mono ?_
    rintro e w0 ⟨rfl, hb0⟩
    have hrow0 : Row (w0.alloc (.cells #[.int .i64 (2 * n), .int .i64 (d % 200000 * 2)] 3)) (some ⟨w0.heap.size, 0, none⟩) 2 (cellsOf .i64 [2 * n, d % 200000 * 2]) := row_lit w0 .i64 3 [2 * n, d % 200000 * 2] 2 rfl
    go_wp2_with fail
    with_reducible refine (locaBuild_ok _ _ _ [2 * n, d % 200000 * 2] _ hrow0 (by omega) HO.out).mono ?_
    rintro e w1 ⟨A, m, c, rfl, ho, hb⟩
    have hm := ho.len
    rw [bytesOf_len] at hm
    rw [HL.out] at hm
    have hbw : Below w.heap.size w w1 := hb0.trans ((((Below.refl w0.heap.size w0).alloc (Nat.le_refl _) _).trans (hb.mono (by simp))).mono hb0.size)
    have hrow := hrow0.below hb
    obtain ⟨g0, o0, e0, _, c0⟩ := hrow.at (j := 0) (u := .int .i64 (2 * n)) rfl
    obtain ⟨g1, o1, e1, _, c1⟩ := hrow.at (j := 1) (u := .int .i64 (d % 200000 * 2)) rfl
    simp only [Option.some.injEq, Addr.mk.injEq, and_true] at e0 e1
    obtain ⟨rfl, rfl⟩ := e0
    obtain ⟨rfl, rfl⟩ := e1
    rw [HL.out]
    clear hrow hrow0 ho hb hb0
    have v1 : IntKind.i64.wrap (2 * n + d % 200000 * 2) = 2 * n + d % 200000 * 2 := IntWalk.i64_in _ (by omega)
    simp only [Nat.zero_add] at c0 c1
    by_cases h : 131070 < 2 * n + d % 200000 * 2
    · have hd : decide (131070 < 2 * n + d % 200000 * 2) = true := decide_eq_true h
      rw [hd] at hm
      obtain rfl : 12 = m := hm
      go_wp2
      go_quiet (fail)
      go_wp2
      go_ret
      exact ⟨rfl, below_drewN hbw _⟩
    · have hd : decide (131070 < 2 * n + d % 200000 * 2) = false := decide_eq_false h
      rw [hd] at hm
      obtain rfl : 6 = m := hm
      go_wp2
      go_quiet (fail)
      go_wp2
      go_ret
      exact ⟨rfl, below_drewN hbw _⟩
  | true =>
    have HL := Lib.hid (long3 (2 * n) (d % 200000 * 2) (by omega) (by omega))
    have HO : Hid (okS 0 [2 * n, d % 200000 * 2, 1] = true) := by show okS 0 [2 * n, d % 200000 * 2, 1] = true; simp [okS]; omega
    go_enter Try.func12, Try.ntmps12
    go_wp2_with fail
    refine (awake8_any w).mono ?_
    rintro e w0 ⟨rfl, hb0⟩
    have ho0 : Own 3 .i64 (w0.alloc (.cells #[.int .i64 (2 * n), .int .i64 (d % 200000 * 2)] 3)) w0.heap.size (some ⟨w0.heap.size, 0, none⟩) 2 2 [2 * n, d % 200000 * 2] := own_lit w0 w0.heap.size 3 .i64 [2 * n, d % 200000 * 2] 2 rfl (Nat.le_refl _) (by simp only [maxLen]; omega)
    have hba : Below w0.heap.size w0 (w0.alloc (.cells #[.int .i64 (2 * n), .int .i64 (d % 200000 * 2)] 3)) := (Below.refl _ _).alloc (Nat.le_refl _) _
    have hsz : (w0.alloc (.cells #[.int .i64 (2 * n), .int .i64 (d % 200000 * 2)] 3)).heap.size = w0.heap.size + 1 := by simp
    have hone := row_one (w0.alloc (.cells #[.int .i64 (2 * n), .int .i64 (d % 200000 * 2)] 3)) .i64 1 3
    rw [hsz] at hone
    clear hsz
    go_wp2_with (at_builtin; refine wpList_append_row rfl (.tmp 23) (.tmp 24) _ rfl 3 .i64 w0.heap.size i0 8 Try.underlying62 hi hz0 hz1 hz2 _ 2 2 [2 * n, d % 200000 * 2] rfl (ho0.alloc _) _ 1 1 [1] rfl hone (by omega) (by omega) (by simp; omega) ?_)
    intro A1 c1 w1 hown1 hg1
    have hb1 : Below w0.heap.size w0 w1 := (hba.alloc hba.size _).grown hg1 (by simp; omega) (fun q e => by simp [blockOf] at e; omega)
    clear hg1 ho0 hba hone
    go_wp2_with fail
    with_reducible refine (locaBuild_ok _ _ _ _ _ hown1.row (by omega) HO.out).mono ?_
    rintro e w2 ⟨A, m, c, rfl, ho, hb⟩
    have hm := ho.len
    rw [bytesOf_len] at hm
    change (3 + 1) * eachB (longOf [2 * n, d % 200000 * 2, 1]) = m at hm
    rw [HL.out] at hm
    obtain rfl : 16 = m := hm
    have hbw : Below w.heap.size w w2 := hb0.trans ((hb1.trans (hb.mono hb1.size)).mono hb0.size)
    rw [HL.out]
    clear ho hb hown1 hb1 hb0
    go_wp2
    go_quiet (fail)
    go_wp2
    go_ret
    exact ⟨rfl, below_drewN hbw _⟩

end Go.Proofs.Ytmbncdhpfhlobaa
