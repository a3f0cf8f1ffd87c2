/- The law TallyOrders. -/
import Derived.Test.YteampemlkkkfcaaTWhole
import Derived.Lib.MinMax
import Derived.Deep.RegionHeld3
namespace Go.Proofs.Yteampemlkkkfcaa
open Go.RowKit
set_option linter.unusedVariables false

theorem Try.u32info : (Try.prog.info? 31).map (fun i => (i.zero, i.size, i.bytes)) = some (some (.int .u32 0), 1, 4) := by kernel_rfl

/-- Numbers' bytes, one behind the other. -/
def b4s (l : List Int) : List Int := l.flatMap b4
theorem b4s_snoc (l : List Int) (k : Nat) (x : Int) (h : l[k]? = some x) : b4s (l.take k) ++ b4 x = b4s (l.take (k + 1)) := by unfold b4s; rw [List.take_add_one, h]; simp
theorem b4s_len (l : List Int) : (b4s l).length = 4 * l.length := by
  unfold b4s
  induction l with
  | nil => rfl
  | cons x l ih => rw [List.flatMap_cons, List.length_append, b4_len, ih, List.length_cons]; omega
theorem b4s_bytes (l : List Int) : Bytes (b4s l) := by
  intro x hx
  unfold b4s at hx
  rw [List.mem_flatMap] at hx
  obtain ⟨y, _, hy⟩ := hx
  exact b4_bytes y x hy

/-- Numbers of 32 bits. -/
def Words (l : List Int) : Prop := ∀ x ∈ l, 0 ≤ x ∧ x < 4294967296

theorem rs_b4s (l : List Int) (h : Words l) : rs (b4s l) = l.sum := by
  unfold b4s
  induction l with
  | nil => rfl
  | cons x l ih =>
    have hx := h x (by simp)
    rw [List.flatMap_cons, rs_append _ _ (by rw [b4_len]), rs_b4 x hx.1 hx.2, ih (fun y hy => h y (List.mem_cons_of_mem _ hy)), List.sum_cons]

/-- Turned round. -/
def rot (l : List Int) (s : Nat) : List Int := l.drop s ++ l.take s
theorem rot_sum (l : List Int) (s : Nat) : (rot l s).sum = l.sum := by
  have h : (l.take s ++ l.drop s).sum = l.sum := by rw [List.take_append_drop]
  unfold rot
  rw [List.sum_append] at h ⊢
  omega
theorem rot_len (l : List Int) (s : Nat) (h : s ≤ l.length) : (rot l s).length = l.length := by unfold rot; rw [List.length_append, List.length_drop, List.length_take]; omega
theorem rot_mem {l : List Int} {s : Nat} {x : Int} (h : x ∈ rot l s) : x ∈ l := by
  unfold rot at h
  rcases List.mem_append.1 h with h | h
  · exact List.mem_of_mem_drop h
  · exact List.mem_of_mem_take h
theorem rot_get (l : List Int) (t k : Nat) (hk : k < l.length) : (rot l (t % l.length))[k]? = l[(k + t) % l.length]? := by
  have hs : t % l.length < l.length := Nat.mod_lt _ (by omega)
  have e : (k + t) % l.length = (k + t % l.length) % l.length := by rw [Nat.add_mod_mod]
  rw [e]
  generalize t % l.length = s at *
  unfold rot
  by_cases h : k + s < l.length
  · rw [Nat.mod_eq_of_lt h, List.getElem?_append_left (by rw [List.length_drop]; omega), List.getElem?_drop, Nat.add_comm s k]
  · rw [Nat.mod_eq_sub_mod (by omega), Nat.mod_eq_of_lt (by omega), List.getElem?_append_right (by rw [List.length_drop]; omega), List.length_drop, List.getElem?_take, if_pos (by omega)]
    congr 1
    omega

theorem sum_snoc (l : List Int) (k : Nat) (x : Int) (h : l[k]? = some x) : ((l.take k).sum % 4294967296 + x) % 4294967296 = (l.take (k + 1)).sum % 4294967296 := by
  rw [List.take_add_one, h, List.sum_append]
  simp

/-- What holds at a round's head. -/
def OrdRel (w w1 : World) (ls : List Int) (s k : Nat) (v5 v6 v7 : Value) (wr : World) : Prop :=
  ∃ Ap np cp Aq nq cq, v5 = .slice Ap np cp ∧ v6 = .slice Aq nq cq ∧ v7 = .int .u32 ((ls.take k).sum % 4294967296) ∧ Row wr Ap np (cellsOf .u8 (b4s (ls.take k))) ∧ Row wr Aq nq (cellsOf .u8 (b4s ((rot ls s).take k))) ∧ Below w1.heap.size w1 wr

set_option maxRecDepth 100000 in
set_option maxHeartbeats 8000000 in
theorem law_TallyOrders (A : Option Addr) (n c : Nat) (zs : List Int) (t : Nat) (w : World) (hr : Row w A n (cellsOf .u32 zs)) (hW : Words zs) (hn : n ≤ 9223372036854775807) (hc : n ≤ c) (ht : t ≤ 255) :
    Calls Try.prog 13 #[.slice A n c, .int .u8 t] w (True_ w) := by
  obtain ⟨i0, hi, hz0, hz1, hz2⟩ := info_parts Try.u32info
  obtain ⟨m, hm⟩ : ∃ m : Nat, min (n : Int) 30 = (m : Int) := Int.eq_ofNat_of_zero_le (by omega)
  have hm30 : m ≤ 30 ∧ m ≤ n := by omega
  obtain ⟨m0, m1⟩ := hm30
  go_enter Try.func13, Try.ntmps13
  go_wp2_with fail
  refine (awake2_any w).mono ?_
  rintro e w0 ⟨rfl, hb0⟩
  have hr0 := (hr.below hb0).take (k := m) m1
  rw [cellsOf_take] at hr0
  have hs0 := hb0.size
  clear hr
  go_wp2_with (at_builtin; refine wpList_append_row rfl (.tmp 12) (.tmp 17) _ rfl 31 .u32 w0.heap.size i0 4 Try.underlying69 hi hz0 hz1 hz2 (some ⟨w0.heap.size, 0, none⟩) 0 0 [] rfl (own_lit w0 w0.heap.size 31 .u32 [] 0 rfl (Nat.le_refl _) (by simp only [maxLen]; omega)) A m c (zs.take m) rfl (hr0.below ((Below.refl _ _).alloc (Nat.le_refl _) _)) (by omega) (by omega) (by simp) ?_)
  intro A1 k1 w1 hown1 hg1
  have hk1 : Below w0.heap.size w0 w1 := ((Below.refl _ _).alloc (Nat.le_refl _) _).grown hg1 (by simp) (fun k hk => by simp [blockOf] at hk; omega)
  have hb1 : Below w.heap.size w w1 := hb0.trans (hk1.mono hs0)
  clear hg1 hb0 hr0 hk1
  have hrow1 := hown1.row
  have hW1 : Words (zs.take m) := fun x hx => hW x (List.mem_of_mem_take hx)
  have hlen : (zs.take m).length = m := hown1.len
  generalize zs.take m = ls at *
  have Hl := Lib.hid hlen
  have HW := Lib.hid hW1
  have hm' := Lib.hid hm
  clear hown1 hW hW1 hlen hm
  go_wp2
  go_loopw [5, 6, 7, 21] (fun v5 v6 v7 i wr => ∃ k : Nat, k ≤ m ∧ i = .int .i64 k ∧ OrdRel w w1 ls (t % m) k v5 v6 v7 wr) (fun _ _ _ i _ => m - (intOf i).toNat)
  case atStart => exact ⟨0, Nat.zero_le _, rfl, none, 0, 0, none, 0, 0, rfl, rfl, rfl, Row.empty _ _, Row.empty _ _, Below.refl _ _⟩
  case round =>
    obtain ⟨k, hk, rfl, Ap, np, cp, Aq, nq, cq, rfl, rfl, rfl, hp, hq, hb⟩ := hrel
    by_cases hlt : k < m
    · obtain ⟨x, ex⟩ := get_some (zs := ls) (k := k) (by have := Hl.out; omega)
      obtain ⟨j, hj⟩ : ∃ j : Nat, (k + t) % m = j := ⟨_, rfl⟩
      have hjm : j < m := by rw [← hj]; exact Nat.mod_lt _ (by omega)
      obtain ⟨y, ey⟩ := get_some (zs := ls) (k := j) (by have := Hl.out; omega)
      have ery : (rot ls (t % m))[k]? = some y := by
        have := rot_get ls t k (by have := Hl.out; omega)
        rw [Hl.out, hj, ey] at this
        exact this
      obtain ⟨g, off, hA1, hg, hcx⟩ := (hrow1.below hb).at (cellsOf_get (k := .u32) ex)
      obtain ⟨g', off', hA1', _, hcy⟩ := (hrow1.below hb).at (cellsOf_get (k := .u32) ey)
      rw [hA1] at hA1'
      simp only [Option.some.injEq, Addr.mk.injEq, and_true] at hA1'
      obtain ⟨rfl, rfl⟩ := hA1'
      subst hA1
      obtain ⟨x0, x1⟩ := HW.out x (List.mem_of_getElem? ex)
      obtain ⟨y0, y1⟩ := HW.out y (List.mem_of_getElem? ey)
      have Hx := Lib.hid ex
      have Hy := Lib.hid ery
      have hj1 : ((k : Int) + (t : Int)) % (m : Int) = (j : Int) := by rw [← hj, Int.natCast_emod, Int.natCast_add]
      have hj2 : ((k : Int) + (t : Int)).tmod (m : Int) = (j : Int) := by rw [Int.tmod_eq_emod_of_nonneg (by omega)]; exact hj1
      have hw1 : IntKind.i64.wrap ((k : Int) + (t : Int)) = (k : Int) + (t : Int) := IntWalk.i64_in _ (by omega)
      have hw0 : IntKind.i64.wrap (t : Int) = (t : Int) := IntWalk.i64_in _ (by omega)
      have hw2 : (m : Int) ≠ 0 := by omega
      have hj3 : (0 : Int) ≤ (j : Int) := by omega
      have hj4 : (j : Int) < (m : Int) := by omega
      have hpl : np = 4 * k ∧ nq = 4 * k := by
        have h1 := hp.len
        have h2 := hq.len
        rw [b4s_len, List.length_take, Hl.out] at h1
        rw [b4s_len, List.length_take, rot_len ls _ (by have := Hl.out; have := Nat.mod_lt t (show 0 < m by omega); omega), Hl.out] at h2
        omega
      obtain ⟨np4, nq4⟩ := hpl
      have hnp : np ≤ 120 := by omega
      have hnq : nq ≤ 120 := by omega
      have Hwr := Lib.hid hb.size
      have hs2 : 0 ≤ (ls.take k).sum % 4294967296 ∧ (ls.take k).sum % 4294967296 < 4294967296 := by omega
      obtain ⟨sv, hsv⟩ : ∃ v, (ls.take k).sum % 4294967296 = v := ⟨_, rfl⟩
      rw [hsv] at hs2 ⊢
      obtain ⟨s0, s1⟩ := hs2
      have HS : Hid ((sv + x) % 4294967296 = (ls.take (k + 1)).sum % 4294967296) := by show _ = _; rw [← hsv]; exact sum_snoc ls k x ex
      clear ex ey ery hj np4 nq4 hsv
      go_wp2
      go_region_with (first
        | (go_at_call_of 39 (Value.int .u32 x); refine (b4_any x _ x0 x1).mono ?_; rintro e w4 ⟨A4, n4, k4, rfl, hown4, hb4⟩; have hg4 : g < w4.heap.size := Nat.lt_of_lt_of_le hg hb4.size; have hcy4 : w4.cell? ⟨g, off + j, none⟩ = some (.int .u32 y) := (hb4.cell (p := ⟨g, off + j, none⟩) hg).trans hcy)
        | (go_at_call_of 39 (Value.int .u32 y); refine (b4_any y _ y0 y1).mono ?_; rintro e w6 ⟨A6, n6, k6, rfl, hown6, hb6⟩)
        | (go_at_call 36; (with_reducible refine (join2_any w4 _ Ap A4 np cp n4 k4 (b4s (ls.take k)) (b4 x) ?_ ?_ ?_ ?_).mono ?_); rfl; exact hp.drew.below hb4; exact hown4.row; (have h4 := hown4.len; rw [b4_len] at h4; omega); rintro e w5 ⟨A5, n5, k5, rfl, hown5, hb5⟩; have hcy5 : w5.cell? ⟨g, off + j, none⟩ = some (.int .u32 y) := (hb5.cell (p := ⟨g, off + j, none⟩) hg4).trans hcy4)
        | (go_at_call 36; (with_reducible refine (join2_any w6 _ Aq A6 nq cq n6 k6 (b4s ((rot ls (t % m)).take k)) (b4 y) ?_ ?_ ?_ ?_).mono ?_); rfl; exact ((hq.drew.below hb4).below hb5).below hb6; exact hown6.row; (have h4 := hown6.len; rw [b4_len] at h4; omega); rintro e w7 ⟨A7, n7, k7, rfl, hown7, hb7⟩))
      all_goals
        have e5 := hown5
        have e7 := hown7
        rw [b4s_snoc ls k x Hx.out] at e5
        rw [b4s_snoc (rot ls (t % m)) k y Hy.out] at e7
        have r5 := (e5.row.below hb6).below hb7
        have r7 := e7.row
        have b4' : Below w1.heap.size w1 w4 := hb.drew.trans (hb4.mono Hwr.out)
        have b5' : Below w1.heap.size w1 w5 := b4'.trans (hb5.mono b4'.size)
        have b6' : Below w1.heap.size w1 w6 := b5'.trans (hb6.mono b5'.size)
        have b7' : Below w1.heap.size w1 w7 := b6'.trans (hb7.mono b6'.size)
        clear hcx hcy hcy4 hcy5 hj1 hj2 hw1 hw0 hw2 hj3 hj4 hown4 hown5 hown6 hown7 hb4 hb5 hb6 hb7 e5 e7 b4' b5' b6' hp hq hb
        go_wp2
        go_roundw
        case rel => exact ⟨k + 1, by omega, by go_num, A5, _, k5, A7, _, k7, rfl, rfl, by rw [HS.out], r5, r7, b7'⟩
        case measure => simp [intOf]; omega
    · obtain rfl : k = m := by omega
      have Hr : Hid ((rot ls (t % k)).length = k) := by
        show _ = _
        rcases Nat.eq_zero_or_pos k with h | h
        · have h0 : ls = [] := List.eq_nil_of_length_eq_zero (by have := Hl.out; omega)
          rw [h0, h]
          simp [rot]
        · rw [rot_len ls _ (by have := Hl.out; have := Nat.mod_lt t h; omega), Hl.out]
      rw [List.take_of_length_le (by have := Hl.out; omega)] at hp
      rw [List.take_of_length_le (by have := Hr.out; omega)] at hq
      rw [List.take_of_length_le (by have := Hl.out; omega)]
      obtain ⟨sv, hsv⟩ : ∃ v, ls.sum % 4294967296 = v := ⟨_, rfl⟩
      have hs2 : 0 ≤ sv ∧ sv < 4294967296 := by omega
      rw [hsv]
      obtain ⟨s0, s1⟩ := hs2
      have H1 : Hid (rs (b4s ls) % 4294967296 = sv) := by show _ = _; rw [rs_b4s ls HW.out]; exact hsv
      have H2 : Hid (rs (b4s (rot ls (t % k))) % 4294967296 = sv) := by show _ = _; rw [rs_b4s _ (fun x hx => HW.out x (rot_mem hx)), rot_sum]; exact hsv
      have H3 : Hid (rs (b4s ls ++ b4 7) % 4294967296 = (sv + 7) % 4294967296) := by
        show _ = _
        rw [rs_append _ _ (by rw [b4s_len]; omega), rs_b4s ls HW.out, rs_b4 7 (by omega) (by omega)]
        omega
      have hnp : np ≤ 120 := by have := hp.len; rw [b4s_len, Hl.out] at this; omega
      have hnq : nq ≤ 120 := by have := hq.len; rw [b4s_len, Hr.out] at this; omega
      have hbw : Below w.heap.size w wr := hb1.trans (hb.mono hb1.size)
      have hvv : (sv == sv) = true := by simp
      clear hsv hb hrow1 hb1
      go_wp2_with fail
      refine (sum_rs_any _ _ _ _ _ hp (b4s_bytes _) (by omega)).mono ?_
      rintro e w2 ⟨rfl, hb2'⟩
      rw [H1.out]
      have hp2 := hp.below hb2'
      have hq2 := hq.below hb2'
      have hb2 : Below w.heap.size w w2 := hbw.trans (hb2'.mono hbw.size)
      clear hp hq hb2' hbw
      go_wp2_with fail
      refine (sum_rs_any _ _ _ _ _ hq2 (b4s_bytes _) (by omega)).mono ?_
      rintro e w3 ⟨rfl, hb3'⟩
      rw [H2.out]
      have hp3 := hp2.below hb3'
      have hb3 : Below w.heap.size w w3 := hb2.trans (hb3'.mono hb2.size)
      clear hp2 hq2 hb3' hb2
      go_wp2_with fail
      refine (b4_any 7 _ (by omega) (by omega)).mono ?_
      rintro e w4 ⟨A4, n4, k4, rfl, hown4, hb4'⟩
      have hp4 := hp3.below hb4'
      have hb4 : Below w.heap.size w w4 := hb3.trans (hb4'.mono hb3.size)
      have hr4 := hown4.row
      obtain rfl : n4 = 4 := hown4.len.symm
      clear hp3 hb4' hb3 hown4
      go_wp2_with fail
      refine (join2_any w4 _ Ap A4 np cp 4 k4 (b4s ls) (b4 7) rfl hp4 hr4 (by omega)).mono ?_
      rintro e w5 ⟨A5, n5, k5, rfl, hown5, hb5'⟩
      have hb5 : Below w.heap.size w w5 := hb4.trans (hb5'.mono hb4.size)
      have hr5 := hown5.row
      have hn5 : n5 ≤ 140 := by have := hown5.len; rw [List.length_append, b4_len, b4s_len, Hl.out] at this; omega
      clear hp4 hr4 hb5' hb4 hown5
      go_wp2_with fail
      refine (sum_rs_any _ _ _ _ _ hr5 (bytes_append (b4s_bytes _) (b4_bytes _)) (by omega)).mono ?_
      rintro e w6 ⟨rfl, hb6'⟩
      rw [H3.out]
      have hb6 : Below w.heap.size w w6 := hb5.trans (hb6'.mono hb5.size)
      have hyy : ((sv + 7) % 4294967296 == (sv + 7) % 4294967296) = true := by simp
      clear hr5 hb6' hb5
      go_wp2
      go_ret
      exact ⟨rfl, hb6⟩

end Go.Proofs.Yteampemlkkkfcaa
