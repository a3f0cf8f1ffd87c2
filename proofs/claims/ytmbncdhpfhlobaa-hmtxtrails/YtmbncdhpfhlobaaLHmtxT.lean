/- The law HmtxTrails. -/
import Derived.Test.YtmbncdhpfhlobaaLHmtx
namespace Go.Proofs.Ytmbncdhpfhlobaa
open Go.RowKit
set_option linter.unusedVariables false

theorem down_congr (l l' : List Mt) : ∀ n, (∀ i, i < n → adv l i = adv l' i) → down l n = down l' n
  | 0, _ => rfl
  | 1, _ => rfl
  | n + 2, h => by
    rw [down, down, h n (by omega), h (n + 1) (by omega), down_congr l l' (n + 1) (fun i hi => h i (by omega))]

theorem adv_left (l : List Mt) (x : Mt) (i : Nat) (h : i < l.length) : adv (l ++ [x]) i = adv l i := by
  unfold adv mAt
  rw [List.getElem?_append_left h]
theorem adv_last (l : List Mt) (x : Mt) : adv (l ++ [x]) l.length = x.1 := by
  unfold adv mAt
  rw [List.getElem?_append_right (Nat.le_refl _), Nat.sub_self]
  rfl
theorem longL_ext (l : List Mt) (x : Mt) (h0 : 0 < l.length) (hx : x.1 = adv l (l.length - 1)) : longL (l ++ [x]) = longL l := by
  obtain ⟨j, hj⟩ : ∃ j, l.length = j + 1 := ⟨l.length - 1, by omega⟩
  unfold longL
  rw [List.length_append, List.length_singleton, hj]
  rw [down_eq]
  · exact down_congr _ _ _ fun i hi => adv_left l x i (by omega)
  · rw [adv_left l x j (by omega), ← hj, adv_last, hx, hj, Nat.add_sub_cancel]

/-- With what is added. -/
def extM (l : List Mt) (a : Int) (us : List Int) (k : Nat) : List Mt := l ++ ((us.take k).take 20).map fun y => (a, y)
theorem extM_snoc (l : List Mt) (a : Int) (us : List Int) (k : Nat) (y : Int) (hy : us[k]? = some y) (hk : k < 20) : extM l a us (k + 1) = extM l a us k ++ [(a, y)] := by
  unfold extM
  rw [← take_take_snoc us k 20 y hy hk]
  simp
theorem extM_same (l : List Mt) (a : Int) (us : List Int) (k : Nat) (hk : 20 ≤ k) : extM l a us (k + 1) = extM l a us k := by
  unfold extM
  rw [take_take_same us k 20 hk]
theorem extM_len (l : List Mt) (a : Int) (us : List Int) (k : Nat) : (extM l a us k).length ≤ l.length + 20 ∧ l.length ≤ (extM l a us k).length := by
  unfold extM
  rw [List.length_append, List.length_map, List.length_take]
  omega
theorem extM_ok (l : List Mt) (a : Int) (us : List Int) (k : Nat) (hl : OkM l) (a0 : 0 ≤ a) (a1 : a ≤ 65535) (hu : ∀ x ∈ us, -32768 ≤ x ∧ x ≤ 32767) : OkM (extM l a us k) := by
  intro m hm
  unfold extM at hm
  rcases List.mem_append.1 hm with h | h
  · exact hl m h
  · obtain ⟨y, hy, rfl⟩ := List.mem_map.1 h
    have := hu y (List.mem_of_mem_take (List.mem_of_mem_take hy))
    exact ⟨a0, a1, this.1, this.2⟩
/-- How many are told whole stays. -/
theorem longL_many (l : List Mt) (ys : List Int) (h0 : 0 < l.length) : longL (l ++ ys.map fun y => (adv l (l.length - 1), y)) = longL l := by
  suffices h : ∀ (ys : List Int) (m : List Mt), 0 < m.length → adv m (m.length - 1) = adv l (l.length - 1) → longL (m ++ ys.map fun y => (adv l (l.length - 1), y)) = longL m from h ys l h0 rfl
  intro ys
  induction ys with
  | nil => intro m _ _; simp
  | cons y ys ih =>
    intro m hm ha
    rw [List.map_cons, show m ++ (adv l (l.length - 1), y) :: ys.map (fun y => (adv l (l.length - 1), y)) = (m ++ [(adv l (l.length - 1), y)]) ++ ys.map (fun y => (adv l (l.length - 1), y)) by simp]
    rw [ih (m ++ [(adv l (l.length - 1), y)]) (by simp) (by rw [List.length_append, List.length_singleton, Nat.add_sub_cancel, adv_last])]
    exact longL_ext m _ hm ha.symm

set_option maxRecDepth 100000 in
set_option maxHeartbeats 2000000 in
theorem law_HmtxTrails (A : Option Addr) (n0 c : Nat) (l0 : List Mt) (A' : Option Addr) (n' c' : Nat) (us : List Int) (w : World) (hr : RowS encM 2 w A n0 l0) (hok : OkM l0) (hn : n0 ≤ 9223372036854775807) (hcap : n0 ≤ c)
    (hu : Row w A' n' (cellsOf .i16 us)) (hU : ∀ x ∈ us, -32768 ≤ x ∧ x ≤ 32767) (hn' : n' ≤ 9223372036854775807) :
    Calls Try.prog 6 #[.slice A n0 c, .slice A' n' c'] w (True_ w) := by
  obtain ⟨i0, hi, hz0, hz1, hz2⟩ := info_parts Try.mtinfo
  have Hok := Lib.hid (okM_take hok 60)
  have HU := Lib.hid hU
  have HUn := Lib.hid hu.len
  clear hU
  go_enter Try.func6, Try.ntmps6
  go_wp2_with fail
  refine (awake7_any w).mono ?_
  rintro e w0 ⟨rfl, hb0⟩
  go_wp2_with fail
  refine (few7_any _ _ _ l0 _ (hr.below hb0) hok hn hcap).mono ?_
  rintro e w1 ⟨A1, n, c1, A2, c2, rfl, om, or_, hb1⟩
  have hrow := om.row encM_len
  have hbw : Below w.heap.size w w1 := hb0.trans (hb1.mono hb0.size)
  have hu1 := hu.below hbw
  have hc1 := om.cap
  have hn60 : n ≤ 60 := by have := om.len; rw [List.length_take] at this; omega
  have Hn := Lib.hid om.len
  clear om or_ hb1 hb0 hr hok hn hcap hu
  generalize l0.take 60 = l at *
  by_cases hz : n = 0
  · subst hz
    go_wp2
    go_ret
    exact ⟨rfl, hbw⟩
  · have hz' : ((n : Int) == 0) = false := by simp [hz]
    obtain ⟨x, hx⟩ := getM (l := l) (j := n - 1) (by have := Hn.out; omega)
    have HX : Hid (adv l (l.length - 1) = x.1) := by rw [Hn.out]; unfold adv; rw [mAt_of hx]; exact rfl
    obtain ⟨x0, x1, _, _⟩ := Hok.out x (List.mem_of_getElem? hx)
    have Hx := Lib.hid hx
    obtain ⟨a, a'⟩ := x
    simp only at HX x0 x1
    have HLM : Hid (∀ k, longL (extM l a us k) = longL l) := by
      show ∀ k, longL (extM l a us k) = longL l
      intro k
      unfold extM
      rw [← HX.out]
      exact longL_many l _ (by have := Hn.out; omega)
    clear hx
    have hbu := Lib.hid (hbuild_any A1 n c1 l w1 hrow (by omega) Hok.out)
    go_wp2_with fail
    refine hbu.out.mono ?_
    rintro e w2 ⟨A3, n3, c3, rfl, _, hb2⟩
    have hrow2 := hrow.below hb2
    have hu2 := hu1.below hb2
    have hbw2 : Below w.heap.size w w2 := hbw.trans (hb2.mono hbw.size)
    clear hrow hbw hbu hb2 hu1
    have ho0 : OwnS 41 encM 2 (w2.alloc (.cells #[] 41)) w2.heap.size (some ⟨w2.heap.size, 0, none⟩) 0 0 [] := ownS_lit w2 w2.heap.size 41 encM 2 encM_len [] _ rfl 0 rfl (Nat.le_refl _) (by simp only [maxLen]; omega)
    have hba : Below w2.heap.size w2 (w2.alloc (.cells #[] 41)) := (Below.refl _ _).alloc (Nat.le_refl _) _
    have hr1 := hrow2.below hba
    go_wp2_with (at_builtin; refine wpList_append_rowS rfl (.tmp 29) (.tmp 30) _ rfl 41 encM 2 encM_len (by omega) encM_one w2.heap.size i0 _ 4 Try.underlying22 hi hz0 hz1 rfl hz2 _ 0 0 [] rfl ho0 A1 n c1 l rfl hr1 (by omega) (by omega) (by simp) ?_)
    intro A4 c4 w3 hown4 hg4
    have hb4 : Below w2.heap.size w2 w3 := hba.grown hg4 (by simp) (fun q e => by simp [blockOf] at e; omega)
    clear hg4 ho0 hba hr1
    go_wp2
    go_loopw [7, 34] (fun v i wr => ∃ (k : Nat) (A5 : Option Addr) (n5 c5 : Nat), k ≤ n' ∧ i = .int .i64 k ∧ v = .slice A5 n5 c5 ∧ OwnS 41 encM 2 wr w2.heap.size A5 n5 c5 (extM l a us k) ∧ Below w2.heap.size w2 wr) (fun _ i _ => n' - (intOf i).toNat)
    case atStart => exact ⟨0, A4, n, c4, Nat.zero_le _, rfl, rfl, by simpa [extM] using hown4, hb4⟩
    case round =>
      clear hown4 hb4
      obtain ⟨k, A5, n5, c5, hk, rfl, rfl, hown, hbel⟩ := hrel
      have hn5 : n5 ≤ 80 ∧ n ≤ n5 := by have h1 := hown.len; have h2 := extM_len l a us k; have := Hn.out; omega
      obtain ⟨hn5, hn5'⟩ := hn5
      by_cases hlt : k < n'
      · obtain ⟨y, hy⟩ := get_some (zs := us) (k := k) (by have := HUn.out; omega)
        obtain ⟨g, off, rfl, hg, hc⟩ := (hu2.below hbel).at (cellsOf_get (k := .i16) hy)
        by_cases hk20 : k < 20
        · have HE := Lib.hid (extM_snoc l a us k y hy hk20)
          obtain ⟨g1, off1, rfl, _, hd0, _⟩ := atM (hrow2.below hbel) Hx.out
          have v4 : ((n : Int) - 1).toNat = n - 1 := by omega
          have hsz := hbel.size
          have hal : Below wr.heap.size wr (wr.alloc (.cells #[.int .u16 a, .int .i16 y] 41)) := (Below.refl _ _).alloc (Nat.le_refl _) _
          have hro := rowS_vals encM_len wr 41 [(a, y)] #[.int .u16 a, .int .i16 y] rfl 1 rfl
          have hownA := hown.below hal
          have hbelA := hbel.trans (hal.mono hsz)
          have hbA := hbelA.size
          clear hown hbel hal hy
          go_wp2_with (at_builtin; refine wpList_append_rowS rfl (.tmp 41) (.tmp 51) _ rfl 41 encM 2 encM_len (by omega) encM_one w2.heap.size i0 _ 4 Try.underlying22 hi hz0 hz1 rfl hz2 A5 n5 c5 _ rfl hownA (some ⟨wr.heap.size, 0, none⟩) 1 1 [(a, y)] rfl hro (by omega) (by omega) (by simp; omega) ?_)
          intro A6 c6 w6 hown6 hg6
          rw [← HE.out] at hown6
          have hbel6 : Below w2.heap.size w2 w6 := hbelA.grown hg6 hbA (fun r e => (hownA.from_ r e).1)
          clear hg6 hownA hro hbelA hc hd0
          go_wp2
          go_roundw
          case rel => exact ⟨k + 1, A6, n5 + 1, c6, by omega, by go_num, rfl, hown6, hbel6⟩
          case measure => simp [intOf]; omega
        · have HE := Lib.hid (extM_same l a us k (by omega))
          clear hy
          go_wp2
          go_roundw
          case rel => exact ⟨k + 1, A5, n5, c5, by omega, by go_num, rfl, by rw [HE.out]; exact hown, hbel⟩
          case measure => simp [intOf]; omega
      · have HOk := Lib.hid (extM_ok l a us k Hok.out x0 x1 HU.out)
        have HLk := Lib.hid (HLM.out k)
        have hbw3 : Below w.heap.size w wr := hbw2.trans (hbel.mono hbw2.size)
        have r5 := hown.row encM_len
        have Hl5 := Lib.hid hown.len
        have hL := longL_le (extM l a us k)
        have hLp := longL_pos (extM l a us k) (by rw [Hl5.out]; omega)
        rw [Hl5.out] at hL
        clear hown hbel hbw2 hrow2 hu2
        have HB := Lib.hid (mets_long (extM l a us k) HOk.out (by rw [Hl5.out]; omega))
        rw [Hl5.out] at HB
        have hbu := Lib.hid (hbuild_any A5 n5 c5 _ wr r5 (by omega) HOk.out)
        generalize extM l a us k = al at *
        go_wp2_with fail
        refine hbu.out.mono ?_
        rintro e w6 ⟨A6, n6, c6, rfl, o6, hb6⟩
        rw [Hl5.out] at o6
        have r56 := r5.below hb6
        have r6 := o6.row
        have hbw6 : Below w.heap.size w w6 := hbw3.trans (hb6.mono hbw3.size)
        have Hl6 : Hid (n6 = 2 * longL al + 2 * n5) := by have h := r6.len; rw [bytesK_len, posM_all _ _ hL] at h; exact h.symm
        clear o6 hb6 r5 hbw3 hbu
        generalize hLL : longL al = L at *
        have HLL := Lib.hid hLL
        have HL' : Hid (longL l = L) := HLk.out.symm
        rw [HL'.out]
        clear hLL HLk
        go_wp2_with fail
        with_reducible refine (hparse_back _ _ _ al L n5 _ r6 Hl5.out HB.out hLp hL (by omega)).mono ?_
        rintro e w7 ⟨A7, c7, rfl, o7, hb7⟩
        have r57 := r56.below hb7
        have r7 := o7.row encM_len
        have hbw7 : Below w.heap.size w w7 := hbw6.trans (hb7.mono hbw6.size)
        clear o7 hb7 r56 r6 hbw6
        go_wp2_with fail
        with_reducible refine (equalM_any _ _ _ _ _ _ _ _ _ r7 r57 (by omega) (by omega)).mono ?_
        rintro e w8 ⟨rfl, q, rfl⟩
        rw [sameM_refl]
        obtain rfl := Hl6.out
        go_wp2
        go_ret
        exact ⟨by simp, below_drewN hbw7 q⟩

end Go.Proofs.Ytmbncdhpfhlobaa
