/- The law SfntRefuses. -/
import Derived.Test.YtlkidnacfljpkaaFind
import Derived.Deep.RegionHeld3
namespace Go.Proofs.Ytlkidnacfljpkaa
open Go.RowKit Go.Shelf
set_option linter.unusedVariables false

/-- The same where the operation has a guard that says yes. -/
theorem step_append_wanted {P : Program} {α : Type} {w : World} {ops : Array Oper} {o : Oper} {a : Act} {K : Act → World → Prop} {Q : Exit → Act → World → Prop} {E : Prop} (hw : Region.wanted o (yielded ops a.tmps) = true) (s x : Operand) (T : TypeId)
    (ho : o.op = .call { callee := .builtin .append, args := #[s, x], argTypes := #[T, T] }) (t : TypeId) (enc : α → List Value) (k : Nat) (hk : ∀ x, (enc x).length = k) (hk0 : 0 < k) (h1 : ∀ x, ∀ u ∈ enc x, u.oneCell' = true)
    (base : Nat) (i : TypeInfo) (z : Value) (b : Nat) (ht : P.underlying T = some (.slice t)) (hi : P.info? t = some i) (hz : i.zero = some z) (hs : i.size = k) (hzs : z.cells.size = k) (hby : i.bytes = b)
    (A : Option Addr) (n c : Nat) (l : List α) (hes : a.eval s = .slice A n c) (hown : OwnS t enc k w base A n c l) (A' : Option Addr) (n' c' : Nat) (l' : List α) (hex : a.eval x = .slice A' n' c') (hr : RowS enc k w A' n' l')
    (hb : (n + n') * b ≤ 140737488355328) (hm : n + n' ≤ 140737488355328) (hbase : base ≤ w.heap.size)
    (h : ∀ A2 c2 w', OwnS t enc k w' base A2 (n + n') c2 (l ++ l') → w.grownBy w' (blockOf A) → K (a.put o.dst (.slice A2 (n + n') c2)) w') : if Region.wanted o (yielded ops a.tmps) = true then Oper.wp P o a w K Q else E := by
  rw [if_pos hw]
  obtain ⟨A2, c2, w', hrun, h2, h3⟩ := run_append_rowS (P := P) w t enc k hk hk0 h1 base T o.type i z b ht hi hz hs hzs hby A n c l hown A' n' c' l' hr hb hm hbase
  unfold Oper.wp execOp
  simp only [ho, resolve, invoke, builtin, Sem.run_bind, Sem.run_pure, Result.andThen_ok, List.map_toArray, List.map_cons, List.map_nil, hes, hex, hrun]
  exact h A2 c2 w' h2 h3

/-- Tables of one byte each, told apart by it, and of no data. -/
def manyT (i : Nat) : Tab := ⟨strOfNums [97, 98, (i : Int), 100], none, 0, 0, []⟩
theorem manyT_tag (i : Nat) : (manyT i).tag.toList = [97, 98, UInt8.ofNat i, 100] := by unfold manyT; rw [strOf_list]; rfl

theorem manyT_rise (n : Nat) (hn : n ≤ 255) : ((List.range n).map manyT).Pairwise fun x y => cb x.tag.toList y.tag.toList < 0 := by
  rw [List.pairwise_map]
  refine List.Pairwise.imp_of_mem ?_ (List.pairwise_lt_range (n := n))
  intro i j hi hj hij
  have hi' := List.mem_range.1 hi
  have hj' := List.mem_range.1 hj
  rw [manyT_tag, manyT_tag]
  have h1 : (97 : UInt8) < 97 ↔ False := by decide
  have h2 : (98 : UInt8) < 98 ↔ False := by decide
  have h3 : UInt8.ofNat i < UInt8.ofNat j := by
    rw [UInt8.lt_iff_toNat_lt, UInt8.toNat_ofNat', UInt8.toNat_ofNat']
    omega
  simp [cb, Lib.compareBytes, h3]

/-- Tables that rise, of tags of four bytes, may be a font. -/
theorem rise_build (l : List Tab) (hr : l.Pairwise fun x y => cb x.tag.toList y.tag.toList < 0) (h4 : ∀ t ∈ l, t.tag.size = 4) (hp : placeL (12 + 16 * l.length) (l.map Tab.n) ≤ 67108864) : buildB l = true := by
  unfold buildB tagsB
  rw [Bool.and_eq_true, List.all_eq_true]
  refine ⟨fun k hk => ?_, by simpa using hp⟩
  have hkl := List.mem_range.1 hk
  have ht : l[k]? = some l[k] := List.getElem?_eq_getElem hkl
  unfold fineB
  rw [tagLs_get ht]
  simp only [decide_eq_true_eq]
  refine ⟨by rw [size_toList]; exact h4 _ (List.getElem_mem hkl), ?_⟩
  rcases Nat.eq_zero_or_pos k with h | h
  · exact .inl h
  · right
    have hs : l[k - 1]? = some l[k - 1] := List.getElem?_eq_getElem (by omega)
    rw [tagLs_get hs]
    have := List.pairwise_iff_getElem.1 hr (k - 1) k (by omega) hkl (by omega)
    intro e
    rw [e, cb_self] at this
    omega

/-- Of tables by their tags of which one is there twice nothing is built. -/
theorem twice_build (l : List Tab) (hs : l.Pairwise fun x y => cb y.tag.toList x.tag.toList ≥ 0) (i j : Nat) (hij : i < j) (x y : Tab) (hi : l[i]? = some x) (hj : l[j]? = some y) (he : x.tag.toList = y.tag.toList) : buildB l = false := by
  obtain ⟨k, u, v, hu, hv, huv⟩ := twice_near (fun t : Tab => t.tag.toList) l hs i j hij x y hi hj he
  unfold buildB
  rw [tagsB_false (k := k + 1) (by have := (List.getElem?_eq_some_iff.1 hv).1; omega) (by unfold fineB; rw [tagLs_get hv, show k + 1 - 1 = k by omega, tagLs_get hu]; simp [huv])]
  rfl
theorem odd_build (l : List Tab) (x : Tab) (hx : x ∈ l) (h4 : x.tag.size ≠ 4) : buildB l = false := by
  obtain ⟨k, hk⟩ := List.getElem?_of_mem hx
  unfold buildB
  rw [tagsB_false (k := k) (by exact (List.getElem?_eq_some_iff.1 hk).1) (by unfold fineB; rw [tagLs_get hk, size_toList]; simp [h4])]
  rfl
theorem rise_sorted {l l' : List Tab} (hp : l'.Perm l) (hs : l'.Pairwise fun x y => cb y.tag.toList x.tag.toList ≥ 0) (hr : l.Pairwise fun x y => cb x.tag.toList y.tag.toList < 0) : l' = l :=
  (rise_uniq (fun t : Tab => t.tag.toList) l l' hp.symm hr hs).symm
theorem buildL_pos (l : List T) (h4 : ∀ t ∈ l, t.1.length = 4) : 0 < (buildL l).length := by
  have h := writeL_len l h4
  have h12 : 12 ≤ placeT l l.length := by
    rw [placeT_full, ← dataL_len]
    omega
  unfold buildL
  split
  · omega
  · rename_i i hi
    obtain ⟨t, ht, _⟩ := adjIx_some l i hi
    simp only [List.length_append, b4_len]
    omega

theorem indexF_empty (A : Option Addr) (c : Nat) (f : Value) (w : World) : Calls Try.prog 28 #[.slice A 0 c, f] w fun e w' => e = .returned (.int .i64 (-1)) ∧ w = w' := by
  go_enter Try.func28, Try.ntmps28
  go_wp2
  refine wp_loop_rounds 1 ?_
  rw [rounds_succ]
  go_wp2
  go_ret
  exact ⟨rfl, rfl⟩

theorem find_empty (A : Option Addr) (c : Nat) (tag : ByteArray) (w : World) : Calls Try.prog 18 #[.slice A 0 c, .string tag] w fun e w' => e = .returned (.tuple #[.slice none 0 0, .bool false]) ∧ Below w.heap.size w w' := by
  have hA : Below w.heap.size w (w.alloc (.cells #[.string tag] 9)) := (Below.refl _ _).alloc (Nat.le_refl _) _
  have HA := Lib.hid hA
  clear hA
  go_enter Try.func18, Try.ntmps18
  go_wp2_with fail
  refine (indexF_empty _ _ _ _).mono ?_
  rintro e w' ⟨rfl, rfl⟩
  go_wp2
  go_ret2
  exact ⟨rfl, HA.out⟩

theorem manyT_ok (w : World) (i : Nat) : (manyT i).ok w := ⟨Row.empty _ _, (fun x hx => by cases hx), Nat.zero_le _⟩
theorem manyT_size (i : Nat) : (manyT i).tag.size = 4 := rfl
theorem zeros_place (a : Nat) : ∀ (l : List Tab), (∀ t ∈ l, t.n = 0) → placeL a (l.map Tab.n) = a := by
  intro l
  unfold placeL
  induction l with
  | nil => intro _; rfl
  | cons x l ih => intro h; rw [List.map_cons, List.foldl_cons, h x (by simp)]; exact ih (fun t ht => h t (by simp [ht]))

/-- How much Build makes of the tables many. -/
theorem many_pos (n : Nat) (h0 : 1 ≤ n) (hn : n ≤ 64) (l' : List Tab) (hp : l'.Perm ((List.range n).map manyT)) (hs : l'.Pairwise fun x y => cb y.tag.toList x.tag.toList ≥ 0) : 0 < (if buildB l' = true then buildL (l'.map Tab.pure) else []).length := by
  have hr := manyT_rise n (by omega)
  have e := rise_sorted hp hs hr
  subst e
  rw [rise_build _ hr (fun t ht => by obtain ⟨i, _, rfl⟩ := List.mem_map.1 ht; rfl) (by rw [zeros_place _ _ (fun t ht => by obtain ⟨i, _, rfl⟩ := List.mem_map.1 ht; rfl)]; simp; omega), if_pos rfl]
  exact buildL_pos _ (fun t ht => by
    obtain ⟨x, hx, rfl⟩ := List.mem_map.1 ht
    obtain ⟨i, _, rfl⟩ := List.mem_map.1 hx
    show (manyT i).tag.toList.length = 4
    rw [size_toList]
    rfl)

theorem sameL_self (l : List Tab) : sameL l l = true := by
  unfold sameL eqK
  rw [Bool.and_eq_true, List.all_eq_true]
  refine ⟨by simp, fun i _ => ?_⟩
  unfold eqT sameB
  simp
theorem sameL_drop (l : List Tab) (h : 0 < l.length) : sameL l (l.drop 1) = false := by
  unfold sameL
  rw [Bool.and_eq_false_iff]
  left
  simp
  omega

/-- Of a list of which the first stands at the end once more nothing is built. -/
theorem again_build {L l' : List Tab} {t : Tab} (h0 : L[0]? = some t) (hp : l'.Perm (L ++ [t])) (hs : l'.Pairwise fun x y => cb y.tag.toList x.tag.toList ≥ 0) : buildB l' = false := by
  have hc : 2 ≤ l'.countP (fun x => x.tag.toList == t.tag.toList) := by
    rw [hp.countP_eq, List.countP_append]
    have h1 : 0 < L.countP (fun x => x.tag.toList == t.tag.toList) := List.countP_pos_iff.2 ⟨t, List.mem_of_getElem? h0, by simp⟩
    have h2 : [t].countP (fun x => x.tag.toList == t.tag.toList) = 1 := by simp
    omega
  have key : ∀ (l : List Tab), 2 ≤ l.countP (fun x => x.tag.toList == t.tag.toList) → ∃ (i j : Nat) (x y : Tab), i < j ∧ l[i]? = some x ∧ l[j]? = some y ∧ x.tag.toList = y.tag.toList := by
    intro l
    induction l with
    | nil => intro h; simp at h
    | cons z l ih =>
      intro h
      rw [List.countP_cons] at h
      by_cases hz : z.tag.toList = t.tag.toList
      · have h1 : 0 < l.countP (fun x => x.tag.toList == t.tag.toList) := by split at h <;> omega
        obtain ⟨y, hy, hyt⟩ := List.countP_pos_iff.1 h1
        obtain ⟨j, hj⟩ := List.getElem?_of_mem hy
        exact ⟨0, j + 1, z, y, by omega, rfl, by simpa using hj, by rw [hz]; simpa using (by simpa using hyt : y.tag.toList = t.tag.toList).symm⟩
      · have h1 : 2 ≤ l.countP (fun x => x.tag.toList == t.tag.toList) := by simp [hz] at h; omega
        obtain ⟨i, j, x, y, h2, h3, h4, h5⟩ := ih h1
        exact ⟨i + 1, j + 1, x, y, by omega, by simpa using h3, by simpa using h4, h5⟩
  obtain ⟨i, j, x, y, h1, h2, h3, h4⟩ := key l' hc
  exact twice_build l' hs i j h1 x y h2 h3 h4

theorem RowS.drop {α : Type} {enc : α → List Value} {k : Nat} (hk : ∀ x, (enc x).length = k) {w : World} {A : Option Addr} {n : Nat} {l : List α} (h : RowS enc k w A n l) (m : Nat) : RowS enc k w (A.map (·.add (m * k))) (n - m) (l.drop m) :=
  ⟨by rw [List.length_drop, h.1], by rw [← flat_drop hk, Nat.sub_mul]; exact h.2.drop (m * k)⟩

/-- Build of the tables many: something where they are 1 to 64. -/
theorem build_many (A : Option Addr) (k c : Nat) (w : World) (hr : RowS encT 2 w A k ((List.range k).map manyT)) : Calls Try.prog 8 #[.slice A k c] w fun e w' => ∃ (A' : Option Addr) (n' c' : Nat), e = .returned (.slice A' n' c') ∧ decide (0 < n') = decide (1 ≤ k ∧ k ≤ 64) ∧ Below w.heap.size w w' := by
  by_cases h : 1 ≤ k ∧ k ≤ 64
  · refine (build_any A k c _ w hr (fun t ht => by obtain ⟨i, _, rfl⟩ := List.mem_map.1 ht; exact manyT_ok w i) h.1 h.2).mono ?_
    rintro e w' ⟨l', hp, hs, A', n', c', rfl, ho, hb⟩
    refine ⟨A', n', c', rfl, ?_, hb⟩
    have h1 := many_pos k h.1 h.2 l' hp hs
    rw [ho.len] at h1
    rw [decide_eq_true h1, decide_eq_true h]
  · refine (build_none A k c w (by unfold cntB; simp; omega)).mono ?_
    rintro e w' ⟨rfl, rfl⟩
    exact ⟨_, _, _, rfl, by rw [decide_eq_false h]; rfl, Below.refl _ _⟩

/-- Build of what is not buildable. -/
theorem build_not (A : Option Addr) (n c : Nat) (l : List Tab) (w : World) (hr : RowS encT 2 w A n l) (hok : ∀ t ∈ l, t.ok w) (h0 : 1 ≤ n) (hn : n ≤ 64) (hno : ∀ l' : List Tab, l'.Perm l → l'.Pairwise (fun x y => cb y.tag.toList x.tag.toList ≥ 0) → buildB l' = false) :
    Calls Try.prog 8 #[.slice A n c] w fun e w' => ∃ (A' : Option Addr) (c' : Nat), e = .returned (.slice A' 0 c') ∧ Below w.heap.size w w' := by
  refine (build_any A n c l w hr hok h0 hn).mono ?_
  rintro e w' ⟨l', hp, hs, A', n', c', rfl, ho, hb⟩
  have h1 := ho.len
  rw [hno l' hp hs] at h1
  have h2 : n' = 0 := h1.symm
  subst h2
  exact ⟨A', c', rfl, hb⟩

end Go.Proofs.Ytlkidnacfljpkaa
