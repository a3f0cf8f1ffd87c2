/- Join of any written-out row of byte slices; arrays of numbers held against one another. -/
import Derived.Test.YtlkidnacfljpkaaRef2
import Derived.Laws.StructEq
namespace Go.Proofs.Ytlkidnacfljpkaa
open Go.RowKit
set_option linter.unusedVariables false

theorem joinN_any (V : World) (b : Nat) (l : List BsV) (k : Nat) (cs : Array Value) (hcs : cs = (l.map BsV.val).toArray) (hb : b = V.heap.size) (hk : l.length = k) (hs : ∀ p ∈ l, p.ok V) (hk' : k ≤ 140737488351232) (hl : (joined l).length ≤ 140737488351232) :
    Calls Try.prog 17 #[.slice (some ⟨b, 0, none⟩) k k] (V.alloc (.cells cs 27)) (RetB V (joined l)) := by
  subst hb hcs
  have ha : Below V.heap.size V (V.alloc (.cells (l.map BsV.val).toArray 27)) := (Below.refl _ _).alloc (Nat.le_refl _) _
  refine (join_any _ k k l _ (row_vals V 27 _ k (by rw [List.length_map]; exact hk)) (fun p hp => ?_) hk' hl).mono ?_
  · exact Row.below (hs p hp) ha
  · rintro e w' ⟨A, n, c, rfl, ho, hb⟩
    exact ⟨A, n, c, rfl, ho.mono (by simp), ha.trans (hb.mono (by simp))⟩

/-- A search for the first place where two lists part. -/
theorem forIn_apart {P : Program} (w : World) (xs ys : List Int) (f : Nat → Option Bool × Unit → Sem (ForInStep (Option Bool × Unit)))
    (hf : ∀ i x y, xs[i]? = some x → ys[i]? = some y → ∀ r, (f i r).run P w = .ok (if x = y then .yield (none, ()) else .done (some false, ())) w) (hxy : xs.length = ys.length) :
    ∀ (n s : Nat), s + n = xs.length → xs.take s = ys.take s → (forIn (List.range' s n) (none, ()) f).run P w = .ok (if xs = ys then (none, ()) else (some false, ())) w := by
  intro n
  induction n with
  | zero =>
    intro s hsn ht
    have : xs = ys := by rw [List.take_of_length_le (by omega), List.take_of_length_le (by omega)] at ht; exact ht
    simp [this]
  | succ n ih =>
    intro s hsn ht
    have h1 : xs[s]? = some xs[s] := List.getElem?_eq_getElem (by omega)
    have h2 : ys[s]? = some ys[s] := List.getElem?_eq_getElem (by omega)
    rw [List.range'_succ, List.forIn_cons]
    simp only [Sem.run_bind, hf s _ _ h1 h2, Result.andThen_ok]
    by_cases he : xs[s] = ys[s]
    · rw [if_pos he]
      exact ih (s + 1) (by omega) (by rw [List.take_add_one, List.take_add_one, h1, h2, ht, he])
    · have hne : ¬ xs = ys := by
        rintro rfl
        exact he rfl
      rw [if_neg he, if_neg hne]
      simp [Sem.run_pure]

/-- Arrays of numbers are alike just if all their numbers are. -/
theorem run_equalIn_ints {P : Program} (w : World) (d : Nat) (t e : TypeId) (len : Nat) (k k' : IntKind) (xs ys : List Int) (ht : P.underlying t = some (.array len e)) (he : P.underlying e = some (.int k')) (ha : (isAgg e).run P w = .ok false w) (hs : (Go.sizeOf e).run P w = .ok 1 w) (hx : xs.length = len) (hy : ys.length = len) :
    (Op.equalIn (d + 2) t (.agg (cellsOf k xs).toArray) (.agg (cellsOf k ys).toArray)).run P w = .ok (decide (xs = ys)) w := by
  rw [show d + 2 = (d + 1) + 1 from rfl, Op.equalIn]
  simp only [Sem.run_bind, run_underlying ht, hs, Result.andThen_ok]
  rw [Std.Legacy.Range.forIn_eq_forIn_range']
  rw [show Std.Legacy.Range.size [0:len] = xs.length by simp [Std.Legacy.Range.size, hx]]
  rw [forIn_apart w xs ys _ ?_ (by omega) xs.length 0 (by omega) (by simp)]
  · simp only [Result.andThen_ok]
    by_cases h : xs = ys <;> simp [h, Sem.run_pure]
  · intro i x y h1 h2 r
    simp only [Sem.run_bind, Go.part, ha, Result.andThen_ok, Bool.false_eq_true, if_false, List.getElem?_toArray, Nat.mul_one, cellsOf_get h1, cellsOf_get h2, Sem.run_pure, run_equalIn_int w d e k k' x y he]
    by_cases h : x = y <;> simp [h, Sem.run_pure]

end Go.Proofs.Ytlkidnacfljpkaa
