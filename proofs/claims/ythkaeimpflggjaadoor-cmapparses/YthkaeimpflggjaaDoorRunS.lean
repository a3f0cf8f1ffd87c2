/- Pairs in a row: plain lists. -/
import Derived.Test.YthkaeimpflggjaaDoorRunM
namespace Go.Proofs.YthkaeimpflggjaaDoor
set_option linter.unusedVariables false

def lastC : Int → List Pr → Int
  | ah, [] => ah
  | _, p :: r => lastC p.code r
theorem lastC_snoc (p : Pr) : ∀ (l : List Pr) (ah : Int), lastC ah (l ++ [p]) = p.code
  | [], _ => rfl
  | q :: r, _ => lastC_snoc p r q.code
theorem risesF_snoc (most : Int) (p : Pr) : ∀ (l : List Pr) (ah : Int), risesF most ah (l ++ [p]) = (risesF most ah l && decide (lastC ah l < p.code ∧ p.code ≤ most))
  | [], ah => by
    show (decide (ah < p.code ∧ p.code ≤ most) && true) = (true && decide (ah < p.code ∧ p.code ≤ most))
    rw [Bool.and_true, Bool.true_and]
  | q :: r, ah => by
    rw [List.cons_append, risesF, risesF_snoc most p r q.code, risesF, lastC, Bool.and_assoc]

/-- Pairs of codes that come in, each with its place as glyph or another number. -/
def prsI (f : Nat → Int) (zs : List Int) (m : Nat) : List Pr := (List.range m).map fun i => ⟨zs.getD i 0, f i⟩
theorem prsI_succ (f : Nat → Int) (zs : List Int) (m : Nat) {x : Int} (h : zs[m]? = some x) : prsI f zs (m + 1) = prsI f zs m ++ [⟨x, f m⟩] := by
  unfold prsI
  rw [List.range_succ, List.map_append, List.map_cons, List.map_nil, List.getD_eq_getElem?_getD, h]
  rfl
theorem prsI_len (f : Nat → Int) (zs : List Int) (m : Nat) : (prsI f zs m).length = m := by simp [prsI]
theorem prsI_last (f : Nat → Int) (zs : List Int) (m : Nat) {x : Int} (h : zs[m]? = some x) (ah : Int) : lastC ah (prsI f zs (m + 1)) = x := by rw [prsI_succ f zs m h, lastC_snoc]
theorem prsI_g {f : Nat → Int} (zs : List Int) {m : Nat} (hf : ∀ i, i < m → 0 ≤ f i ∧ f i ≤ 65535) : PrG (prsI f zs m) := by
  intro p hp
  unfold prsI at hp
  obtain ⟨i, hi, rfl⟩ := List.mem_map.1 hp
  exact hf i (List.mem_range.1 hi)
theorem prsI_nonneg {f : Nat → Int} {zs : List Int} {m : Nat} {x : Int} (h : zs[m]? = some x) {most : Int} (hr : risesF most (-1) (prsI f zs (m + 1)) = true) : 0 ≤ x := by
  have := risesF_mem hr ⟨x, f m⟩ (by rw [prsI_succ f zs m h]; simp)
  simp at this
  omega

/-- Codes in a row. -/
def seqF (f : Nat → Int) (at_ : Int) (k : Nat) : List Pr := (List.range k).map fun (i : Nat) => ⟨at_ + (i : Int), f i⟩
theorem seqF_succ (f : Nat → Int) (at_ : Int) (k : Nat) : seqF f at_ (k + 1) = seqF f at_ k ++ [⟨at_ + k, f k⟩] := by
  unfold seqF
  rw [List.range_succ, List.map_append]
  rfl
theorem seqF_len (f : Nat → Int) (at_ : Int) (k : Nat) : (seqF f at_ k).length = k := by simp [seqF]
theorem seqF_g {f : Nat → Int} (at_ : Int) {k : Nat} (hf : ∀ i, i < k → 0 ≤ f i ∧ f i ≤ 65535) : PrG (seqF f at_ k) := by
  intro p hp
  unfold seqF at hp
  obtain ⟨i, hi, rfl⟩ := List.mem_map.1 hp
  exact hf i (List.mem_range.1 hi)
theorem seqF_last (f : Nat → Int) (at_ : Int) (k : Nat) (ah : Int) : lastC ah (seqF f at_ (k + 1)) = at_ + k := by rw [seqF_succ, lastC_snoc]
theorem seqF_rises (f : Nat → Int) (at_ most : Int) (h0 : 0 ≤ at_) : ∀ k : Nat, at_ + k ≤ most + 1 → risesF most (-1) (seqF f at_ k) = true
  | 0, _ => rfl
  | 1, h => by
    rw [seqF_succ, risesF_snoc]
    show (true && decide (-1 < at_ + ((0 : Nat) : Int) ∧ at_ + ((0 : Nat) : Int) ≤ most)) = true
    simp
    omega
  | k + 2, h => by
    have ih := seqF_rises f at_ most h0 (k + 1) (by omega)
    rw [seqF_succ, risesF_snoc, ih, seqF_last]
    simp
    omega
theorem seqF_runs {fol : Pr → Pr → Bool} (f : Nat → Int) (at_ : Int) (N : Nat) (hf : ∀ i : Nat, i + 1 < N → fol ⟨at_ + i, f i⟩ ⟨at_ + (i + 1 : Nat), f (i + 1)⟩ = true) : ∀ k : Nat, k + 1 ≤ N → runsF fol (seqF f at_ (k + 1)) = [⟨at_, at_ + k, f 0⟩]
  | 0, _ => by
    show [(⟨at_ + ((0 : Nat) : Int), at_ + ((0 : Nat) : Int), f 0⟩ : Rn)] = _
    simp
  | k + 1, h => by
    have ih := seqF_runs f at_ N hf k (by omega)
    have hs := (runsF_snoc fol ⟨at_ + k, f k⟩ ⟨at_ + (k + 1 : Nat), f (k + 1)⟩ (seqF f at_ k)).2 (hf k (by omega))
    obtain ⟨s, x, e1, e2⟩ := hs
    rw [← seqF_succ, ih] at e1
    have e3 : seqF f at_ (k + 1 + 1) = seqF f at_ k ++ [⟨at_ + k, f k⟩, ⟨at_ + (k + 1 : Nat), f (k + 1)⟩] := by
      rw [seqF_succ f at_ (k + 1), seqF_succ f at_ k, List.append_assoc]
      rfl
    rw [e3, e2]
    cases s with
    | nil =>
      obtain ⟨rfl, _⟩ := List.cons.inj e1
      rfl
    | cons y s => simp at e1
/-- And one more, behind a gap. -/
theorem seqF_gap {fol : Pr → Pr → Bool} (f : Nat → Int) (at_ : Int) (k : Nat) (c g : Int) (hf : ∀ i : Nat, i + 1 < k + 1 → fol ⟨at_ + i, f i⟩ ⟨at_ + (i + 1 : Nat), f (i + 1)⟩ = true) (hn : fol ⟨at_ + k, f k⟩ ⟨c, g⟩ = false) :
    runsF fol (seqF f at_ (k + 1) ++ [⟨c, g⟩]) = [⟨at_, at_ + k, f 0⟩, ⟨c, c, g⟩] := by
  have hs := (runsF_snoc fol ⟨at_ + k, f k⟩ ⟨c, g⟩ (seqF f at_ k)).1 hn
  rw [seqF_succ, List.append_assoc]
  show runsF fol (seqF f at_ k ++ [⟨at_ + k, f k⟩, ⟨c, g⟩]) = _
  rw [hs, ← seqF_succ, seqF_runs f at_ (k + 1) hf k (Nat.le_refl _)]
  rfl

end Go.Proofs.YthkaeimpflggjaaDoor
