/- What the laws of this seat lean on: GrpD RunS PrsA Rise Rise9 SegM SegR SegU Reg SegV1. -/
import Derived.Deep.RegionHeld3
import Derived.Deep.DeepCutAuto
import Derived.Deep.QuietTactic
import Derived.BigQuiet
import Derived.Deep.RegionHeld
import Derived.Test.YthkaeimpflggjaaBase1
import Derived.Test.YthkaeimpflggjaaBase2

/- The document's table of groups, as a contract over this seat's translation. -/
namespace Go.Proofs.Ythkaeimpflggjaa
open Go.RowKit
set_option linter.unusedVariables false

theorem atQ {w : World} {A : Option Addr} {n : Nat} {l : List Pr} {j : Nat} {p : Pr} (h : RowS encQ 2 w A n l) (hj : l[j]? = some p) :
    ∃ g off, A = some ⟨g, off, none⟩ ∧ g < w.heap.size ∧ w.cell? ⟨g, off + j * 2, none⟩ = some (.int .i64 p.code) ∧ w.cell? ⟨g, off + j * 2 + 1, none⟩ = some (.int .i64 p.glyph) := by
  obtain ⟨g, off, e, hg, hc⟩ := h.at encQ_len (by omega) hj
  exact ⟨g, off, e, hg, hc 0 _ rfl, hc 1 _ rfl⟩

/-- Nothing goes on from what stands ahead of place i. -/
def bnd (fol : Pr → Pr → Bool) (l : List Pr) (i : Nat) : Prop := ∀ j q p, i = j + 1 → l[j]? = some q → l[j + 1]? = some p → fol q p = false

theorem runs_begin {fol : Pr → Pr → Bool} {l : List Pr} {i : Nat} {p : Pr} (hb : bnd fol l i) (h : l[i]? = some p) : runsF fol (l.take (i + 1)) = runsF fol (l.take i) ++ [⟨p.code, p.code, p.glyph⟩] := by
  cases i with
  | zero => rw [runs_first fol h]; rfl
  | succ j =>
    obtain ⟨q, hq⟩ := getP (l := l) (j := j) (by have := (List.getElem?_eq_some_iff.1 h).1; omega)
    exact (runs_step fol hq h).1 (hb j q p rfl hq h)

theorem runs_go {fol : Pr → Pr → Bool} {l : List Pr} {j : Nat} {q p : Pr} {R : List Rn} {a b g : Int} (hq : l[j]? = some q) (hp : l[j + 1]? = some p) (hf : fol q p = true) (h : runsF fol (l.take (j + 1)) = R ++ [⟨a, b, g⟩]) : runsF fol (l.take (j + 1 + 1)) = R ++ [⟨a, p.code, g⟩] := by
  obtain ⟨s, x, e1, e2⟩ := (runs_step fol hq hp).2 hf
  rw [h] at e1
  obtain ⟨rfl, hx⟩ := List.append_inj' e1 rfl
  obtain ⟨rfl, _⟩ := List.cons.inj hx
  exact e2

end Go.Proofs.Ythkaeimpflggjaa

/- Pairs in a row: plain lists. -/
namespace Go.Proofs.Ythkaeimpflggjaa
set_option linter.unusedVariables false

def lastC : Int → List Pr → Int
  | ah, [] => ah
  | _, p :: r => lastC p.code r
theorem lastC_snoc (p : Pr) : ∀ (l : List Pr) (ah : Int), lastC ah (l ++ [p]) = p.code
  | [], _ => rfl
  | q :: r, _ => lastC_snoc p r q.code
theorem risesF_snoc (most : Int) (p : Pr) : ∀ (l : List Pr) (ah : Int), risesF most ah (l ++ [p]) = (risesF most ah l && decide (lastC ah l < p.code ∧ p.code ≤ most))
  | [], ah => by
    show (decide (ah < p.code ∧ p.code ≤ most) && true) = (true && decide (ah < p.code ∧ p.code ≤ most))
    rw [Bool.and_true, Bool.true_and]
  | q :: r, ah => by
    rw [List.cons_append, risesF, risesF_snoc most p r q.code, risesF, lastC, Bool.and_assoc]

/-- Pairs of codes that come in, each with its place as glyph or another number. -/
def prsI (f : Nat → Int) (zs : List Int) (m : Nat) : List Pr := (List.range m).map fun i => ⟨zs.getD i 0, f i⟩
theorem prsI_succ (f : Nat → Int) (zs : List Int) (m : Nat) {x : Int} (h : zs[m]? = some x) : prsI f zs (m + 1) = prsI f zs m ++ [⟨x, f m⟩] := by
  unfold prsI
  rw [List.range_succ, List.map_append, List.map_cons, List.map_nil, List.getD_eq_getElem?_getD, h]
  rfl
theorem prsI_len (f : Nat → Int) (zs : List Int) (m : Nat) : (prsI f zs m).length = m := by simp [prsI]
theorem prsI_last (f : Nat → Int) (zs : List Int) (m : Nat) {x : Int} (h : zs[m]? = some x) (ah : Int) : lastC ah (prsI f zs (m + 1)) = x := by rw [prsI_succ f zs m h, lastC_snoc]
theorem prsI_g {f : Nat → Int} (zs : List Int) {m : Nat} (hf : ∀ i, i < m → 0 ≤ f i ∧ f i ≤ 65535) : PrG (prsI f zs m) := by
  intro p hp
  unfold prsI at hp
  obtain ⟨i, hi, rfl⟩ := List.mem_map.1 hp
  exact hf i (List.mem_range.1 hi)
theorem prsI_nonneg {f : Nat → Int} {zs : List Int} {m : Nat} {x : Int} (h : zs[m]? = some x) {most : Int} (hr : risesF most (-1) (prsI f zs (m + 1)) = true) : 0 ≤ x := by
  have := risesF_mem hr ⟨x, f m⟩ (by rw [prsI_succ f zs m h]; simp)
  simp at this
  omega

/-- Codes in a row. -/
def seqF (f : Nat → Int) (at_ : Int) (k : Nat) : List Pr := (List.range k).map fun (i : Nat) => ⟨at_ + (i : Int), f i⟩
theorem seqF_succ (f : Nat → Int) (at_ : Int) (k : Nat) : seqF f at_ (k + 1) = seqF f at_ k ++ [⟨at_ + k, f k⟩] := by
  unfold seqF
  rw [List.range_succ, List.map_append]
  rfl
theorem seqF_len (f : Nat → Int) (at_ : Int) (k : Nat) : (seqF f at_ k).length = k := by simp [seqF]
theorem seqF_g {f : Nat → Int} (at_ : Int) {k : Nat} (hf : ∀ i, i < k → 0 ≤ f i ∧ f i ≤ 65535) : PrG (seqF f at_ k) := by
  intro p hp
  unfold seqF at hp
  obtain ⟨i, hi, rfl⟩ := List.mem_map.1 hp
  exact hf i (List.mem_range.1 hi)
theorem seqF_last (f : Nat → Int) (at_ : Int) (k : Nat) (ah : Int) : lastC ah (seqF f at_ (k + 1)) = at_ + k := by rw [seqF_succ, lastC_snoc]
theorem seqF_rises (f : Nat → Int) (at_ most : Int) (h0 : 0 ≤ at_) : ∀ k : Nat, at_ + k ≤ most + 1 → risesF most (-1) (seqF f at_ k) = true
  | 0, _ => rfl
  | 1, h => by
    rw [seqF_succ, risesF_snoc]
    show (true && decide (-1 < at_ + ((0 : Nat) : Int) ∧ at_ + ((0 : Nat) : Int) ≤ most)) = true
    simp
    omega
  | k + 2, h => by
    have ih := seqF_rises f at_ most h0 (k + 1) (by omega)
    rw [seqF_succ, risesF_snoc, ih, seqF_last]
    simp
    omega
theorem seqF_runs {fol : Pr → Pr → Bool} (f : Nat → Int) (at_ : Int) (N : Nat) (hf : ∀ i : Nat, i + 1 < N → fol ⟨at_ + i, f i⟩ ⟨at_ + (i + 1 : Nat), f (i + 1)⟩ = true) : ∀ k : Nat, k + 1 ≤ N → runsF fol (seqF f at_ (k + 1)) = [⟨at_, at_ + k, f 0⟩]
  | 0, _ => by
    show [(⟨at_ + ((0 : Nat) : Int), at_ + ((0 : Nat) : Int), f 0⟩ : Rn)] = _
    simp
  | k + 1, h => by
    have ih := seqF_runs f at_ N hf k (by omega)
    have hs := (runsF_snoc fol ⟨at_ + k, f k⟩ ⟨at_ + (k + 1 : Nat), f (k + 1)⟩ (seqF f at_ k)).2 (hf k (by omega))
    obtain ⟨s, x, e1, e2⟩ := hs
    rw [← seqF_succ, ih] at e1
    have e3 : seqF f at_ (k + 1 + 1) = seqF f at_ k ++ [⟨at_ + k, f k⟩, ⟨at_ + (k + 1 : Nat), f (k + 1)⟩] := by
      rw [seqF_succ f at_ (k + 1), seqF_succ f at_ k, List.append_assoc]
      rfl
    rw [e3, e2]
    cases s with
    | nil =>
      obtain ⟨rfl, _⟩ := List.cons.inj e1
      rfl
    | cons y s => simp at e1
/-- And one more, behind a gap. -/
theorem seqF_gap {fol : Pr → Pr → Bool} (f : Nat → Int) (at_ : Int) (k : Nat) (c g : Int) (hf : ∀ i : Nat, i + 1 < k + 1 → fol ⟨at_ + i, f i⟩ ⟨at_ + (i + 1 : Nat), f (i + 1)⟩ = true) (hn : fol ⟨at_ + k, f k⟩ ⟨c, g⟩ = false) :
    runsF fol (seqF f at_ (k + 1) ++ [⟨c, g⟩]) = [⟨at_, at_ + k, f 0⟩, ⟨c, c, g⟩] := by
  have hs := (runsF_snoc fol ⟨at_ + k, f k⟩ ⟨c, g⟩ (seqF f at_ k)).1 hn
  rw [seqF_succ, List.append_assoc]
  show runsF fol (seqF f at_ k ++ [⟨at_ + k, f k⟩, ⟨c, g⟩]) = _
  rw [hs, ← seqF_succ, seqF_runs f at_ (k + 1) hf k (Nat.le_refl _)]
  rfl

end Go.Proofs.Ythkaeimpflggjaa

/- Pairs that are gathered: what an append wants to know. -/
namespace Go.Proofs.Ythkaeimpflggjaa

theorem Try.pairinfo : (Try.prog.info? 67).map (fun i => (i.zero, i.size, i.bytes)) = some (some (.agg #[.int .i32 0, .int .u16 0]), 2, 8) := by kernel_rfl

theorem Try.rpairinfo : (Try.prog.info? 117).map (fun i => (i.zero, i.size, i.bytes)) = some (some (.agg #[.int .i64 0, .int .i64 0]), 2, 16) := by kernel_rfl

end Go.Proofs.Ythkaeimpflggjaa

/- Pairs that rise by gaps, as the laws of groups lay them: a contract over this seat's translation. -/
namespace Go.Proofs.Ythkaeimpflggjaa
open Go.RowKit
set_option linter.unusedVariables false

/-- Two fresh rows of the same pairs. -/
structure TwoP (w wr : World) (A1 : Option Addr) (c1 : Nat) (A2 : Option Addr) (c2 m : Nat) (l : List Pr) : Prop where
  o1 : OwnS 67 encP 2 wr w.heap.size A1 m c1 l
  o2 : OwnS 117 encQ 2 wr w.heap.size A2 m c2 l
  bel : Below w.heap.size w wr
theorem TwoP.below {w wr w' : World} {A1 A2 : Option Addr} {c1 c2 m : Nat} {l : List Pr} (h : TwoP w wr A1 c1 A2 c2 m l) (hb : Below wr.heap.size wr w') : TwoP w w' A1 c1 A2 c2 m l :=
  ⟨h.o1.below hb, h.o2.below hb, h.bel.trans (hb.mono h.bel.size)⟩

theorem TwoP.ne {w wr : World} {A1 A2 : Option Addr} {c1 c2 m : Nat} {l : List Pr} (h : TwoP w wr A1 c1 A2 c2 m l) : ∀ g, blockOf A2 = some g → some g ≠ blockOf A1 := by
  intro g hg e
  rcases h.o1.shape with ⟨rfl, _⟩ | ⟨g1, cur1, rfl, _, _, hh1, _⟩
  · simp [blockOf] at e
  · rcases h.o2.shape with ⟨rfl, _⟩ | ⟨g2, cur2, rfl, _, _, hh2, _⟩
    · simp [blockOf] at hg
    · simp [blockOf] at hg e
      subst hg
      subst e
      rw [hh1] at hh2
      simp at hh2
theorem TwoP.one {w wr w3 : World} {A1 A2 : Option Addr} {c1 c2 m : Nat} {l : List Pr} (h : TwoP w wr A1 c1 A2 c2 m l) {o : Obj} (hg : ((wr.alloc o).drew).grownBy w3 (blockOf A1)) : OwnS 117 encQ 2 w3 w.heap.size A2 m c2 l ∧ Below w.heap.size w w3 :=
  ⟨((h.o2.alloc o).drew).grown hg h.ne, ((h.bel.alloc h.bel.size o).drew).grown hg (by have := h.bel.size; simp; omega) (fun q e => (h.o1.from_ q e).1)⟩
/-- The first row has got one more, the second one gets it. -/
theorem TwoP.two {w w3 w4 : World} {A3 A2 A4 : Option Addr} {c3 c2 c4 m m' : Nat} {l l' : List Pr} (h1 : OwnS 67 encP 2 w3 w.heap.size A3 m' c3 l') (h2 : OwnS 117 encQ 2 w3 w.heap.size A2 m c2 l) (hb : Below w.heap.size w w3) {o : Obj} (h4 : OwnS 117 encQ 2 w4 w.heap.size A4 m' c4 l') (hg : (w3.alloc o).grownBy w4 (blockOf A2)) : TwoP w w4 A3 c3 A4 c4 m' l' :=
  ⟨(h1.alloc o).grown hg (fun g hg' e => by
    rcases h1.shape with ⟨rfl, _⟩ | ⟨g1, cur1, rfl, _, _, hh1, _⟩
    · simp [blockOf] at hg'
    · rcases h2.shape with ⟨rfl, _⟩ | ⟨g2, cur2, rfl, _, _, hh2, _⟩
      · simp [blockOf] at e
      · simp [blockOf] at hg' e
        subst hg'
        subst e
        rw [hh1] at hh2
        simp at hh2), h4, (hb.alloc hb.size o).grown hg (by have := hb.size; simp; omega) (fun q e => (h2.from_ q e).1)⟩

theorem rowS_at {α : Type} {enc : α → List Value} {k : Nat} (hk : ∀ x, (enc x).length = k) (V : World) (b : Nat) (hb : b = V.heap.size) (t : TypeId) (l : List α) (cs : Array Value) (hcs : cs = (flat enc l).toArray) (n : Nat) (hn : l.length = n) : RowS enc k (V.alloc (.cells cs t)) (some ⟨b, 0, none⟩) n l := by
  subst hb
  exact rowS_vals hk V t l cs hcs n hn
theorem TwoP.one2 {w wr w3 : World} {A1 A2 : Option Addr} {c1 c2 m : Nat} {l : List Pr} (h : TwoP w wr A1 c1 A2 c2 m l) {o o' : Obj} (hg : (((wr.alloc o).alloc o').drew).grownBy w3 (blockOf A1)) : OwnS 117 encQ 2 w3 w.heap.size A2 m c2 l ∧ Below w.heap.size w w3 :=
  ⟨(((h.o2.alloc o).alloc o').drew).grown hg h.ne, (((h.bel.alloc h.bel.size o).alloc (by have := h.bel.size; simp; omega) o').drew).grown hg (by have := h.bel.size; simp; omega) (fun q e => (h.o1.from_ q e).1)⟩
theorem TwoP.row2 {w wr w3 V : World} {A1 A2 : Option Addr} {c1 c2 m b : Nat} {l l2 : List Pr} (h : TwoP w wr A1 c1 A2 c2 m l) (hr : RowS encQ 2 V (some ⟨b, 0, none⟩) 1 l2) (hb : wr.heap.size ≤ b) (hg : V.grownBy w3 (blockOf A1)) : RowS encQ 2 w3 (some ⟨b, 0, none⟩) 1 l2 :=
  hr.grown hg (fun q e e' => by simp [blockOf] at e; subst e; have := (h.o1.from_ b e'.symm).2; omega)
theorem TwoP.two2 {w w3 w4 : World} {A3 A2 A4 : Option Addr} {c3 c2 c4 m m' : Nat} {l l' : List Pr} (h1 : OwnS 67 encP 2 w3 w.heap.size A3 m' c3 l') (h2 : OwnS 117 encQ 2 w3 w.heap.size A2 m c2 l) (hb : Below w.heap.size w w3) (h4 : OwnS 117 encQ 2 w4 w.heap.size A4 m' c4 l') (hg : w3.grownBy w4 (blockOf A2)) : TwoP w w4 A3 c3 A4 c4 m' l' :=
  ⟨h1.grown hg (fun g hg' e => by
    rcases h1.shape with ⟨rfl, _⟩ | ⟨g1, cur1, rfl, _, _, hh1, _⟩
    · simp [blockOf] at hg'
    · rcases h2.shape with ⟨rfl, _⟩ | ⟨g2, cur2, rfl, _, _, hh2, _⟩
      · simp [blockOf] at e
      · simp [blockOf] at hg' e
        subst hg'
        subst e
        rw [hh1] at hh2
        simp at hh2), h4, hb.grown hg hb.size (fun q e => (h2.from_ q e).1)⟩

/-- What it leaves. -/
def RetRise (most : Int) (w : World) (e : Ending) (w' : World) : Prop :=
  ∃ (l : List Pr) (A1 A2 : Option Addr) (c1 c2 m : Nat), e = .returned (.tuple #[.slice A1 m c1, .slice A2 m c2]) ∧ TwoP w w' A1 c1 A2 c2 m l ∧ m ≤ 40 ∧ PrG l ∧ risesF most (-1) l = true

end Go.Proofs.Ythkaeimpflggjaa

/- Pairs that rise by gaps, as the laws of layer 09 lay them: a contract over this seat's translation. -/
namespace Go.Proofs.Ythkaeimpflggjaa
open Go.RowKit
set_option linter.unusedVariables false

set_option maxRecDepth 100000 in
set_option maxHeartbeats 4000000 in
theorem rising09_any (A0 : Option Addr) (n0 c0 : Nat) (z0 : List Int) (A1 : Option Addr) (n1 c1 : Nat) (z1 : List Int) (w : World) (hr0 : Row w A0 n0 (cellsOf .u16 z0)) (hW0 : Wf .u16 z0) (hn0 : n0 ≤ 9223372036854775807)
    (hr1 : Row w A1 n1 (cellsOf .u16 z1)) (hW1 : Wf .u16 z1) (hn1 : n1 ≤ 9223372036854775807) :
    Calls Try.prog 24 #[.slice A0 n0 c0, .slice A1 n1 c1] w (RetRise 65534 w) := by
  obtain ⟨i1, hi1, hz01, hz11, hz21⟩ := info_parts Try.pairinfo
  obtain ⟨i2, hi2, hz02, hz12, hz22⟩ := info_parts Try.rpairinfo
  have H0 := Lib.hid hr0.len
  have H1 := Lib.hid hr1.len
  have HW0 := Lib.hid hW0
  have HW1 := Lib.hid hW1
  clear hW0 hW1
  go_enter Try.func24, Try.ntmps24
  go_wp2
  go_loopw [6, 7, 8, 13] (fun v x t i wr => ∃ (k : Nat) (l : List Pr) (B1 B2 : Option Addr) (d1 d2 : Nat) (a : Int), k ≤ n0 ∧ k ≤ 40 ∧ i = .int .i64 k ∧ t = .int .i64 a ∧ v = .slice B1 k d1 ∧ x = .slice B2 k d2 ∧ TwoP w wr B1 d1 B2 d2 k l ∧ -1 ≤ a ∧ a ≤ 65534 ∧ Hid (PrG l ∧ risesF 65534 (-1) l = true ∧ lastC (-1) l = a)) (fun _ _ _ i _ => n0 - (intOf i).toNat)
  case atStart => exact ⟨0, [], none, none, 0, 0, -1, Nat.zero_le _, by omega, rfl, rfl, rfl, rfl, ⟨OwnS.nil _ _ _ _ _, OwnS.nil _ _ _ _ _, Below.refl _ _⟩, by omega, by omega, Lib.hid ⟨fun p hp => by simp at hp, rfl, rfl⟩⟩
  case round =>
    obtain ⟨k, l, B1, B2, d1, d2, a, hk, hk40, rfl, rfl, rfl, rfl, hs, ha0, ha1, hI⟩ := hrel
    by_cases hlt : k < n0
    · obtain ⟨y, hy⟩ := getP (l := z0) (j := k) (by have := H0.out; omega)
      obtain ⟨g, off, rfl, hg, hcy⟩ := (hr0.below hs.bel).at (j := k) (u := .int .u16 y) (cellsOf_get hy)
      obtain ⟨y0, y1⟩ := bounds_u16 (HW0.out y (List.mem_of_getElem? hy))
      clear hy
      by_cases h40 : k < 40
      · by_cases hk1 : k < n1
        · obtain ⟨x, hx⟩ := getP (l := z1) (j := k) (by have := H1.out; omega)
          obtain ⟨g1, off1, rfl, hg1, hcx⟩ := (hr1.below hs.bel).at (j := k) (u := .int .u16 x) (cellsOf_get hx)
          obtain ⟨x0, x1⟩ := bounds_u16 (HW1.out x (List.mem_of_getElem? hx))
          have Hx := Lib.hid hx
          clear hx
          by_cases hbig : a + (1 + y % 2000) ≤ 65534
          · have HN : Hid (PrG (l ++ [⟨a + (1 + y % 2000), x⟩]) ∧ risesF 65534 (-1) (l ++ [⟨a + (1 + y % 2000), x⟩]) = true ∧ lastC (-1) (l ++ [⟨a + (1 + y % 2000), x⟩]) = a + (1 + y % 2000)) := by
              refine ⟨fun p hp => ?_, ?_, lastC_snoc _ _ _⟩
              · rcases List.mem_append.1 hp with h | h
                · exact hI.out.1 p h
                · simp at h; subst h; exact ⟨x0, x1⟩
              · rw [risesF_snoc, hI.out.2.1, hI.out.2.2]
                simp
                omega
            have hy2 : 0 ≤ y % 2000 ∧ y % 2000 < 2000 := by omega
            clear hI
            have hlen := hs.o1.len
            have hsz := hs.bel.size
            have F1 : IntKind.i32.wrap (a + (1 + y % 2000)) = a + (1 + y % 2000) := IntWalk.i32_in _ (by omega)
            go_upto_region 10 with fail
            generalize y % 2000 = yy at *
            have HC : Hid (∀ W : World, Below w.heap.size w W → W.cell? ⟨g1, off1 + k, none⟩ = some (.int .u16 x)) := by
              show ∀ _, _
              intro W hW
              obtain ⟨g', off', e', _, hc'⟩ := (hr1.below hW).at (j := k) (u := .int .u16 x) (cellsOf_get Hx.out)
              simp only [Option.some.injEq, Addr.mk.injEq, and_true] at e'
              obtain ⟨rfl, rfl⟩ := e'
              exact hc'
            have hB := hs.bel
            have F2 : IntKind.i64.wrap x = x := IntWalk.i64_in _ (by omega)
            go_region_held3 (fun w' => w'.cell? ⟨g1, off1 + k, none⟩ = some (.int .u16 x))
              (first | exact hcx | exact HC.out _ hB.drew | exact HC.out _ (hB.alloc hB.size _).drew | exact HC.out _ hB | exact HC.out _ (hB.alloc hB.size _) | exact HC.out _ ((hB.alloc hB.size _).alloc (by have := hB.size; simp; omega) _).drew | exact HC.out _ ((hB.alloc hB.size _).alloc (by have := hB.size; simp; omega) _))
              (first
                | (refine step_append_rowS rfl (.tmp 34) (.tmp 42) _ rfl 67 encP 2 encP_len (by omega) encP_one w.heap.size i1 _ 8 Try.underlying52 hi1 hz01 hz11 rfl hz21 B1 k d1 l rfl (hs.o1.alloc _).drew (some ⟨wr.heap.size, 0, none⟩) 1 1 [⟨a + (1 + yy), x⟩] rfl (rowS_vals encP_len wr 67 [⟨a + (1 + yy), x⟩] _ rfl 1 rfl).drew (by omega) (by omega) (by simp; omega) ?_; intro A3 c3 w3 ho3 hg3; obtain ⟨ho2, hB3⟩ := hs.one hg3; replace hB := hB3; have hs3 := hB3.size; clear hB3 hg3)
                | (refine step_append_rowS rfl (.tmp 34) (.tmp 42) _ rfl 67 encP 2 encP_len (by omega) encP_one w.heap.size i1 _ 8 Try.underlying52 hi1 hz01 hz11 rfl hz21 B1 k d1 l rfl ((hs.o1.alloc _).alloc _).drew (some ⟨wr.heap.size, 0, none⟩) 1 1 [⟨a + (1 + yy), x⟩] rfl ((rowS_vals encP_len wr 67 [⟨a + (1 + yy), x⟩] _ rfl 1 rfl).below ((Below.refl _ _).alloc (Nat.le_refl _) _)).drew (by omega) (by omega) (by simp; omega) ?_; intro A3 c3 w3 ho3 hg3; have hrow2 := hs.row2 (b := wr.heap.size + 1) ((rowS_at encQ_len (wr.alloc _) (wr.heap.size + 1) (by simp) 117 [⟨a + (1 + yy), x⟩] _ rfl 1 rfl).drew) (by omega) hg3; obtain ⟨ho2, hB3⟩ := hs.one2 hg3; replace hB := hB3; have hs3 := hB3.size; clear hB3 hg3)
                | (refine step_append_rowS rfl (.tmp 34) (.tmp 42) _ rfl 67 encP 2 encP_len (by omega) encP_one w.heap.size i1 _ 8 Try.underlying52 hi1 hz01 hz11 rfl hz21 B1 k d1 l rfl ((hs.o1.alloc _).alloc _).drew (some ⟨wr.heap.size + 1, 0, none⟩) 1 1 [⟨a + (1 + yy), x⟩] rfl (rowS_at encP_len (wr.alloc _) (wr.heap.size + 1) (by simp) 67 [⟨a + (1 + yy), x⟩] _ rfl 1 rfl).drew (by omega) (by omega) (by simp; omega) ?_; intro A3 c3 w3 ho3 hg3; have hrow2 := hs.row2 (b := wr.heap.size) (((rowS_vals encQ_len wr 117 [⟨a + (1 + yy), x⟩] _ rfl 1 rfl).below ((Below.refl _ _).alloc (Nat.le_refl _) _)).drew) (by omega) hg3; obtain ⟨ho2, hB3⟩ := hs.one2 hg3; replace hB := hB3; have hs3 := hB3.size; clear hB3 hg3)
                | (refine step_append_rowS rfl (.tmp 44) (.tmp 52) _ rfl 117 encQ 2 encQ_len (by omega) encQ_one w.heap.size i2 _ 16 Try.underlying53 hi2 hz02 hz12 rfl hz22 B2 k d2 l rfl (ho2.alloc _) (some ⟨w3.heap.size, 0, none⟩) 1 1 [⟨a + (1 + yy), x⟩] rfl (rowS_vals encQ_len w3 117 [⟨a + (1 + yy), x⟩] _ rfl 1 rfl) (by omega) (by omega) (by simp; omega) ?_; intro A4 c4 w4 ho4 hg4; have hs4 := TwoP.two ho3 ho2 hB ho4 hg4; replace hB := hs4.bel; clear hg4 ho4)
                | (refine step_append_rowS rfl (.tmp 44) (.tmp 52) _ rfl 117 encQ 2 encQ_len (by omega) encQ_one w.heap.size i2 _ 16 Try.underlying53 hi2 hz02 hz12 rfl hz22 B2 k d2 l rfl ho2 (some ⟨wr.heap.size, 0, none⟩) 1 1 [⟨a + (1 + yy), x⟩] rfl hrow2 (by omega) (by omega) hB.size ?_; intro A4 c4 w4 ho4 hg4; have hs4 := TwoP.two2 ho3 ho2 hB ho4 hg4; replace hB := hs4.bel; clear hg4 ho4)
                | (refine step_append_rowS rfl (.tmp 44) (.tmp 52) _ rfl 117 encQ 2 encQ_len (by omega) encQ_one w.heap.size i2 _ 16 Try.underlying53 hi2 hz02 hz12 rfl hz22 B2 k d2 l rfl ho2 (some ⟨wr.heap.size + 1, 0, none⟩) 1 1 [⟨a + (1 + yy), x⟩] rfl hrow2 (by omega) (by omega) hB.size ?_; intro A4 c4 w4 ho4 hg4; have hs4 := TwoP.two2 ho3 ho2 hB ho4 hg4; replace hB := hs4.bel; clear hg4 ho4))
            all_goals
              go_wp2
              go_roundw
              case rel => exact ⟨k + 1, _, A3, A4, c3, c4, _, by omega, by omega, by go_num, rfl, rfl, rfl, hs4, by omega, by omega, HN⟩
              case measure => simp [intOf]; omega
          · have hlen := hs.o1.len
            go_wp2
            go_ret2
            exact ⟨l, B1, B2, d1, d2, k, rfl, hs, hk40, hI.out.1, hI.out.2.1⟩
        · go_wp2
          go_ret2
          exact ⟨l, B1, B2, d1, d2, k, rfl, hs, hk40, hI.out.1, hI.out.2.1⟩
      · go_wp2
        go_ret2
        exact ⟨l, B1, B2, d1, d2, k, rfl, hs, hk40, hI.out.1, hI.out.2.1⟩
    · go_wp2
      go_ret2
      exact ⟨l, B1, B2, d1, d2, k, rfl, hs, hk40, hI.out.1, hI.out.2.1⟩

end Go.Proofs.Ythkaeimpflggjaa

/- Tables of segments: plain lists. -/
namespace Go.Proofs.Ythkaeimpflggjaa
set_option linter.unusedVariables false

def expoS (n : Nat) : Nat := n.log2
theorem expoS_spec (n : Nat) (h0 : 1 ≤ n) : 2 ^ expoS n ≤ n ∧ n < 2 ^ (expoS n + 1) := ⟨Nat.log2_self_le (by omega), Nat.lt_log2_self⟩
theorem expoS_uniq (n e : Nat) (h0 : 1 ≤ n) (h2 : 2 ^ e ≤ n) (h3 : n < 2 ^ (e + 1)) : e = expoS n := by
  obtain ⟨h4, h5⟩ := expoS_spec n h0
  rcases Nat.lt_trichotomy e (expoS n) with h | h | h
  · have : 2 ^ (e + 1) ≤ 2 ^ expoS n := Nat.pow_le_pow_right (by omega) (by omega)
    omega
  · exact h
  · have : 2 ^ (expoS n + 1) ≤ 2 ^ e := Nat.pow_le_pow_right (by omega) (by omega)
    omega
theorem expoS_lt (n : Nat) (h0 : 1 ≤ n) (h1 : n < 32768) : expoS n < 15 := by
  obtain ⟨h4, _⟩ := expoS_spec n h0
  rcases Nat.lt_or_ge (expoS n) 15 with h | h
  · exact h
  · have : 2 ^ 15 ≤ 2 ^ expoS n := Nat.pow_le_pow_right (by omega) h
    omega

/-- The three numbers for those who look up by halves. -/
def srL (n : Nat) : List Int := [2 * (2 ^ expoS n : Nat), (expoS n : Int), 2 * (n : Int) - 2 * (2 ^ expoS n : Nat)]

def sN (zs : List Int) : Nat := (n2at zs 6 / 2).toNat
def sFront (zs : List Int) : Bool := decide (n2at zs 0 = 4) && decide (24 ≤ n2at zs 2) && decide (n2at zs 2 ≤ zs.length) && decide (n2at zs 2 % 2 = 0)
def sCnt0 (zs : List Int) : Bool := decide (n2at zs 6 % 2 = 0) && decide (n2at zs 6 / 2 ≠ 0) && decide (16 + 8 * (n2at zs 6 / 2) ≤ n2at zs 2)
def sTold (zs : List Int) : Bool := decide ([n2at zs 8, n2at zs 10, n2at zs 12] = srL (sN zs))
def sCnt (zs : List Int) : Bool := sCnt0 zs && sTold zs

structure Sq where
  a : Int
  b : Int
  d : Int
  o : Int
def sqAt (zs : List Int) (n i : Nat) : Sq := ⟨n2at zs (16 + 2 * n + 2 * i), n2at zs (14 + 2 * i), n2at zs (16 + 4 * n + 2 * i), n2at zs (16 + 6 * n + 2 * i)⟩
def sLeast (zs : List Int) (i : Nat) : Int := if i = 0 then 0 else n2at zs (12 + 2 * i) + 1
def sOff (zs : List Int) (n i : Nat) (x : Sq) : Bool := decide (x.o = 0) || (decide (x.o % 2 = 0) && decide (16 + 6 * (n : Int) + 2 * i + x.o + 2 * (x.b - x.a) + 2 ≤ n2at zs 2))
def sOkAt (zs : List Int) (n i : Nat) : Bool := decide (sLeast zs i ≤ (sqAt zs n i).a) && decide ((sqAt zs n i).a ≤ (sqAt zs n i).b) && sOff zs n i (sqAt zs n i)
def sOkK (zs : List Int) (n k : Nat) : Bool := (List.range k).all (sOkAt zs n)
def sEnd (zs : List Int) (n : Nat) : Bool := decide (n2at zs (12 + 2 * n) = 65535) && decide (n2at zs (14 + 2 * n) = 0)
def sRight (zs : List Int) : Bool := sFront zs && sCnt zs && (sOkK zs (sN zs) (sN zs) && sEnd zs (sN zs))

theorem sOkK_succ (zs : List Int) (n k : Nat) : sOkK zs n (k + 1) = (sOkK zs n k && sOkAt zs n k) := by simp [sOkK, List.range_succ]
theorem sOkK_not {zs : List Int} {n k m : Nat} (h : k < m) (hk : sOkAt zs n k = false) : sOkK zs n m = false := by
  unfold sOkK
  rw [List.all_eq_false]
  exact ⟨k, List.mem_range.2 h, by simp [hk]⟩
theorem sOk_at {zs : List Int} {n m i : Nat} (h : sOkK zs n m = true) (hi : i < m) : sOkAt zs n i = true := by
  unfold sOkK at h
  rw [List.all_eq_true] at h
  exact h i (List.mem_range.2 hi)

/-- What segment i tells of a code. -/
def valS (zs : List Int) (n i : Nat) (code : Int) : Int :=
  if (sqAt zs n i).a ≤ code then
    if (sqAt zs n i).o = 0 then (code + (sqAt zs n i).d) % 65536
    else if n2at zs (16 + 6 * n + 2 * i + (sqAt zs n i).o.toNat + 2 * (code - (sqAt zs n i).a).toNat) = 0 then 0
    else (n2at zs (16 + 6 * n + 2 * i + (sqAt zs n i).o.toNat + 2 * (code - (sqAt zs n i).a).toNat) + (sqAt zs n i).d) % 65536
  else 0
/-- What the table tells, from segment i on. -/
def lookS (zs : List Int) (n : Nat) (code : Int) : Nat → Nat → Int
  | _, 0 => 0
  | i, f + 1 => if code ≤ n2at zs (14 + 2 * i) then valS zs n i code else lookS zs n code (i + 1) f
theorem lookS_skip (zs : List Int) (n : Nat) (code : Int) : ∀ (r i f : Nat), (∀ j, i ≤ j → j < i + r → n2at zs (14 + 2 * j) < code) → r ≤ f → lookS zs n code i f = lookS zs n code (i + r) (f - r)
  | 0, i, f, _, _ => rfl
  | r + 1, i, f, h, hr => by
    obtain ⟨f', rfl⟩ : ∃ f', f = f' + 1 := ⟨f - 1, by omega⟩
    have h0 := h i (Nat.le_refl _) (by omega)
    rw [lookS, if_neg (by omega), lookS_skip zs n code r (i + 1) f' (fun j h1 h2 => h j (by omega) (by omega)) (by omega)]
    rw [show i + 1 + r = i + (r + 1) by omega, show f' + 1 - (r + 1) = f' - r by omega]
theorem lookS_at {zs : List Int} {n : Nat} {code : Int} {r : Nat} (hr : r < n) (h : ∀ j, j < r → n2at zs (14 + 2 * j) < code) (h2 : code ≤ n2at zs (14 + 2 * r)) : lookS zs n code 0 n = valS zs n r code := by
  rw [lookS_skip zs n code r 0 n (fun j _ h1 => h j (by omega)) (by omega), Nat.zero_add]
  obtain ⟨f, hf⟩ : ∃ f, n - r = f + 1 := ⟨n - r - 1, by omega⟩
  rw [hf, lookS, if_pos h2]
theorem lookS_none {zs : List Int} {n : Nat} {code : Int} (h : ∀ j, j < n → n2at zs (14 + 2 * j) < code) : lookS zs n code 0 n = 0 := by
  rw [lookS_skip zs n code n 0 n (fun j _ h1 => h j (by omega)) (Nat.le_refl _), Nat.sub_self]
  rfl
theorem sEnds {zs : List Int} {n m : Nat} (h : sOkK zs n m = true) : ∀ {i : Nat}, i + 1 < m → n2at zs (14 + 2 * i) < n2at zs (14 + 2 * (i + 1)) := by
  intro i hi
  have := sOk_at h hi
  unfold sOkAt sLeast at this
  rw [Bool.and_eq_true, Bool.and_eq_true, decide_eq_true_eq, decide_eq_true_eq, if_neg (by omega), show 12 + 2 * (i + 1) = 14 + 2 * i by omega] at this
  have e : (sqAt zs n (i + 1)).b = n2at zs (14 + 2 * (i + 1)) := rfl
  omega
theorem sEnds_le {zs : List Int} {n m : Nat} (h : sOkK zs n m = true) {r : Nat} (hr : r < m) {code : Int} (hc : n2at zs (14 + 2 * r) < code) : ∀ j, j ≤ r → n2at zs (14 + 2 * j) < code := by
  induction r with
  | zero =>
    intro j hj
    obtain rfl : j = 0 := by omega
    exact hc
  | succ r ih =>
    intro j hj
    have := sEnds h hr
    rcases Nat.lt_or_ge j (r + 1) with h1 | h1
    · exact ih (by omega) (by omega) j (by omega)
    · obtain rfl : j = r + 1 := by omega
      exact hc

theorem valS_lt (zs : List Int) (n i : Nat) (code : Int) : 0 ≤ valS zs n i code ∧ valS zs n i code ≤ 65535 := by
  unfold valS
  split
  · split
    · omega
    · split <;> omega
  · omega
theorem lookS_lt (zs : List Int) (n : Nat) (code : Int) : ∀ (f i : Nat), 0 ≤ lookS zs n code i f ∧ lookS zs n code i f ≤ 65535
  | 0, _ => by simp [lookS]
  | f + 1, i => by
    rw [lookS]
    split
    · exact valS_lt _ _ _ _
    · exact lookS_lt zs n code f (i + 1)

/-- The numbers of a table. -/
def nums (zs : List Int) (m : Nat) : List Int := (List.range m).map fun i => n2at zs (2 * i)
theorem nums_len (zs : List Int) (m : Nat) : (nums zs m).length = m := by simp [nums]
theorem nums_get (zs : List Int) {m i : Nat} (h : i < m) : (nums zs m)[i]? = some (n2at zs (2 * i)) := by simp [nums, h]
theorem nums_succ (zs : List Int) (m : Nat) : nums zs (m + 1) = nums zs m ++ [n2at zs (2 * m)] := by simp [nums, List.range_succ]
theorem nums_set (zs : List Int) (m k : Nat) (h : k < m) : (nums zs k ++ List.replicate (m - k) 0).set k (n2at zs (2 * k)) = nums zs (k + 1) ++ List.replicate (m - (k + 1)) 0 := by
  rw [List.set_append_right _ _ (by rw [nums_len]; exact Nat.le_refl _), nums_len, Nat.sub_self, nums_succ, List.append_assoc, show m - k = (m - (k + 1)) + 1 by omega, List.replicate_succ]
  rfl

end Go.Proofs.Ythkaeimpflggjaa

/- The document's Search and Look of segments, as contracts over this seat's translation. -/
namespace Go.Proofs.Ythkaeimpflggjaa
open Go.RowKit
set_option linter.unusedVariables false

set_option maxRecDepth 100000 in
theorem rat9_any (A : Option Addr) (n c : Nat) (zs : List Int) (a : Int) (i : Nat) (w : World) (hr : Row w A n (cellsOf .u8 zs)) (hB : Bytes zs) (hn : n ≤ 140737488351232) (ha : a = i) (hi : i ≤ 140737488351232) :
    Calls Try.prog 75 #[.slice A n c, .int .i64 a] w (Ret w (.int .i64 (n2at zs i))) := by
  subst ha
  have H := Lib.hid (n2_any A n c zs i w hr hB hn hi)
  rw [n2v_at] at H
  clear hr hB
  generalize n2at zs i = v at *
  go_enter Try.func75, Try.ntmps75
  go_wp2_with fail
  refine H.out.mono ?_
  rintro e w1 ⟨rfl, q, rfl⟩
  go_wp2
  go_ret
  exact ⟨rfl, below_drewN (Below.refl _ _) _⟩

/-- The three numbers, written out. -/
def srB (n : Nat) : List Int := b2 (2 * ((2 ^ expoS n : Nat) : Int)) ++ (b2 (expoS n : Int) ++ b2 (2 * (n : Int) - 2 * ((2 ^ expoS n : Nat) : Int)))
theorem srB_len (n : Nat) : (srB n).length = 6 := rfl

set_option maxRecDepth 100000 in
set_option maxHeartbeats 2000000 in
theorem rsearch9_any (n : Nat) (w : World) (h0 : 1 ≤ n) (h1 : n < 32768) : Calls Try.prog 71 #[.int .i64 n] w (RetB w (srB n)) := by
  go_enter Try.func71, Try.ntmps71
  go_wp2
  go_loopw [3, 4] (fun t x wr => ∃ e q : Nat, Hid (q = 2 ^ e) ∧ e < 16 ∧ q ≤ n ∧ x = .int .i64 e ∧ t = .int .i64 q ∧ Below w.heap.size w wr) (fun t _ _ => 32768 - (intOf t).toNat)
  case atStart => exact ⟨0, 1, Lib.hid rfl, by omega, h0, rfl, rfl, Below.refl _ _⟩
  case round =>
    obtain ⟨e, q, HQ, he, hqn, rfl, rfl, hb⟩ := hrel
    have hp : 1 ≤ q := by have := HQ.out; rw [this]; exact Nat.one_le_two_pow
    by_cases hlt : 2 * q ≤ n
    · go_wp2
      go_roundw
      case rel => exact ⟨e + 1, q * 2, Lib.hid (by rw [HQ.out, Nat.pow_succ]), by
        rcases Nat.lt_or_ge e 15 with h | h
        · omega
        · have : 2 ^ 15 ≤ 2 ^ e := Nat.pow_le_pow_right (by omega) h
          have := HQ.out
          omega, by omega, by go_num, by go_num, hb⟩
      case measure => simp [intOf]; omega
    · have hu := expoS_uniq n e h0 (by rw [← HQ.out]; exact hqn) (by rw [Nat.pow_succ, ← HQ.out]; omega)
      have HS : Hid (srB n = b2 (2 * (q : Int)) ++ (b2 (e : Int) ++ b2 (2 * (n : Int) - 2 * (q : Int)))) := by show _ = _; unfold srB; rw [← hu, ← HQ.out]
      have hsz := hb.size
      clear hu HQ
      go_wp2_with fail
      refine (b2_any (2 * (q : Int)) _ (by omega) (by omega)).mono ?_
      rintro e1 w1 ⟨A1, n1, c1, rfl, o1, hb1⟩
      have hgt := (Got.nil wr).add (c := c1) hb1 o1
      have hB := hb.trans (hb1.mono hb.size)
      clear o1 hb1 hb
      go_wp2_with fail
      refine (b2_any (e : Int) _ (by omega) (by omega)).mono ?_
      rintro e2 w2 ⟨A2, n2, c2, rfl, o2, hb2⟩
      replace hgt := hgt.add (c := c2) hb2 o2
      replace hB := hB.trans (hb2.mono hB.size)
      clear o2 hb2
      go_wp2_with fail
      refine (b2_any (2 * (n : Int) - 2 * (q : Int)) _ (by omega) (by omega)).mono ?_
      rintro e3 w3 ⟨A3, n3, c3, rfl, o3, hb3⟩
      replace hgt := hgt.add (c := c3) hb3 o3
      replace hB := hB.trans (hb3.mono hB.size)
      clear o3 hb3
      have HJ := Lib.hid (joinN_any w3 _ _ 3 _ rfl rfl rfl hgt (by omega) (by simp [joined, b2]))
      simp only [joined, List.nil_append, List.cons_append, List.flatMap_cons, List.flatMap_nil, List.append_nil, List.map_cons, List.map_nil, BsV.val] at HJ
      rw [← HS.out] at HJ
      clear hgt
      go_wp2_with fail
      refine HJ.out.mono ?_
      rintro e6 w6 ⟨A6, n6, c6, rfl, o6, hb6⟩
      go_wp2
      go_ret
      exact ⟨A6, n6, c6, rfl, o6.mono hB.size, hB.trans (hb6.mono hB.size)⟩

set_option maxRecDepth 100000 in
set_option maxHeartbeats 4000000 in
theorem rlook9_any (A : Option Addr) (n c : Nat) (zs : List Int) (N : Nat) (code : Int) (w : World) (hr : Row w A n (cellsOf .u8 zs)) (hB : Bytes zs) (hn : n ≤ 1000000) (hN : N ≤ 32767) (c0 : -2147483648 ≤ code) (c1 : code ≤ 2147483647) :
    Calls Try.prog 32 #[.slice A n c, .int .i64 N, .int .i64 code] w (Ret w (.int .i64 (lookS zs N code 0 N))) := by
  have HAll : Hid (∀ (i : Nat) (a : Int), a = i → i ≤ 100000000 → ∀ W, Below w.heap.size w W → Calls Try.prog 75 #[.slice A n c, .int .i64 a] W (Ret W (.int .i64 (n2at zs i)))) := fun i a ha hi W hW => rat9_any A n c zs a i W (hr.below hW) hB (by omega) ha (by omega)
  have HB := Lib.hid hB
  clear hr hB
  have hb := Below.refl w.heap.size w
  by_cases hc0 : code < 0
  · have HT : Hid (lookS zs N code 0 N = 0) := by
      show _ = _
      cases N with
      | zero => rfl
      | succ N =>
        have k1 := n2at_lt HB.out (14 + 2 * 0)
        have k2 : 0 ≤ (sqAt zs (N + 1) 0).a := (n2at_lt HB.out _).1
        rw [lookS, if_pos (by omega)]
        unfold valS
        rw [if_neg (by omega)]
    clear HAll
    go_enter Try.func32, Try.ntmps32
    go_wp2
    go_ret
    rw [HT.out]
    exact ⟨rfl, hb⟩
  · by_cases hc1 : 65535 < code
    · have HT : Hid (lookS zs N code 0 N = 0) := lookS_none (fun j _ => by have := n2at_lt HB.out (14 + 2 * j); omega)
      clear HAll
      go_enter Try.func32, Try.ntmps32
      go_wp2
      go_ret
      rw [HT.out]
      exact ⟨rfl, hb⟩
    · go_enter Try.func32, Try.ntmps32
      go_wp2
      go_loopw [7] (fun i wr => ∃ k : Nat, k ≤ N ∧ i = .int .i64 k ∧ Hid (lookS zs N code 0 N = lookS zs N code k (N - k)) ∧ Below w.heap.size w wr) (fun i _ => N - (intOf i).toNat)
      case atStart => exact ⟨0, Nat.zero_le _, rfl, Lib.hid rfl, hb⟩
      case round =>
        clear hb
        obtain ⟨k, hk, rfl, hok, hb⟩ := hrel
        by_cases hlt : k < N
        · have hE := Lib.hid (HAll.out (14 + 2 * k) (14 + 2 * (k : Int)) (by omega) (by omega))
          have hSt := Lib.hid (HAll.out (16 + 2 * N + 2 * k) (16 + 2 * (N : Int) + 2 * (k : Int)) (by omega) (by omega))
          have hDe := Lib.hid (HAll.out (16 + 4 * N + 2 * k) (16 + 4 * (N : Int) + 2 * (k : Int)) (by omega) (by omega))
          have hOf := Lib.hid (HAll.out (16 + 6 * N + 2 * k) (16 + 6 * (N : Int) + 2 * (k : Int)) (by omega) (by omega))
          have kS := n2at_lt HB.out (16 + 2 * N + 2 * k)
          have kD := n2at_lt HB.out (16 + 4 * N + 2 * k)
          have kO := n2at_lt HB.out (16 + 6 * N + 2 * k)
          have kE := n2at_lt HB.out (14 + 2 * k)
          have hgo : lookS zs N code 0 N = if code ≤ n2at zs (14 + 2 * k) then valS zs N k code else lookS zs N code (k + 1) (N - (k + 1)) := by
            rw [hok.out]
            obtain ⟨f, hf⟩ : ∃ f, N - k = f + 1 := ⟨N - k - 1, by omega⟩
            rw [hf, lookS, show N - (k + 1) = f by omega]
          have HGO := Lib.hid hgo
          have HV : Hid (valS zs N k code = if n2at zs (16 + 2 * N + 2 * k) ≤ code then (if n2at zs (16 + 6 * N + 2 * k) = 0 then (code + n2at zs (16 + 4 * N + 2 * k)) % 65536 else if n2at zs (16 + 6 * N + 2 * k + (n2at zs (16 + 6 * N + 2 * k)).toNat + 2 * (code - n2at zs (16 + 2 * N + 2 * k)).toNat) = 0 then 0 else (n2at zs (16 + 6 * N + 2 * k + (n2at zs (16 + 6 * N + 2 * k)).toNat + 2 * (code - n2at zs (16 + 2 * N + 2 * k)).toNat) + n2at zs (16 + 4 * N + 2 * k)) % 65536) else 0) := rfl
          have HGl := Lib.hid (fun (o s : Int) (h1 : 0 ≤ o) (h2 : o < 65536) (h3 : 0 ≤ s) (h4 : s ≤ code) => HAll.out (16 + 6 * N + 2 * k + o.toNat + 2 * (code - s).toNat) (16 + 6 * (N : Int) + 2 * (k : Int) + o + 2 * (code - s)) (by omega) (by omega))
          have HGb := Lib.hid (fun (o s : Int) => n2at_lt HB.out (16 + 6 * N + 2 * k + o.toNat + 2 * (code - s).toNat))
          clear hgo HAll hok
          generalize n2at zs (16 + 2 * N + 2 * k) = st at *
          generalize n2at zs (16 + 4 * N + 2 * k) = de at *
          generalize n2at zs (16 + 6 * N + 2 * k) = ofs at *
          generalize n2at zs (14 + 2 * k) = en at *
          by_cases h1 : code ≤ en
          · by_cases h2 : st ≤ code
            · by_cases h3 : ofs = 0
              · have HT : Hid (lookS zs N code 0 N = (code + de) % 65536) := by show _ = _; rw [HGO.out, if_pos h1, HV.out, if_pos h2, if_pos h3]
                have h3' : ¬ 0 < ofs := by omega
                clear HGO HV HGl HGb h3
                go_wp2_with (go_at_call 75; (first | (with_reducible refine (hE.out _ hb).mono ?_) | (with_reducible refine (hSt.out _ hb).mono ?_) | (with_reducible refine (hDe.out _ hb).mono ?_) | (with_reducible refine (hOf.out _ hb).mono ?_)); rintro e wn ⟨rfl, hbn⟩; replace hb := hb.trans (hbn.mono hb.size); clear hbn)
                go_ret
                rw [HT.out]
                exact ⟨rfl, hb⟩
              · have h3' : 0 < ofs := by omega
                have hGx := Lib.hid (HGl.out ofs st (by omega) (by omega) (by omega) h2)
                have kx := HGb.out ofs st
                have HV2 : Hid (lookS zs N code 0 N = if n2at zs (16 + 6 * N + 2 * k + ofs.toNat + 2 * (code - st).toNat) = 0 then 0 else (n2at zs (16 + 6 * N + 2 * k + ofs.toNat + 2 * (code - st).toNat) + de) % 65536) := by show _ = _; rw [HGO.out, if_pos h1, HV.out, if_pos h2, if_neg h3]
                clear HGO HV HGl HGb h3
                generalize n2at zs (16 + 6 * N + 2 * k + ofs.toNat + 2 * (code - st).toNat) = gv at *
                by_cases h4 : gv = 0
                · have HT : Hid (lookS zs N code 0 N = 0) := by show _ = _; rw [HV2.out, if_pos h4]
                  have b4 : (gv == 0) = true := by simp [h4]
                  clear HV2 h4
                  go_wp2_with (go_at_call 75; (first | (with_reducible refine (hE.out _ hb).mono ?_) | (with_reducible refine (hSt.out _ hb).mono ?_) | (with_reducible refine (hDe.out _ hb).mono ?_) | (with_reducible refine (hOf.out _ hb).mono ?_) | (with_reducible refine (hGx.out _ hb).mono ?_)); rintro e wn ⟨rfl, hbn⟩; replace hb := hb.trans (hbn.mono hb.size); clear hbn)
                  go_ret
                  rw [HT.out]
                  exact ⟨rfl, hb⟩
                · have HT : Hid (lookS zs N code 0 N = (gv + de) % 65536) := by show _ = _; rw [HV2.out, if_neg h4]
                  have b4 : (gv == 0) = false := by simp [h4]
                  clear HV2 h4
                  go_wp2_with (go_at_call 75; (first | (with_reducible refine (hE.out _ hb).mono ?_) | (with_reducible refine (hSt.out _ hb).mono ?_) | (with_reducible refine (hDe.out _ hb).mono ?_) | (with_reducible refine (hOf.out _ hb).mono ?_) | (with_reducible refine (hGx.out _ hb).mono ?_)); rintro e wn ⟨rfl, hbn⟩; replace hb := hb.trans (hbn.mono hb.size); clear hbn)
                  go_ret
                  rw [HT.out]
                  exact ⟨rfl, hb⟩
            · have HT : Hid (lookS zs N code 0 N = 0) := by show _ = _; rw [HGO.out, if_pos h1, HV.out, if_neg h2]
              clear HGO HV HGl HGb
              go_wp2_with (go_at_call 75; (first | (with_reducible refine (hE.out _ hb).mono ?_) | (with_reducible refine (hSt.out _ hb).mono ?_) | (with_reducible refine (hDe.out _ hb).mono ?_) | (with_reducible refine (hOf.out _ hb).mono ?_)); rintro e wn ⟨rfl, hbn⟩; replace hb := hb.trans (hbn.mono hb.size); clear hbn)
              go_ret
              rw [HT.out]
              exact ⟨rfl, hb⟩
          · have HT : Hid (lookS zs N code 0 N = lookS zs N code (k + 1) (N - (k + 1))) := by show _ = _; rw [HGO.out, if_neg h1]
            clear HGO HV HGl HGb
            go_wp2_with (go_at_call 75; (with_reducible refine (hE.out _ hb).mono ?_); rintro e wn ⟨rfl, hbn⟩; replace hb := hb.trans (hbn.mono hb.size); clear hbn)
            go_roundw
            case rel => exact ⟨k + 1, by omega, by go_num, HT, hb⟩
            case measure => simp [intOf]; omega
        · obtain rfl : k = N := by omega
          have HT : Hid (lookS zs k code 0 k = 0) := by show _ = _; rw [hok.out, Nat.sub_self]; rfl
          clear HAll
          go_wp2
          go_ret
          rw [HT.out]
          exact ⟨rfl, hb⟩

end Go.Proofs.Ythkaeimpflggjaa

/- The document's Right of segments, as a contract over this seat's translation. -/
namespace Go.Proofs.Ythkaeimpflggjaa
open Go.RowKit
set_option linter.unusedVariables false

def sRV (zs : List Int) : Int := if sRight zs then (sN zs : Int) else 0

theorem srB_same {zs : List Int} (hB : Bytes zs) (hl : 14 ≤ zs.length) {n : Nat} (h0 : 1 ≤ n) (h1 : n < 32768) : sameB ((zs.drop 8).take 6) (srB n) = decide ([n2at zs 8, n2at zs 10, n2at zs 12] = srL n) := by
  have hs := expoS_spec n h0
  have hx := expoS_lt n h0 h1
  rw [Nat.pow_succ] at hs
  have e : (zs.drop 8).take 6 = b2 (n2at zs 8) ++ (b2 (n2at zs 10) ++ b2 (n2at zs 12)) := by
    rw [b2_win hB (i := 8) (by omega), b2_win hB (i := 10) (by omega), b2_win hB (i := 12) (by omega)]
    rw [← win_join zs 8 2 4, ← win_join zs 10 2 2]
  have k8 := n2at_lt hB 8
  have k10 := n2at_lt hB 10
  have k12 := n2at_lt hB 12
  rw [e]
  unfold sameB srB srL
  rw [Bool.eq_iff_iff, decide_eq_true_iff, decide_eq_true_iff]
  generalize hp : ((2 ^ expoS n : Nat) : Int) = p at *
  have hp1 : 0 < p ∧ p ≤ n ∧ (n : Int) < 2 * p := by rw [← hp]; have := Nat.two_pow_pos (expoS n); omega
  generalize n2at zs 8 = u at *
  generalize n2at zs 10 = v at *
  generalize n2at zs 12 = t at *
  simp only [b2, List.cons_append, List.nil_append, List.cons.injEq, and_true]
  constructor
  · intro h; omega
  · rintro ⟨rfl, rfl, rfl⟩; simp

set_option maxRecDepth 100000 in
set_option maxHeartbeats 8000000 in
theorem rright9_no (A : Option Addr) (n c : Nat) (zs : List Int) (w : World) (hr : Row w A n (cellsOf .u8 zs)) (hB : Bytes zs) (hn : n ≤ 1000000) (hf : (sFront zs && sCnt0 zs) = false) :
    Calls Try.prog 31 #[.slice A n c] w (Ret w (.tuple #[.int .i64 0, .bool false])) := by
  have HAll : Hid (∀ (i : Nat) (a : Int), a = i → i ≤ 100000000 → ∀ W, Below w.heap.size w W → Calls Try.prog 75 #[.slice A n c, .int .i64 a] W (Ret W (.int .i64 (n2at zs i)))) := fun i a ha hi W hW => rat9_any A n c zs a i W (hr.below hW) hB (by omega) ha (by omega)
  have H0 := Lib.hid (HAll.out 0 0 rfl (by omega))
  have H2 := Lib.hid (HAll.out 2 2 rfl (by omega))
  have H6 := Lib.hid (HAll.out 6 6 rfl (by omega))
  have k0 := n2at_lt hB 0
  have k2 := n2at_lt hB 2
  have k6 := n2at_lt hB 6
  have hl := hr.len
  have HF : Hid ((sFront zs && sCnt0 zs) = (decide (n2at zs 0 = 4) && decide (24 ≤ n2at zs 2) && decide (n2at zs 2 ≤ n) && decide (n2at zs 2 % 2 = 0) && (decide (n2at zs 6 % 2 = 0) && decide (n2at zs 6 / 2 ≠ 0) && decide (16 + 8 * (n2at zs 6 / 2) ≤ n2at zs 2)))) := by show _ = _; unfold sFront sCnt0; rw [hl]
  have Hf := Lib.hid hf
  have hb := Below.refl w.heap.size w
  clear HAll hr hB hl hf
  generalize n2at zs 0 = v0 at *
  generalize n2at zs 2 = S at *
  generalize n2at zs 6 = t at *
  obtain ⟨N, hN⟩ : ∃ N : Nat, t / 2 = (N : Int) := ⟨(t / 2).toNat, by omega⟩
  go_enter Try.func31, Try.ntmps31
  go_upto_region 3 with (go_at_call 75; (first | (with_reducible refine (H2.out _ hb).mono ?_) | (with_reducible refine (H6.out _ hb).mono ?_)); rintro e wn ⟨rfl, hbn⟩; replace hb := hb.trans (hbn.mono hb.size); clear hbn)
  rw [hN]
  have G0 : Hid (∀ p os, Calls Try.prog 75 #[.slice A n c, .int .i64 0] (gw wn p os) (Ret (gw wn p os) (.int .i64 v0))) := fun p os => H0.out _ (hb.trans ((gw_below wn p os).mono hb.size))
  have G6 : Hid (∀ p os, Calls Try.prog 75 #[.slice A n c, .int .i64 6] (gw wn p os) (Ret (gw wn p os) (.int .i64 t))) := fun p os => H6.out _ (hb.trans ((gw_below wn p os).mono hb.size))
  have W1 : IntKind.i64.wrap (8 * (N : Int)) = 8 * (N : Int) := IntWalk.i64_in _ (by omega)
  have W2 : IntKind.i64.wrap (16 + 8 * (N : Int)) = 16 + 8 * (N : Int) := IntWalk.i64_in _ (by omega)
  have m1 : S.tmod 2 = S % 2 := Int.tmod_eq_emod_of_nonneg (by omega)
  have m2 : t.tmod 2 = t % 2 := Int.tmod_eq_emod_of_nonneg (by omega)
  by_cases h : n < 24
  · have D1 : decide ((n : Int) < 24) = true := decide_eq_true (by omega)
    clear Hf HF h
    refine region_below (by kernel_rfl) (by kernel_rfl) ?_
    repeat (first | go_big_quiet_step (first | (go_at_call 75; with_reducible exact calls_gw (G0.out _ _)) | (go_at_call 75; with_reducible exact calls_gw (G6.out _ _))) | quiet_step (first | (go_at_call 75; with_reducible exact calls_gw (G0.out _ _)) | (go_at_call 75; with_reducible exact calls_gw (G6.out _ _))))
    refine wpQuiet_nil ?_
    rintro _ ⟨z, rfl⟩
    have hbf := hb.trans ((gw_below wn z.n z.os).mono hb.size)
    go_wp2
    go_ret2
    exact ⟨rfl, hbf⟩
  · have D1 : decide ((n : Int) < 24) = false := decide_eq_false (by omega)
    have h0 := h
    clear h
    by_cases h : v0 ≠ 4
    · have B0 : (v0 != 4) = true := by simp; omega
      clear Hf HF h
      refine region_below (by kernel_rfl) (by kernel_rfl) ?_
      repeat (first | go_big_quiet_step (first | (go_at_call 75; with_reducible exact calls_gw (G0.out _ _)) | (go_at_call 75; with_reducible exact calls_gw (G6.out _ _))) | quiet_step (first | (go_at_call 75; with_reducible exact calls_gw (G0.out _ _)) | (go_at_call 75; with_reducible exact calls_gw (G6.out _ _))))
      refine wpQuiet_nil ?_
      rintro _ ⟨z, rfl⟩
      have hbf := hb.trans ((gw_below wn z.n z.os).mono hb.size)
      go_wp2
      go_ret2
      exact ⟨rfl, hbf⟩
    · have B0 : (v0 != 4) = false := by simp; omega
      have h1 := h
      clear h
      by_cases h : S < 24
      · have D2 : decide (S < 24) = true := decide_eq_true (by omega)
        clear Hf HF h
        refine region_below (by kernel_rfl) (by kernel_rfl) ?_
        repeat (first | go_big_quiet_step (first | (go_at_call 75; with_reducible exact calls_gw (G0.out _ _)) | (go_at_call 75; with_reducible exact calls_gw (G6.out _ _))) | quiet_step (first | (go_at_call 75; with_reducible exact calls_gw (G0.out _ _)) | (go_at_call 75; with_reducible exact calls_gw (G6.out _ _))))
        refine wpQuiet_nil ?_
        rintro _ ⟨z, rfl⟩
        have hbf := hb.trans ((gw_below wn z.n z.os).mono hb.size)
        go_wp2
        go_ret2
        exact ⟨rfl, hbf⟩
      · have D2 : decide (S < 24) = false := decide_eq_false (by omega)
        have h2 := h
        clear h
        by_cases h : (n : Int) < S
        · have D3 : decide ((n : Int) < S) = true := decide_eq_true (by omega)
          clear Hf HF h
          refine region_below (by kernel_rfl) (by kernel_rfl) ?_
          repeat (first | go_big_quiet_step (first | (go_at_call 75; with_reducible exact calls_gw (G0.out _ _)) | (go_at_call 75; with_reducible exact calls_gw (G6.out _ _))) | quiet_step (first | (go_at_call 75; with_reducible exact calls_gw (G0.out _ _)) | (go_at_call 75; with_reducible exact calls_gw (G6.out _ _))))
          refine wpQuiet_nil ?_
          rintro _ ⟨z, rfl⟩
          have hbf := hb.trans ((gw_below wn z.n z.os).mono hb.size)
          go_wp2
          go_ret2
          exact ⟨rfl, hbf⟩
        · have D3 : decide ((n : Int) < S) = false := decide_eq_false (by omega)
          have h3 := h
          clear h
          by_cases h : 0 < S % 2
          · have D4 : decide (0 < S % 2) = true := decide_eq_true (by omega)
            clear Hf HF h
            refine region_below (by kernel_rfl) (by kernel_rfl) ?_
            repeat (first | go_big_quiet_step (first | (go_at_call 75; with_reducible exact calls_gw (G0.out _ _)) | (go_at_call 75; with_reducible exact calls_gw (G6.out _ _))) | quiet_step (first | (go_at_call 75; with_reducible exact calls_gw (G0.out _ _)) | (go_at_call 75; with_reducible exact calls_gw (G6.out _ _))))
            refine wpQuiet_nil ?_
            rintro _ ⟨z, rfl⟩
            have hbf := hb.trans ((gw_below wn z.n z.os).mono hb.size)
            go_wp2
            go_ret2
            exact ⟨rfl, hbf⟩
          · have D4 : decide (0 < S % 2) = false := decide_eq_false (by omega)
            have h4 := h
            clear h
            by_cases h : 0 < t % 2
            · have D5 : decide (0 < t % 2) = true := decide_eq_true (by omega)
              clear Hf HF h
              refine region_below (by kernel_rfl) (by kernel_rfl) ?_
              repeat (first | go_big_quiet_step (first | (go_at_call 75; with_reducible exact calls_gw (G0.out _ _)) | (go_at_call 75; with_reducible exact calls_gw (G6.out _ _))) | quiet_step (first | (go_at_call 75; with_reducible exact calls_gw (G0.out _ _)) | (go_at_call 75; with_reducible exact calls_gw (G6.out _ _))))
              refine wpQuiet_nil ?_
              rintro _ ⟨z, rfl⟩
              have hbf := hb.trans ((gw_below wn z.n z.os).mono hb.size)
              go_wp2
              go_ret2
              exact ⟨rfl, hbf⟩
            · have D5 : decide (0 < t % 2) = false := decide_eq_false (by omega)
              have h5 := h
              clear h
              by_cases h : N = 0
              · have B6 : ((N : Int) == 0) = true := by simp; omega
                clear Hf HF h
                refine region_below (by kernel_rfl) (by kernel_rfl) ?_
                repeat (first | go_big_quiet_step (first | (go_at_call 75; with_reducible exact calls_gw (G0.out _ _)) | (go_at_call 75; with_reducible exact calls_gw (G6.out _ _))) | quiet_step (first | (go_at_call 75; with_reducible exact calls_gw (G0.out _ _)) | (go_at_call 75; with_reducible exact calls_gw (G6.out _ _))))
                refine wpQuiet_nil ?_
                rintro _ ⟨z, rfl⟩
                have hbf := hb.trans ((gw_below wn z.n z.os).mono hb.size)
                go_wp2
                go_ret2
                exact ⟨rfl, hbf⟩
              · have B6 : ((N : Int) == 0) = false := by simp; omega
                have h6 := h
                clear h
                by_cases h : S < 16 + 8 * (N : Int)
                · have D7 : decide (S < 16 + 8 * (N : Int)) = true := decide_eq_true (by omega)
                  clear Hf HF h
                  refine region_below (by kernel_rfl) (by kernel_rfl) ?_
                  repeat (first | go_big_quiet_step (first | (go_at_call 75; with_reducible exact calls_gw (G0.out _ _)) | (go_at_call 75; with_reducible exact calls_gw (G6.out _ _))) | quiet_step (first | (go_at_call 75; with_reducible exact calls_gw (G0.out _ _)) | (go_at_call 75; with_reducible exact calls_gw (G6.out _ _))))
                  refine wpQuiet_nil ?_
                  rintro _ ⟨z, rfl⟩
                  have hbf := hb.trans ((gw_below wn z.n z.os).mono hb.size)
                  go_wp2
                  go_ret2
                  exact ⟨rfl, hbf⟩
                · have D7 : decide (S < 16 + 8 * (N : Int)) = false := decide_eq_false (by omega)
                  have h7 := h
                  clear h
                  exfalso
                  have := Hf.out
                  rw [HF.out] at this
                  simp at this
                  omega

end Go.Proofs.Ythkaeimpflggjaa

/- A region that draws its order, in which memory only grows: whatever yields its value in every world that goes on from the one at hand is taken first; the rest one by one, each from the world that it meets. -/
namespace Go.Proofs.Ythkaeimpflggjaa
open Go.RowKit
set_option linter.unusedVariables false

/-- w' goes on from w: what lay in w is unturned. -/
def Ext (w w' : World) : Prop := Below w.heap.size w w'
theorem Ext.refl (w : World) : Ext w w := Below.refl _ _
theorem Ext.trans {a b c : World} (h : Ext a b) (k : Ext b c) : Ext a c := Below.trans h (Below.mono k (Below.size h))
theorem Ext.cell {w w' : World} (h : Ext w w') {a : Addr} {v : Value} (hc : w.cell? a = some v) : w'.cell? a = some v := (Below.cell h (World.block_lt_of_cell? w _ hc)).trans hc
theorem Ext.alloc (w : World) (o : Obj) : Ext w (w.alloc o) := (Below.refl _ _).alloc (Nat.le_refl _) o

section
variable {P : Program} {ops : Array Oper} {Q : Exit → Act → World → Prop} {md : Region.Mode}

theorem held_mono {S1 S2 : World → Prop} (h : ∀ w, S2 w → S1 w) : ∀ (fuel : Nat) (listed : Array Bool) (a : Act) (w : World), wpAnyH P md ops Q S2 fuel listed a w → wpAnyH P md ops Q S1 fuel listed a w
  | 0, _, _, _, hh => hh
  | fuel + 1, _, _, _, hh => ⟨hh.1, fun i hi => wpOp_mono (fun a' w' h' => ⟨h w' h'.1, held_mono h fuel _ a' w' h'.2⟩) (hh.2 i hi)⟩

theorem reg_start {id : Nat} {a : Act} {w : World} (hm : P.follows .mixedOrders = true) (h : wpAnyH P .any ops Q (Ext w.drew) ops.size (Array.replicate ops.size false) a w.drew) : (Code.region id ops true).wp P Q a w := wp_region_held hm h

theorem reg_take {i : Nat} {d : Option Tmp} {oi : Oper} {v : Value} {fuel : Nat} {listed : Array Bool} {a : Act} {w : World} (hi : ops[i]? = some oi) (hd : oi.dst = d) (hs : Region.noSelect ops = true) (hf : Region.free md ops listed i = true) (hr : (Region.ready md ops listed).contains i = true)
    (hQ : ∀ c a w, Q (.panic c) (a.put oi.dst v) w → Q (.panic c) a w) (hy : YieldsIf P ops (Ext w) oi v a) (h : wpAnyH P md ops Q (Ext w) fuel (listed.setIfInBounds i true) (a.put d v) w) : wpAnyH P md ops Q (Ext w) (fuel + 1) listed a w := by
  subst hd
  exact wpAnyH_take hi hs hf hr hQ hy (Ext.refl w) h

/-- One of those that may come up. -/
def OneR (P : Program) (md : Region.Mode) (ops : Array Oper) (Q : Exit → Act → World → Prop) (fuel : Nat) (listed : Array Bool) (a : Act) (w : World) (i : Nat) (o : Oper) : Prop :=
  ∀ K : Act → World → Prop, Shut (∀ a' w', Ext w w' → wpAnyH P md ops Q (Ext w') fuel (listed.setIfInBounds i true) a' w' → K a' w') → if Region.wanted o (yielded ops a.tmps) = true then Oper.wp P o a w K Q else K (a.put o.dst undef) w

theorem oneR_op {fuel : Nat} {listed : Array Bool} {a : Act} {w : World} {i : Nat} {o : Oper} (ho : ops[i]? = some o) (h : OneR P md ops Q fuel listed a w i o) : wpOp P ops Q i (fun a' w' => Ext w w' ∧ wpAnyH P md ops Q (Ext w) fuel (listed.setIfInBounds i true) a' w') a w :=
  wpOp_step ho fun K hK => h K fun a' w' hx hw => hK a' w' ⟨hx, held_mono (fun _ hy => hx.trans hy) _ _ _ _ hw⟩

theorem reg_one {fuel : Nat} {listed : Array Bool} {a : Act} {w : World} (i : Nat) (o : Oper) (hr : Region.ready md ops listed = [i]) (ho : ops[i]? = some o) (h : OneR P md ops Q fuel listed a w i o) : wpAnyH P md ops Q (Ext w) (fuel + 1) listed a w :=
  wpAnyH_all hr (by simp) fun j hj => by simp at hj; subst hj; exact oneR_op ho h

theorem reg_two {fuel : Nat} {listed : Array Bool} {a : Act} {w : World} (i j : Nat) (o p : Oper) (hr : Region.ready md ops listed = [i, j]) (ho : ops[i]? = some o) (hp : ops[j]? = some p) (h : OneR P md ops Q fuel listed a w i o) (k : OneR P md ops Q fuel listed a w j p) : wpAnyH P md ops Q (Ext w) (fuel + 1) listed a w :=
  wpAnyH_all hr (by simp) fun q hq => by
    simp at hq
    rcases hq with rfl | rfl
    · exact oneR_op ho h
    · exact oneR_op hp k
end

end Go.Proofs.Ythkaeimpflggjaa

/- The document's Right of segments, where the front is right: the three numbers are told wrongly. -/
namespace Go.Proofs.Ythkaeimpflggjaa
open Go.RowKit
set_option linter.unusedVariables false

set_option maxRecDepth 100000 in
set_option maxHeartbeats 8000000 in
theorem rright9_told (A : Option Addr) (n c : Nat) (zs : List Int) (w : World) (hr : Row w A n (cellsOf .u8 zs)) (hB : Bytes zs) (hn : n ≤ 1000000) (hc : n ≤ c) (hf : (sFront zs && sCnt0 zs) = true) (hTo : sTold zs = false) :
    Calls Try.prog 31 #[.slice A n c] w (Ret w (.tuple #[.int .i64 (sRV zs), .bool (sRight zs)])) := by
  have HAll : Hid (∀ (i : Nat) (a : Int), a = i → i ≤ 100000000 → ∀ W, Below w.heap.size w W → Calls Try.prog 75 #[.slice A n c, .int .i64 a] W (Ret W (.int .i64 (n2at zs i)))) := fun i a ha hi W hW => rat9_any A n c zs a i W (hr.below hW) hB (by omega) ha (by omega)
  have H0 := Lib.hid (HAll.out 0 0 rfl (by omega))
  have H2 := Lib.hid (HAll.out 2 2 rfl (by omega))
  have H6 := Lib.hid (HAll.out 6 6 rfl (by omega))
  have k0 := n2at_lt hB 0
  have k2 := n2at_lt hB 2
  have k6 := n2at_lt hB 6
  have hl := hr.len
  have hfs := hf
  unfold sFront sCnt0 at hfs
  simp only [Bool.and_eq_true, decide_eq_true_eq] at hfs
  rw [hl] at hfs
  obtain ⟨⟨⟨⟨f0, f1⟩, f2⟩, f3⟩, ⟨g1, g2⟩, g3⟩ := hfs
  have hsN : n2at zs 6 / 2 = (sN zs : Int) := by unfold sN; omega
  have HRt : Hid (sRight zs = (sTold zs && (sOkK zs (sN zs) (sN zs) && sEnd zs (sN zs)))) := by
    show _ = _
    rw [Bool.and_eq_true] at hf
    unfold sRight sCnt
    rw [hf.1, hf.2]
    rfl
  have HV : Hid (sRV zs = if sRight zs then (sN zs : Int) else 0) := rfl
  rw [hsN] at g2 g3
  generalize hN : sN zs = N at *
  have HSS := Lib.hid (srB_same hB (by omega) (n := N) (by omega) (by omega))
  have HTd : Hid (sTold zs = decide ([n2at zs 8, n2at zs 10, n2at zs 12] = srL N)) := by show _ = _; unfold sTold; rw [hN]
  rw [← HTd.out] at HSS
  have HEd : Hid (sEnd zs N = (decide (n2at zs (12 + 2 * N) = 65535) && decide (n2at zs (14 + 2 * N) = 0))) := rfl
  have H14 := Lib.hid (HAll.out (14 + 2 * N) (14 + 2 * (N : Int)) (by omega) (by omega))
  have H12 := Lib.hid (HAll.out (12 + 2 * N) (12 + 2 * (N : Int)) (by omega) (by omega))
  have HSr := Lib.hid (fun W => rsearch9_any N W (by omega) (by omega))
  have k14 := n2at_lt hB (14 + 2 * N)
  have k12 := n2at_lt hB (12 + 2 * N)
  obtain ⟨fg, foff, rfl, hfg, _⟩ := hr.2 (by omega)
  have hp8 : Row w (some ⟨fg, foff + 8, none⟩) 6 (cellsOf .u8 ((zs.drop 8).take 6)) := by
    have h := (hr.drop 8).take (k := 6) (by omega)
    rw [cellsOf_drop, cellsOf_take] at h
    simpa only [Option.map_some, Addr.add_lit] using h
  have Hp8 := Lib.hid hp8
  have HB := Lib.hid hB
  have hb := Below.refl w.heap.size w
  clear hp8 hB hf hr
  generalize hS : n2at zs 2 = S at *
  have HSq := Lib.hid hS
  clear hS
  generalize n2at zs 0 = v0 at *
  generalize n2at zs 6 = t at *
  have c1 : (14 : Int) ≤ (c : Int) := by omega
  have c2 : (8 : Int) < (c : Int) := by omega
  have c8 : ¬ c = 8 := by omega
  have D1 : decide ((n : Int) < 24) = false := decide_eq_false (by omega)
  have D1' : decide (n < 24) = false := decide_eq_false (by omega)
  have B0 : (v0 != 4) = false := by simp [f0]
  have D2 : decide (S < 24) = false := decide_eq_false (by omega)
  have D3 : decide ((n : Int) < S) = false := decide_eq_false (by omega)
  have D4 : decide (0 < S % 2) = false := decide_eq_false (by omega)
  have D5 : decide (0 < t % 2) = false := decide_eq_false (by omega)
  have B6 : ((N : Int) == 0) = false := by simp; omega
  have D7 : decide (S < 16 + 8 * (N : Int)) = false := decide_eq_false (by omega)
  have W1 : IntKind.i64.wrap (8 * (N : Int)) = 8 * (N : Int) := IntWalk.i64_in _ (by omega)
  have W2 : IntKind.i64.wrap (16 + 8 * (N : Int)) = 16 + 8 * (N : Int) := IntWalk.i64_in _ (by omega)
  have W3 : IntKind.i64.wrap (2 * (N : Int)) = 2 * (N : Int) := IntWalk.i64_in _ (by omega)
  have W4 : IntKind.i64.wrap (14 + 2 * (N : Int)) = 14 + 2 * (N : Int) := IntWalk.i64_in _ (by omega)
  have W5 : IntKind.i64.wrap (12 + 2 * (N : Int)) = 12 + 2 * (N : Int) := IntWalk.i64_in _ (by omega)
  have m1 : S.tmod 2 = S % 2 := Int.tmod_eq_emod_of_nonneg (by omega)
  have m2 : t.tmod 2 = t % 2 := Int.tmod_eq_emod_of_nonneg (by omega)
  go_enter Try.func31, Try.ntmps31
  go_upto_region 3 with (go_at_call 75; (first | (with_reducible refine (H2.out _ hb).mono ?_) | (with_reducible refine (H6.out _ hb).mono ?_)); rintro e wn ⟨rfl, hbn⟩; replace hb := hb.trans (hbn.mono hb.size); clear hbn)
  rw [hsN]
  replace hb := hb.drew
  clear f0
  rw [hTo] at HSS HRt
  have HT : Hid (sRV zs = 0 ∧ sRight zs = false) := (by have h : sRight zs = false := (by rw [HRt.out]; rfl); exact ⟨by rw [HV.out, h]; rfl, h⟩)
  clear HRt HV HEd HTd hTo HAll HSq HB
  refine reg_start (by kernel_rfl) ?_
  refine reg_take (i := 0) (d := some 15) (v := ?_) rfl rfl (by kernel_rfl) (by kernel_rfl) (by kernel_rfl) (fun _ _ _ h => h) (Or.inl ⟨by rfl, ?_⟩) ?_
  rotate_left
  · intro w' hx; (go_simp <;> with_reducible rfl)
  simp only [Act.put, List.setIfInBounds_toArray, List.set_cons_zero, List.set_cons_succ]
  refine reg_take (i := 1) (d := some 16) (v := ?_) rfl rfl (by kernel_rfl) (by kernel_rfl) (by kernel_rfl) (fun _ _ _ h => h) (Or.inl ⟨by rfl, ?_⟩) ?_
  rotate_left
  · intro w' hx; (go_simp <;> with_reducible rfl)
  simp only [Act.put, List.setIfInBounds_toArray, List.set_cons_zero, List.set_cons_succ]
  refine reg_take (i := 2) (d := some 17) (v := ?_) rfl rfl (by kernel_rfl) (by kernel_rfl) (by kernel_rfl) (fun _ _ _ h => h) (Or.inl ⟨by rfl, ?_⟩) ?_
  rotate_left
  · intro w' hx; (go_simp <;> with_reducible rfl)
  simp only [Act.put, List.setIfInBounds_toArray, List.set_cons_zero, List.set_cons_succ]
  refine reg_take (i := 3) (d := some 18) (v := ?_) rfl rfl (by kernel_rfl) (by kernel_rfl) (by kernel_rfl) (fun _ _ _ h => h) (Or.inl ⟨by rfl, ?_⟩) ?_
  rotate_left
  · intro w' hx; (go_simp <;> with_reducible rfl)
  simp only [Act.put, List.setIfInBounds_toArray, List.set_cons_zero, List.set_cons_succ]
  refine reg_take (i := 4) (d := some 19) (v := ?_) rfl rfl (by kernel_rfl) (by kernel_rfl) (by kernel_rfl) (fun _ _ _ h => h) (Or.inl ⟨by rfl, ?_⟩) ?_
  rotate_left
  · intro w' hx; (go_simp <;> with_reducible rfl)
  simp only [Act.put, List.setIfInBounds_toArray, List.set_cons_zero, List.set_cons_succ]
  refine reg_one 5 _ (by kernel_rfl) rfl ?_
  intro K hK
  go_simp
  go_wp2_with (go_at_call 75; (with_reducible refine (H0.out _ hb).mono ?_); rintro e wm ⟨rfl, hbm⟩; replace hb := hb.trans (hbm.mono hb.size))
  refine hK.out _ _ hbm ?_
  clear hK K
  refine reg_take (i := 6) (d := some 21) (v := ?_) rfl rfl (by kernel_rfl) (by kernel_rfl) (by kernel_rfl) (fun _ _ _ h => h) (Or.inl ⟨by rfl, ?_⟩) ?_
  rotate_left
  · intro w' hx; (go_simp <;> with_reducible rfl)
  simp only [Act.put, List.setIfInBounds_toArray, List.set_cons_zero, List.set_cons_succ]
  refine reg_take (i := 7) (d := some 22) (v := ?_) rfl rfl (by kernel_rfl) (by kernel_rfl) (by kernel_rfl) (fun _ _ _ h => h) (Or.inl ⟨by rfl, ?_⟩) ?_
  rotate_left
  · intro w' hx; (go_simp <;> with_reducible rfl)
  simp only [Act.put, List.setIfInBounds_toArray, List.set_cons_zero, List.set_cons_succ]
  refine reg_take (i := 8) (d := some 23) (v := ?_) rfl rfl (by kernel_rfl) (by kernel_rfl) (by kernel_rfl) (fun _ _ _ h => h) (Or.inl ⟨by rfl, ?_⟩) ?_
  rotate_left
  · intro w' hx; (go_simp <;> with_reducible rfl)
  simp only [Act.put, List.setIfInBounds_toArray, List.set_cons_zero, List.set_cons_succ]
  refine reg_take (i := 9) (d := some 24) (v := ?_) rfl rfl (by kernel_rfl) (by kernel_rfl) (by kernel_rfl) (fun _ _ _ h => h) (Or.inl ⟨by rfl, ?_⟩) ?_
  rotate_left
  · intro w' hx; (go_simp <;> with_reducible rfl)
  simp only [Act.put, List.setIfInBounds_toArray, List.set_cons_zero, List.set_cons_succ]
  refine reg_take (i := 10) (d := some 25) (v := ?_) rfl rfl (by kernel_rfl) (by kernel_rfl) (by kernel_rfl) (fun _ _ _ h => h) (Or.inl ⟨by rfl, ?_⟩) ?_
  rotate_left
  · intro w' hx; (go_simp <;> with_reducible rfl)
  simp only [Act.put, List.setIfInBounds_toArray, List.set_cons_zero, List.set_cons_succ]
  refine reg_take (i := 11) (d := some 26) (v := ?_) rfl rfl (by kernel_rfl) (by kernel_rfl) (by kernel_rfl) (fun _ _ _ h => h) (Or.inl ⟨by rfl, ?_⟩) ?_
  rotate_left
  · intro w' hx; (go_simp <;> with_reducible rfl)
  simp only [Act.put, List.setIfInBounds_toArray, List.set_cons_zero, List.set_cons_succ]
  refine reg_take (i := 12) (d := some 27) (v := ?_) rfl rfl (by kernel_rfl) (by kernel_rfl) (by kernel_rfl) (fun _ _ _ h => h) (Or.inl ⟨by rfl, ?_⟩) ?_
  rotate_left
  · intro w' hx; (go_simp <;> with_reducible rfl)
  simp only [Act.put, List.setIfInBounds_toArray, List.set_cons_zero, List.set_cons_succ]
  refine reg_take (i := 13) (d := some 28) (v := ?_) rfl rfl (by kernel_rfl) (by kernel_rfl) (by kernel_rfl) (fun _ _ _ h => h) (Or.inl ⟨by rfl, ?_⟩) ?_
  rotate_left
  · intro w' hx; (go_simp <;> with_reducible rfl)
  simp only [Act.put, List.setIfInBounds_toArray, List.set_cons_zero, List.set_cons_succ]
  refine reg_take (i := 14) (d := some 29) (v := ?_) rfl rfl (by kernel_rfl) (by kernel_rfl) (by kernel_rfl) (fun _ _ _ h => h) (Or.inl ⟨by rfl, ?_⟩) ?_
  rotate_left
  · intro w' hx; (go_simp <;> with_reducible rfl)
  simp only [Act.put, List.setIfInBounds_toArray, List.set_cons_zero, List.set_cons_succ]
  refine reg_take (i := 15) (d := some 30) (v := ?_) rfl rfl (by kernel_rfl) (by kernel_rfl) (by kernel_rfl) (fun _ _ _ h => h) (Or.inl ⟨by rfl, ?_⟩) ?_
  rotate_left
  · intro w' hx; (go_simp <;> with_reducible rfl)
  simp only [Act.put, List.setIfInBounds_toArray, List.set_cons_zero, List.set_cons_succ]
  refine reg_take (i := 16) (d := some 31) (v := ?_) rfl rfl (by kernel_rfl) (by kernel_rfl) (by kernel_rfl) (fun _ _ _ h => h) (Or.inl ⟨by rfl, ?_⟩) ?_
  rotate_left
  · intro w' hx; (go_simp <;> with_reducible rfl)
  simp only [Act.put, List.setIfInBounds_toArray, List.set_cons_zero, List.set_cons_succ]
  refine reg_take (i := 17) (d := some 32) (v := ?_) rfl rfl (by kernel_rfl) (by kernel_rfl) (by kernel_rfl) (fun _ _ _ h => h) (Or.inl ⟨by rfl, ?_⟩) ?_
  rotate_left
  · intro w' hx; (go_simp <;> with_reducible rfl)
  simp only [Act.put, List.setIfInBounds_toArray, List.set_cons_zero, List.set_cons_succ]
  refine reg_take (i := 18) (d := some 33) (v := ?_) rfl rfl (by kernel_rfl) (by kernel_rfl) (by kernel_rfl) (fun _ _ _ h => h) (Or.inl ⟨by rfl, ?_⟩) ?_
  rotate_left
  · intro w' hx; (go_simp <;> with_reducible rfl)
  simp only [Act.put, List.setIfInBounds_toArray, List.set_cons_zero, List.set_cons_succ]
  refine reg_take (i := 19) (d := some 34) (v := ?_) rfl rfl (by kernel_rfl) (by kernel_rfl) (by kernel_rfl) (fun _ _ _ h => h) (Or.inl ⟨by rfl, ?_⟩) ?_
  rotate_left
  · intro w' hx; (go_simp <;> with_reducible rfl)
  simp only [Act.put, List.setIfInBounds_toArray, List.set_cons_zero, List.set_cons_succ]
  refine reg_take (i := 20) (d := some 35) (v := ?_) rfl rfl (by kernel_rfl) (by kernel_rfl) (by kernel_rfl) (fun _ _ _ h => h) (Or.inl ⟨by rfl, ?_⟩) ?_
  rotate_left
  · intro w' hx; (go_simp <;> with_reducible rfl)
  simp only [Act.put, List.setIfInBounds_toArray, List.set_cons_zero, List.set_cons_succ]
  refine reg_take (i := 21) (d := some 36) (v := ?_) rfl rfl (by kernel_rfl) (by kernel_rfl) (by kernel_rfl) (fun _ _ _ h => h) (Or.inl ⟨by rfl, ?_⟩) ?_
  rotate_left
  · intro w' hx; (go_simp <;> with_reducible rfl)
  simp only [Act.put, List.setIfInBounds_toArray, List.set_cons_zero, List.set_cons_succ]
  refine reg_take (i := 22) (d := some 37) (v := ?_) rfl rfl (by kernel_rfl) (by kernel_rfl) (by kernel_rfl) (fun _ _ _ h => h) (Or.inl ⟨by rfl, ?_⟩) ?_
  rotate_left
  · intro w' hx; (go_simp <;> with_reducible rfl)
  simp only [Act.put, List.setIfInBounds_toArray, List.set_cons_zero, List.set_cons_succ]
  refine reg_take (i := 23) (d := some 38) (v := ?_) rfl rfl (by kernel_rfl) (by kernel_rfl) (by kernel_rfl) (fun _ _ _ h => h) (Or.inl ⟨by rfl, ?_⟩) ?_
  rotate_left
  · intro w' hx; (go_simp <;> with_reducible rfl)
  simp only [Act.put, List.setIfInBounds_toArray, List.set_cons_zero, List.set_cons_succ]
  refine reg_take (i := 24) (d := some 39) (v := ?_) rfl rfl (by kernel_rfl) (by kernel_rfl) (by kernel_rfl) (fun _ _ _ h => h) (Or.inl ⟨by rfl, ?_⟩) ?_
  rotate_left
  · intro w' hx; (go_simp <;> with_reducible rfl)
  simp only [Act.put, List.setIfInBounds_toArray, List.set_cons_zero, List.set_cons_succ]
  refine reg_one 25 _ (by kernel_rfl) rfl ?_
  intro K hK
  go_simp
  go_wp2_with (go_at_call 75; (with_reducible refine (H6.out _ hb).mono ?_); rintro e wm ⟨rfl, hbm⟩; replace hb := hb.trans (hbm.mono hb.size))
  refine hK.out _ _ hbm ?_
  clear hK K
  refine reg_take (i := 26) (d := some 41) (v := ?_) rfl rfl (by kernel_rfl) (by kernel_rfl) (by kernel_rfl) (fun _ _ _ h => h) (Or.inl ⟨by rfl, ?_⟩) ?_
  rotate_left
  · intro w' hx; (go_simp <;> with_reducible rfl)
  simp only [Act.put, List.setIfInBounds_toArray, List.set_cons_zero, List.set_cons_succ]
  refine reg_take (i := 27) (d := some 42) (v := ?_) rfl rfl (by kernel_rfl) (by kernel_rfl) (by kernel_rfl) (fun _ _ _ h => h) (Or.inl ⟨by rfl, ?_⟩) ?_
  rotate_left
  · intro w' hx; (go_simp <;> with_reducible rfl)
  simp only [Act.put, List.setIfInBounds_toArray, List.set_cons_zero, List.set_cons_succ]
  refine reg_take (i := 28) (d := some 43) (v := ?_) rfl rfl (by kernel_rfl) (by kernel_rfl) (by kernel_rfl) (fun _ _ _ h => h) (Or.inl ⟨by rfl, ?_⟩) ?_
  rotate_left
  · intro w' hx; (go_simp <;> with_reducible rfl)
  simp only [Act.put, List.setIfInBounds_toArray, List.set_cons_zero, List.set_cons_succ]
  refine reg_take (i := 29) (d := some 44) (v := ?_) rfl rfl (by kernel_rfl) (by kernel_rfl) (by kernel_rfl) (fun _ _ _ h => h) (Or.inl ⟨by rfl, ?_⟩) ?_
  rotate_left
  · intro w' hx; (go_simp <;> with_reducible rfl)
  simp only [Act.put, List.setIfInBounds_toArray, List.set_cons_zero, List.set_cons_succ]
  refine reg_take (i := 30) (d := some 45) (v := ?_) rfl rfl (by kernel_rfl) (by kernel_rfl) (by kernel_rfl) (fun _ _ _ h => h) (Or.inl ⟨by rfl, ?_⟩) ?_
  rotate_left
  · intro w' hx; (go_simp <;> with_reducible rfl)
  simp only [Act.put, List.setIfInBounds_toArray, List.set_cons_zero, List.set_cons_succ]
  refine reg_take (i := 31) (d := some 46) (v := ?_) rfl rfl (by kernel_rfl) (by kernel_rfl) (by kernel_rfl) (fun _ _ _ h => h) (Or.inl ⟨by rfl, ?_⟩) ?_
  rotate_left
  · intro w' hx; (go_simp <;> with_reducible rfl)
  simp only [Act.put, List.setIfInBounds_toArray, List.set_cons_zero, List.set_cons_succ]
  refine reg_take (i := 32) (d := some 47) (v := ?_) rfl rfl (by kernel_rfl) (by kernel_rfl) (by kernel_rfl) (fun _ _ _ h => h) (Or.inl ⟨by rfl, ?_⟩) ?_
  rotate_left
  · intro w' hx; (go_simp <;> with_reducible rfl)
  simp only [Act.put, List.setIfInBounds_toArray, List.set_cons_zero, List.set_cons_succ]
  refine reg_take (i := 33) (d := some 48) (v := ?_) rfl rfl (by kernel_rfl) (by kernel_rfl) (by kernel_rfl) (fun _ _ _ h => h) (Or.inl ⟨by rfl, ?_⟩) ?_
  rotate_left
  · intro w' hx; (go_simp <;> with_reducible rfl)
  simp only [Act.put, List.setIfInBounds_toArray, List.set_cons_zero, List.set_cons_succ]
  refine reg_take (i := 34) (d := some 49) (v := ?_) rfl rfl (by kernel_rfl) (by kernel_rfl) (by kernel_rfl) (fun _ _ _ h => h) (Or.inl ⟨by rfl, ?_⟩) ?_
  rotate_left
  · intro w' hx; (go_simp <;> with_reducible rfl)
  simp only [Act.put, List.setIfInBounds_toArray, List.set_cons_zero, List.set_cons_succ]
  refine reg_take (i := 35) (d := some 50) (v := ?_) rfl rfl (by kernel_rfl) (by kernel_rfl) (by kernel_rfl) (fun _ _ _ h => h) (Or.inl ⟨by rfl, ?_⟩) ?_
  rotate_left
  · intro w' hx; (go_simp <;> with_reducible rfl)
  simp only [Act.put, List.setIfInBounds_toArray, List.set_cons_zero, List.set_cons_succ]
  refine reg_take (i := 36) (d := some 51) (v := ?_) rfl rfl (by kernel_rfl) (by kernel_rfl) (by kernel_rfl) (fun _ _ _ h => h) (Or.inl ⟨by rfl, ?_⟩) ?_
  rotate_left
  · intro w' hx; (go_simp <;> with_reducible rfl)
  simp only [Act.put, List.setIfInBounds_toArray, List.set_cons_zero, List.set_cons_succ]
  refine reg_take (i := 37) (d := some 52) (v := ?_) rfl rfl (by kernel_rfl) (by kernel_rfl) (by kernel_rfl) (fun _ _ _ h => h) (Or.inl ⟨by rfl, ?_⟩) ?_
  rotate_left
  · intro w' hx; (go_simp <;> with_reducible rfl)
  simp only [Act.put, List.setIfInBounds_toArray, List.set_cons_zero, List.set_cons_succ]
  refine reg_take (i := 38) (d := some 53) (v := ?_) rfl rfl (by kernel_rfl) (by kernel_rfl) (by kernel_rfl) (fun _ _ _ h => h) (Or.inl ⟨by rfl, ?_⟩) ?_
  rotate_left
  · intro w' hx; (go_simp <;> with_reducible rfl)
  simp only [Act.put, List.setIfInBounds_toArray, List.set_cons_zero, List.set_cons_succ]
  refine reg_take (i := 39) (d := some 54) (v := ?_) rfl rfl (by kernel_rfl) (by kernel_rfl) (by kernel_rfl) (fun _ _ _ h => h) (Or.inl ⟨by rfl, ?_⟩) ?_
  rotate_left
  · intro w' hx; (go_simp <;> with_reducible rfl)
  simp only [Act.put, List.setIfInBounds_toArray, List.set_cons_zero, List.set_cons_succ]
  refine reg_take (i := 40) (d := some 55) (v := ?_) rfl rfl (by kernel_rfl) (by kernel_rfl) (by kernel_rfl) (fun _ _ _ h => h) (Or.inl ⟨by rfl, ?_⟩) ?_
  rotate_left
  · intro w' hx; (go_simp <;> with_reducible rfl)
  simp only [Act.put, List.setIfInBounds_toArray, List.set_cons_zero, List.set_cons_succ]
  refine reg_take (i := 41) (d := some 56) (v := ?_) rfl rfl (by kernel_rfl) (by kernel_rfl) (by kernel_rfl) (fun _ _ _ h => h) (Or.inl ⟨by rfl, ?_⟩) ?_
  rotate_left
  · intro w' hx; (go_simp <;> with_reducible rfl)
  simp only [Act.put, List.setIfInBounds_toArray, List.set_cons_zero, List.set_cons_succ]
  refine reg_take (i := 42) (d := some 57) (v := ?_) rfl rfl (by kernel_rfl) (by kernel_rfl) (by kernel_rfl) (fun _ _ _ h => h) (Or.inl ⟨by rfl, ?_⟩) ?_
  rotate_left
  · intro w' hx; (go_simp <;> with_reducible rfl)
  simp only [Act.put, List.setIfInBounds_toArray, List.set_cons_zero, List.set_cons_succ]
  refine reg_take (i := 43) (d := some 58) (v := ?_) rfl rfl (by kernel_rfl) (by kernel_rfl) (by kernel_rfl) (fun _ _ _ h => h) (Or.inl ⟨by rfl, ?_⟩) ?_
  rotate_left
  · intro w' hx; (go_simp <;> with_reducible rfl)
  simp only [Act.put, List.setIfInBounds_toArray, List.set_cons_zero, List.set_cons_succ]
  refine reg_one 44 _ (by kernel_rfl) rfl ?_
  intro K hK
  go_simp
  go_wp2_with (go_at_call 71; (with_reducible refine (HSr.out _).mono ?_); rintro e ws ⟨A2, n2, c2', rfl, o, hbm⟩; replace hb := hb.trans (hbm.mono hb.size); have hj := o.row; have hjl := hj.len; rw [srB_len] at hjl; subst hjl; clear o)
  refine hK.out _ _ hbm ?_
  clear hK K
  refine reg_one 45 _ (by kernel_rfl) rfl ?_
  intro K hK
  go_simp
  go_wp2_with (go_at_call 13; refine (same_any _ _ _ _ _ _ _ _ _ (Hp8.out.below hb) hj (by omega) (by omega)).mono ?_; rintro e wm ⟨rfl, q, hw⟩; rw [HSS.out]; have hbm : Ext ws wm := (by rw [hw]; exact below_drewN (Below.refl _ _) q); replace hb := hb.trans (Below.mono hbm hb.size); clear hw hj)
  refine hK.out _ _ hbm ?_
  clear hK K
  refine reg_take (i := 46) (d := some 61) (v := ?_) rfl rfl (by kernel_rfl) (by kernel_rfl) (by kernel_rfl) (fun _ _ _ h => h) (Or.inl ⟨by rfl, ?_⟩) ?_
  rotate_left
  · intro w' hx; (go_simp <;> with_reducible rfl)
  simp only [Act.put, List.setIfInBounds_toArray, List.set_cons_zero, List.set_cons_succ]
  refine reg_take (i := 47) (d := some 62) (v := ?_) rfl rfl (by kernel_rfl) (by kernel_rfl) (by kernel_rfl) (fun _ _ _ h => h) (Or.inl ⟨by rfl, ?_⟩) ?_
  rotate_left
  · intro w' hx; (go_simp <;> with_reducible rfl)
  simp only [Act.put, List.setIfInBounds_toArray, List.set_cons_zero, List.set_cons_succ]
  refine reg_take (i := 48) (d := some 63) (v := ?_) rfl rfl (by kernel_rfl) (by kernel_rfl) (by kernel_rfl) (fun _ _ _ h => h) (Or.inl ⟨by rfl, ?_⟩) ?_
  rotate_left
  · intro w' hx; (go_simp <;> with_reducible rfl)
  simp only [Act.put, List.setIfInBounds_toArray, List.set_cons_zero, List.set_cons_succ]
  refine reg_take (i := 49) (d := some 64) (v := undef) rfl rfl (by kernel_rfl) (by kernel_rfl) (by kernel_rfl) (fun _ _ _ h => h) (Or.inr ⟨by rfl, rfl⟩) ?_
  simp only [Act.put, List.setIfInBounds_toArray, List.set_cons_zero, List.set_cons_succ]
  refine reg_take (i := 50) (d := some 65) (v := undef) rfl rfl (by kernel_rfl) (by kernel_rfl) (by kernel_rfl) (fun _ _ _ h => h) (Or.inr ⟨by rfl, rfl⟩) ?_
  simp only [Act.put, List.setIfInBounds_toArray, List.set_cons_zero, List.set_cons_succ]
  refine reg_take (i := 51) (d := some 66) (v := undef) rfl rfl (by kernel_rfl) (by kernel_rfl) (by kernel_rfl) (fun _ _ _ h => h) (Or.inr ⟨by rfl, rfl⟩) ?_
  simp only [Act.put, List.setIfInBounds_toArray, List.set_cons_zero, List.set_cons_succ]
  refine reg_take (i := 52) (d := some 67) (v := undef) rfl rfl (by kernel_rfl) (by kernel_rfl) (by kernel_rfl) (fun _ _ _ h => h) (Or.inr ⟨by rfl, rfl⟩) ?_
  simp only [Act.put, List.setIfInBounds_toArray, List.set_cons_zero, List.set_cons_succ]
  refine reg_one 53 _ (by kernel_rfl) rfl ?_
  intro K hK
  go_simp
  refine hK.out _ _ (Ext.refl _) ?_
  clear hK K
  try simp only [Act.put, List.setIfInBounds_toArray, List.set_cons_zero, List.set_cons_succ]
  refine reg_take (i := 54) (d := some 69) (v := undef) rfl rfl (by kernel_rfl) (by kernel_rfl) (by kernel_rfl) (fun _ _ _ h => h) (Or.inr ⟨by rfl, rfl⟩) ?_
  simp only [Act.put, List.setIfInBounds_toArray, List.set_cons_zero, List.set_cons_succ]
  refine reg_take (i := 55) (d := some 70) (v := ?_) rfl rfl (by kernel_rfl) (by kernel_rfl) (by kernel_rfl) (fun _ _ _ h => h) (Or.inl ⟨by rfl, ?_⟩) ?_
  rotate_left
  · intro w' hx; (go_simp <;> with_reducible rfl)
  simp only [Act.put, List.setIfInBounds_toArray, List.set_cons_zero, List.set_cons_succ]
  refine reg_take (i := 56) (d := some 71) (v := ?_) rfl rfl (by kernel_rfl) (by kernel_rfl) (by kernel_rfl) (fun _ _ _ h => h) (Or.inl ⟨by rfl, ?_⟩) ?_
  rotate_left
  · intro w' hx; (go_simp <;> with_reducible rfl)
  simp only [Act.put, List.setIfInBounds_toArray, List.set_cons_zero, List.set_cons_succ]
  refine reg_take (i := 57) (d := some 72) (v := undef) rfl rfl (by kernel_rfl) (by kernel_rfl) (by kernel_rfl) (fun _ _ _ h => h) (Or.inr ⟨by rfl, rfl⟩) ?_
  simp only [Act.put, List.setIfInBounds_toArray, List.set_cons_zero, List.set_cons_succ]
  refine reg_take (i := 58) (d := some 73) (v := undef) rfl rfl (by kernel_rfl) (by kernel_rfl) (by kernel_rfl) (fun _ _ _ h => h) (Or.inr ⟨by rfl, rfl⟩) ?_
  simp only [Act.put, List.setIfInBounds_toArray, List.set_cons_zero, List.set_cons_succ]
  refine reg_take (i := 59) (d := some 74) (v := undef) rfl rfl (by kernel_rfl) (by kernel_rfl) (by kernel_rfl) (fun _ _ _ h => h) (Or.inr ⟨by rfl, rfl⟩) ?_
  simp only [Act.put, List.setIfInBounds_toArray, List.set_cons_zero, List.set_cons_succ]
  refine reg_take (i := 60) (d := some 75) (v := undef) rfl rfl (by kernel_rfl) (by kernel_rfl) (by kernel_rfl) (fun _ _ _ h => h) (Or.inr ⟨by rfl, rfl⟩) ?_
  simp only [Act.put, List.setIfInBounds_toArray, List.set_cons_zero, List.set_cons_succ]
  refine reg_one 61 _ (by kernel_rfl) rfl ?_
  intro K hK
  go_simp
  refine hK.out _ _ (Ext.refl _) ?_
  clear hK K
  try simp only [Act.put, List.setIfInBounds_toArray, List.set_cons_zero, List.set_cons_succ]
  refine reg_take (i := 62) (d := some 77) (v := undef) rfl rfl (by kernel_rfl) (by kernel_rfl) (by kernel_rfl) (fun _ _ _ h => h) (Or.inr ⟨by rfl, rfl⟩) ?_
  simp only [Act.put, List.setIfInBounds_toArray, List.set_cons_zero, List.set_cons_succ]
  refine reg_take (i := 63) (d := some 78) (v := ?_) rfl rfl (by kernel_rfl) (by kernel_rfl) (by kernel_rfl) (fun _ _ _ h => h) (Or.inl ⟨by rfl, ?_⟩) ?_
  rotate_left
  · intro w' hx; (go_simp <;> with_reducible rfl)
  simp only [Act.put, List.setIfInBounds_toArray, List.set_cons_zero, List.set_cons_succ]
  refine wpAnyH_done (by kernel_rfl) ?_ _
  go_wp2
  go_ret2
  rw [HT.out.1, HT.out.2]
  exact ⟨rfl, hb⟩

end Go.Proofs.Ythkaeimpflggjaa
