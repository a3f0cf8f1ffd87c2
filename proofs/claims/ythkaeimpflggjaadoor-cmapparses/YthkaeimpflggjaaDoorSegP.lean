/- seg: the numbers of a table, how many segments: contracts over this seat's translation. -/
import Derived.Test.YthkaeimpflggjaaDoorSegM
import Derived.Test.YthkaeimpflggjaaDoorShelf5
import Derived.Test.YthkaeimpflggjaaDoorGrpP
import Derived.Test.YthkaeimpflggjaaDoorXor
import Derived.RegionTactic
import Derived.ChangeAlike
import Derived.BigRegion
import Derived.Deep.QuietTactic
import Derived.BigQuiet
import Derived.Deep.WholeRow
namespace Go.Proofs.YthkaeimpflggjaaDoor
open Go.RowKit
set_option linter.unusedVariables false

theorem Tryd.u16info : (Tryd.prog.info? 43).map (fun i => (i.zero, i.size, i.bytes)) = some (some (.int .u16 0), 1, 2) := by kernel_rfl

def arrV (l : List Int) : Value := .agg (cellsOf .u16 l).toArray

set_option maxRecDepth 100000 in
set_option maxHeartbeats 4000000 in
theorem ssearch_any (n : Nat) (w : World) (h0 : 1 ≤ n) (h1 : n < 32768) : Calls Tryd.prog 61 #[.int .i64 n] w (Ret w (arrV (srL n))) := by
  obtain ⟨h3, h4⟩ := expoS_spec n h0
  have h2 := expoS_lt n h0 h1
  have hb : Lib.bitLen n = expoS n + 1 := by
    have h5 : n / 2 ^ expoS n = 1 := by
      rw [Nat.pow_succ] at h4
      have := Nat.pos_of_ne_zero (Nat.ne_of_gt (Nat.two_pow_pos (expoS n)))
      exact (Nat.div_eq_iff this).2 (by omega)
    rw [Lib.bitLen_shift (expoS n) n h3 (by omega), h5]
    rfl
  have hlen := fun W : World => Any.bits_Len Tryd.layLen (n : Int) W (by omega) (by omega)
  change ∀ W, Calls Tryd.prog 74 _ _ _ at hlen
  simp only [Int.toNat_natCast, hb] at hlen
  have HL := Lib.hid hlen
  have H : Hid (srL n = [(2 * ((2 ^ expoS n : Nat) : Int) : Int), (expoS n : Int), 2 * (n : Int) - 2 * ((2 ^ expoS n : Nat) : Int)]) := rfl
  have hA := (Below.refl w.heap.size w).alloc (Nat.le_refl _) (.cells #[.int .u16 0, .int .u16 0, .int .u16 0] 117)
  have SI : Hid ((Tryd.prog.info? 117).map (·.size) = some 3) := by show _ = _; kernel_rfl
  clear hlen hb hA
  generalize expoS n = q at *
  rcases q with _ | _ | _ | _ | _ | _ | _ | _ | _ | _ | _ | _ | _ | _ | _ | q
  case succ.succ.succ.succ.succ.succ.succ.succ.succ.succ.succ.succ.succ.succ.succ => omega
  all_goals
    simp only [Nat.reducePow, Nat.reduceAdd, Nat.zero_add] at h3 h4
    go_enter Tryd.func61, Tryd.ntmps61
    go_wp2_with fail
    refine (HL.out _).mono ?_
    rintro e w' ⟨rfl, rfl⟩
    go_wp2
    exact bodyPost_ret (results_cell_row Tryd.results61 _ _ w.heap.size 117 _ (0, 0) _ rfl (heap_alloc_new w _) Tryd.underlying117 rfl SI.out) rfl ⟨by rw [H.out]; simp [arrV, cellsOf], (Below.refl _ _).alloc (Nat.le_refl _) _⟩

/-- How many numbers. -/
def sM (zs : List Int) : Nat := (n2at zs 2 / 2).toNat

/-- What reading the numbers leaves. -/
def RetNs (w : World) (zs : List Int) (e : Ending) (w' : World) : Prop :=
  Below w.heap.size w w' ∧ ((sFront zs = false ∧ e = .returned (.tuple #[.slice none 0 0, .bool false])) ∨
    (sFront zs = true ∧ ∃ g, e = .returned (.tuple #[.slice (some ⟨g, 0, none⟩) (sM zs) (sM zs), .bool true]) ∧ Own 43 .u16 w' w.heap.size (some ⟨g, 0, none⟩) (sM zs) (sM zs) (nums zs (sM zs))))

/-- A Reader, and a fresh row of numbers beside it. -/
structure NP (w wr : World) (b : Nat) (zs : List Int) (i gp n : Nat) (l : List Int) : Prop where
  rd : RdQ wr w.heap.size b zs i
  own : Own 43 .u16 wr w.heap.size (some ⟨gp, 0, none⟩) n n l
  ne : gp ≠ b
  bel : Below w.heap.size w wr
theorem NP.ask {w wr w' : World} {b : Nat} {zs : List Int} {i j gp n : Nat} {l : List Int} (h : NP w wr b zs i gp n l) (hr : RdQ w' w.heap.size b zs j) (hg : wr.grownBy w' (some b)) : NP w w' b zs j gp n l :=
  ⟨hr, h.own.grown hg (fun g e => by simp [blockOf] at e; subst e; intro e; cases e; exact h.ne rfl), h.ne, h.bel.grown hg h.bel.size (fun k e => by cases e; exact h.rd.from_)⟩
theorem NP.set {w wr : World} {b : Nat} {zs : List Int} {i gp n : Nat} {l : List Int} (h : NP w wr b zs i gp n l) (k : Nat) (v : Int) : NP w (wr.setCell ⟨gp, k, none⟩ (.int .u16 v)) b zs i gp n (l.set k v) := by
  obtain ⟨cur, hc⟩ := h.own.block
  exact ⟨rdq_other h.rd hc (by decide) h.ne k _, h.own.set k v, h.ne, below_set (h.own.from_ gp rfl).1 k _ h.bel⟩

set_option maxRecDepth 100000 in
set_option maxHeartbeats 4000000 in
theorem snumbers_any (A : Option Addr) (n c : Nat) (zs : List Int) (w : World) (hr : Row w A n (cellsOf .u8 zs)) (hB : Bytes zs) (hn : n ≤ 1000000) (hc : n ≤ c) :
    Calls Tryd.prog 71 #[.slice A n c] w (RetNs w zs) := by
  obtain ⟨i0, hi, hz0, hz1, hz2⟩ := info_parts Tryd.u16info
  obtain ⟨m, hm, hmn, hm24⟩ : ∃ m : Nat, min (n : Int) 24 = m ∧ m ≤ n ∧ m ≤ 24 := ⟨min n 24, by omega, by omega, by omega⟩
  have hr' : Row w A m (cellsOf .u8 (zs.take 24)) := by rw [show m = min n 24 by omega]; exact row_take16 24 hr
  have hB' : Bytes (zs.take 24) := cut_bytes hB _
  have hl' := hr'.len
  have e0 : n2at (zs.take 24) 0 = n2at zs 0 := n2at_takeG zs 24 0 (by omega)
  have e2 : n2at (zs.take 24) 2 = n2at zs 2 := n2at_takeG zs 24 2 (by omega)
  have k2 := n2at_lt hB 2
  have k0 := n2at_lt hB 0
  have hln := hr.len
  have HF : Hid (sFront zs = (decide (n2at zs 0 = 4) && decide (24 ≤ n2at zs 2) && decide (n2at zs 2 ≤ n) && decide (n2at zs 2 % 2 = 0))) := by show _ = _; unfold sFront; rw [hln]
  have HB := Lib.hid hB
  have HB' := Lib.hid hB'
  have hmc : (m : Int) ≤ (c : Int) := by omega
  have hm0 : (0 : Int) ≤ (m : Int) := by omega
  have HNo : Hid (∀ w', sFront zs = false → Below w.heap.size w w' → RetNs w zs (.returned (.tuple #[.slice none 0 0, .bool false])) w') := fun w' h1 h2 => ⟨h2, .inl ⟨h1, rfl⟩⟩
  clear hB hB'
  go_enter Tryd.func71, Tryd.ntmps71
  go_wp2_with fail
  refine (new_any A m _ _ w hr' (by omega)).mono ?_
  rintro e w1 ⟨b, rfl, hrd, hb1⟩
  have hq := RdQ.new hrd
  have hr1 := hr.below hb1
  clear hrd hr' hm
  go_wp2_with fail
  with_reducible refine (rdq_u16 hq HB'.out (by omega)).mono ?_
  rintro e w2 ⟨rfl, hq2, hg2⟩
  have hb2 := hb1.grown hg2 hb1.size (fun k e => by cases e; exact hq.from_)
  clear hq hg2 hb1
  simp only [Nat.zero_add] at hq2
  rw [e0]
  go_wp2_with fail
  with_reducible refine (rdq_u16 hq2 HB'.out (by omega)).mono ?_
  rintro e w3 ⟨rfl, hq3, hg3⟩
  have hb3 := hb2.grown hg3 hb2.size (fun k e => by cases e; exact hq2.from_)
  clear hq2 hg3 hb2 hq3
  rw [e2]
  have hr3 := hr.below hb3
  clear e0 e2 hr1 hr hl'
  by_cases h1 : n2at zs 0 = 4
  · have b1 : (n2at zs 0 == 4) = true := by simp [h1]
    by_cases h2 : 24 ≤ n2at zs 2
    · by_cases h3 : n2at zs 2 ≤ n
      · by_cases h4 : n2at zs 2 % 2 = 0
        · have HT : Hid (sFront zs = true) := by show _ = _; rw [HF.out]; simp [h1, h2, h3, h4]
          obtain ⟨M, hM⟩ : ∃ M : Nat, n2at zs 2 / 2 = (M : Int) := ⟨(n2at zs 2 / 2).toNat, by omega⟩
          have hS : n2at zs 2 = 2 * (M : Int) := by omega
          have HM : Hid (sM zs = M) := by show _ = _; unfold sM; omega
          have b4 : (2 * (M : Int) % 2 != 0) = false := by simp
          have hps : Row w3 A (2 * M) (cellsOf .u8 (zs.take (2 * M))) := by rw [← cellsOf_take]; exact hr3.take (by omega)
          have hBp : Bytes (zs.take (2 * M)) := take_bytes HB.out _
          have hAt : ∀ i, i < M → n2at (zs.take (2 * M)) (2 * i) = n2at zs (2 * i) := fun i hi => n2at_takeG zs _ _ (by omega)
          have hpl := hps.len
          have HBp := Lib.hid hBp
          have HAt := Lib.hid hAt
          have hd2 : 2 * (M : Int) / 2 = (M : Int) := by omega
          have hb3s := hb3.size
          rw [hS] at h2 h3 k2 ⊢
          clear HF HNo h1 h4 hM hBp hAt hr3 k0 hS
          have b1' := b1
          generalize n2at zs 0 = v0 at *
          have hMc : 2 * (M : Int) ≤ (c : Int) := by omega
          have hM0 : (0 : Int) ≤ 2 * (M : Int) := by omega
          have hMi : ((2 * M : Nat) : Int) = 2 * (M : Int) := by omega
          generalize zs.take (2 * M) = ps at *
          go_wp2_with fail
          with_reducible refine (new_any _ _ _ ps _ hps (by omega)).mono ?_
          rintro e w4 ⟨b', rfl, hrd, hb4⟩
          have hlt4 := hrd.lt
          have hb4w := hb3.trans (hb4.mono hb3.size)
          have hb4s := hb4.size
          clear hps
          go_wp2_with (at_make; refine wpList_make_ints rfl (.tmp 43) (.tmp 43) _ rfl 43 .u16 w.heap.size i0 2 Tryd.underlying22 hi hz0 hz1 hz2 _ _ M M rfl rfl (by omega) (by omega) (Nat.le_refl _) (by omega) (by omega) hb4w.size ?_; intro w5 hown5 hg5)
          have hs : NP w w5 b' ps (2 * 0) w4.heap.size M (nums zs 0 ++ List.replicate (M - 0) 0) :=
            ⟨(RdQ.new (hrd.mono hb3s)).keep hg5.size (fun q hq _ _ => hg5.block q hq (by simp)), hown5, by omega, hb4w.grown hg5 hb4w.size (fun k e => by cases e)⟩
          clear hown5 hg5 hrd hb4 hb4w hb3 b1 b1' b4 hlt4
          generalize w4.heap.size = gp at *
          go_loopw [47] (fun i wr => ∃ k : Nat, k ≤ M ∧ i = .int .i64 k ∧ NP w wr b' ps (2 * k) gp M (nums zs k ++ List.replicate (M - k) 0)) (fun i _ => M - (intOf i).toNat)
          case atStart => exact ⟨0, Nat.zero_le _, rfl, hs⟩
          case round =>
            clear hs
            obtain ⟨k, hk, rfl, hs⟩ := hrel
            by_cases hlt : k < M
            · have hx := HAt.out k hlt
              have HR := Lib.hid (rdq_u16 hs.rd HBp.out (by omega))
              rw [hx] at HR
              have HSet := Lib.hid (nums_set zs M k hlt)
              clear hx
              go_wp2_with fail
              with_reducible refine HR.out.mono ?_
              rintro e w6 ⟨rfl, hr6, hg6⟩
              have hs6 := hs.ask hr6 hg6
              clear hs hr6 hg6 HR
              have hs7 := hs6.set k (n2at zs (2 * k))
              rw [HSet.out] at hs7
              have H7 := Lib.hid hs7
              obtain ⟨z, hz⟩ := getP (l := nums zs k ++ List.replicate (M - k) 0) (j := k) (by simp [nums_len]; omega)
              obtain ⟨gg, off, e', _, c0⟩ := hs6.own.row.at (j := k) (u := .int .u16 z) (cellsOf_get hz)
              simp only [Option.some.injEq, Addr.mk.injEq, and_true] at e'
              obtain ⟨rfl, rfl⟩ := e'
              rw [Nat.zero_add] at c0
              have f0 := hs6.own.thaw
              clear hs7 hz hs6
              generalize n2at zs (2 * k) = v at *
              go_wp2
              go_roundw
              case rel => exact ⟨k + 1, by omega, by go_num, (show 2 * k + 2 = 2 * (k + 1) by omega) ▸ H7.out⟩
              case measure => simp [intOf]; omega
            · obtain rfl : k = M := by omega
              have ho := hs.own
              rw [Nat.sub_self, List.replicate_zero, List.append_nil] at ho
              go_wp2
              go_ret2
              exact ⟨hs.bel, .inr ⟨HT.out, gp, (by rw [HM.out]; rfl), (by rw [HM.out]; exact ho)⟩⟩
        · have HT : Hid (sFront zs = false) := by show _ = _; rw [HF.out]; simp [h4]
          have b4 : (n2at zs 2 % 2 != 0) = true := by simp [h4]
          clear h4 HF
          go_wp2
          go_ret2
          exact HNo.out _ HT.out hb3
      · have HT : Hid (sFront zs = false) := by show _ = _; rw [HF.out]; simp [h3]
        clear HF
        go_wp2
        go_ret2
        exact HNo.out _ HT.out hb3
    · have HT : Hid (sFront zs = false) := by show _ = _; rw [HF.out]; simp [h2]
      clear HF
      go_wp2
      go_ret2
      exact HNo.out _ HT.out hb3
  · have HT : Hid (sFront zs = false) := by show _ = _; rw [HF.out]; simp [h1]
    have b1 : (n2at zs 0 == 4) = false := by simp [h1]
    clear HF h1
    go_wp2
    go_ret2
    exact HNo.out _ HT.out hb3

end Go.Proofs.YthkaeimpflggjaaDoor
