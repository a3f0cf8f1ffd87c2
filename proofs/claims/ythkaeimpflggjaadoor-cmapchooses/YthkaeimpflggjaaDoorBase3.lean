/- What the laws of this seat lean on: GrpQ GrpB WrBox GrpC GrpT GrpR LGrpP Shelf5 Xor SegP JoinN. -/
import Derived.Deep.WholeRow
import Derived.RegionTactic
import Derived.ChangeAlike
import Derived.BigRegion
import Derived.Deep.QuietTactic
import Derived.BigQuiet
import Derived.Deep.RegionHeld3
import Derived.Deep.DeepCutAuto
import Derived.Shelf.Small.Bits
import Derived.Ground.NamesProg
import Derived.Shelf.SlGeneric
import Derived.Test.YthkaeimpflggjaaDoorProg
import Derived.Laws.StructEq
import Derived.Test.YthkaeimpflggjaaDoorBase1
import Derived.Test.YthkaeimpflggjaaDoorBase2

/- group.Parse, Groups and Look, as contracts over this seat's translation. -/
namespace Go.Proofs.YthkaeimpflggjaaDoor
open Go.RowKit
set_option linter.unusedVariables false

def encG (x : Rn) : List Value := [.int .i32 x.a, .int .i32 x.b, .int .u16 x.g]
theorem encG_len (x : Rn) : (encG x).length = 3 := rfl
theorem encG_one (x : Rn) : ∀ u ∈ encG x, u.oneCell' = true := by intro u hu; simp [encG] at hu; rcases hu with rfl | rfl | rfl <;> rfl
theorem Tryd.grpinfo : (Tryd.prog.info? 94).map (fun i => (i.zero, i.size, i.bytes)) = some (some (.agg #[.int .i32 0, .int .i32 0, .int .u16 0]), 3, 12) := by kernel_rfl

theorem Tryd.grpsize : (Tryd.prog.info? 94).map (·.size) = some 3 := by kernel_rfl

theorem one3 (a b c : Int) : (#[Value.int .i32 a, .int .i32 b, .int .u16 c].all (·.oneCell')) = true := by
  rw [← Array.all_toList]
  rfl

theorem grp3 (a b c : Int) : (Tryd.prog.info? 94).map (·.size) = some (#[Value.int .i32 a, .int .i32 b, .int .u16 c]).size ∧ (#[Value.int .i32 0, .int .i32 0, .int .u16 0]).size = (#[Value.int .i32 a, .int .i32 b, .int .u16 c]).size ∧ (#[Value.int .i32 a, .int .i32 b, .int .u16 c].all (·.oneCell')) = true :=
  ⟨Tryd.grpsize, rfl, one3 a b c⟩

theorem atG {w : World} {A : Option Addr} {n : Nat} {l : List Rn} {j : Nat} {x : Rn} (h : RowS encG 3 w A n l) (hj : l[j]? = some x) :
    ∃ g off, A = some ⟨g, off, none⟩ ∧ g < w.heap.size ∧ w.cell? ⟨g, off + j * 3, none⟩ = some (.int .i32 x.a) ∧ w.cell? ⟨g, off + j * 3 + 1, none⟩ = some (.int .i32 x.b) ∧ w.cell? ⟨g, off + j * 3 + 2, none⟩ = some (.int .u16 x.g) := by
  obtain ⟨g, off, e, hg, hc⟩ := h.at encG_len (by omega) hj
  exact ⟨g, off, e, hg, hc 0 _ rfl, hc 1 _ rfl, hc 2 _ rfl⟩

/-- The result's cell, a Reader, and a fresh row of groups beside them. -/
structure GP (w wr : World) (b : Nat) (zs : List Int) (i gp n : Nat) (l : List Rn) : Prop where
  rd : RdQ wr w.heap.size b zs i
  own : OwnS 94 encG 3 wr w.heap.size (some ⟨gp, 0, none⟩) n n l
  box : wr.heap[w.heap.size]? = some (.cells #[.slice none 0 0] 32 (0, 0))
  ne : gp ≠ b
  n1 : w.heap.size ≠ b
  n2 : w.heap.size ≠ gp
  bel : Below w.heap.size w wr

section
variable {w wr w' : World} {b : Nat} {zs : List Int} {i j gp n : Nat} {l : List Rn}
theorem GP.ask (h : GP w wr b zs i gp n l) (hr : RdQ w' w.heap.size b zs j) (hg : wr.grownBy w' (some b)) : GP w w' b zs j gp n l :=
  ⟨hr, h.own.grown hg (fun g e => by simp [blockOf] at e; subst e; intro e; cases e; exact h.ne rfl), (hg.block _ (lt_of_block h.box) (by intro e; cases e; exact h.n1 rfl)).trans h.box, h.ne, h.n1, h.n2, h.bel.grown hg h.bel.size (fun k e => by cases e; exact h.rd.from_)⟩
theorem GP.drew (h : GP w wr b zs i gp n l) : GP w wr.drew b zs i gp n l := ⟨h.rd.drew, h.own.drew, h.box, h.ne, h.n1, h.n2, h.bel.drew⟩
theorem GP.below (h : GP w wr b zs i gp n l) (hb : Below wr.heap.size wr w') : GP w w' b zs i gp n l :=
  ⟨h.rd.below hb, h.own.below hb, kept_block h.box hb, h.ne, h.n1, h.n2, h.bel.trans (hb.mono h.bel.size)⟩
theorem GP.set (h : GP w wr b zs i gp n l) (k : Nat) (hk : k < n) (m : Rn) : GP w (setCells wr gp (k * 3) (encG m)) b zs i gp n (l.set k m) := by
  have hblk : ∃ cur, wr.heap[gp]? = some (.cells cur 94 (0, 0)) := by
    rcases h.own.shape with ⟨e, _⟩ | ⟨g', cur, e, _, _, hh, _⟩
    · cases e
    · simp only [Option.some.injEq, Addr.mk.injEq, and_true] at e
      subst e
      exact ⟨cur, hh⟩
  obtain ⟨cur, hc⟩ := hblk
  refine ⟨h.rd.keep (by rw [setCells_size]; exact Nat.le_refl _) (fun g hg _ ho => setCells_block (by
      rintro rfl
      rcases ho with e | ⟨cur', hc'⟩
      · exact h.ne e
      · rw [hc] at hc'
        simp at hc') _ _ _), ownS_store encG_len h.own hk m, (setCells_block h.n2 _ _ _).trans h.box, h.ne, h.n1, h.n2, setCells_below (h.own.from_ gp rfl).1 _ _ _ h.bel⟩
end

def gmV (A : Option Addr) (n c : Nat) : Value := .agg #[.slice A n c]

/-- What Parse leaves. -/
def RetGP (w : World) (zs : List Int) (e : Ending) (w' : World) : Prop :=
  Below w.heap.size w w' ∧ ((gRight zs = false ∧ e = .returned (.tuple #[gmV none 0 0, .int .i64 2])) ∨
    (gRight zs = true ∧ ∃ A c, e = .returned (.tuple #[gmV A (gN zs) c, .int .i64 0]) ∧ OwnS 94 encG 3 w' w.heap.size A (gN zs) c (grps zs (gN zs))))

set_option maxRecDepth 100000 in
set_option maxHeartbeats 2000000 in
theorem gparse_any (A : Option Addr) (n c : Nat) (zs : List Int) (w : World) (hr : Row w A n (cellsOf .u8 zs)) (hB : Bytes zs) (hn : n ≤ 1000000) (hc : n ≤ c) :
    Calls Tryd.prog 51 #[.slice A n c] w (RetGP w zs) := by
  have SI : Hid ((Tryd.prog.info? 32).map (·.size) = some 1) := by show _ = _; kernel_rfl
  obtain ⟨i0, hi, hz0, hz1, hz2⟩ := info_parts Tryd.grpinfo
  have hA : Below w.heap.size w (w.alloc (.cells #[.slice none 0 0] 32)) := (Below.refl _ _).alloc (Nat.le_refl _) _
  have hk := heap_alloc_new w (.cells #[.slice none 0 0] 32)
  have HC := Lib.hid (gcount_any A n c zs _ (hr.below hA) hB hn hc)
  have Hn := Lib.hid hr.len
  go_enter Tryd.func51, Tryd.ntmps51
  go_wp2_with fail
  with_reducible refine HC.out.mono ?_
  rintro e w1 ⟨rfl, hb1⟩
  have hk1 := kept_block hk hb1
  have hbw := hA.trans (hb1.mono hA.size)
  have hr1 := hr.below hbw
  have hs1 : w.heap.size < w1.heap.size := lt_of_block hk1
  clear hk hb1 hA hr HC
  have c0 : w1.cell? ⟨w.heap.size, 0, none⟩ = some (.slice none 0 0) := cell_of_row w1 _ 0 _ _ _ hk1
  have f0 := thawed hk1
  have HE : Hid (∀ v0 : Value, (w1.setCell ⟨w.heap.size, 0, none⟩ v0).heap[w.heap.size]? = some (.cells #[v0] 32 (0, 0)) ∧ Below w.heap.size w (w1.setCell ⟨w.heap.size, 0, none⟩ v0)) := by
    show ∀ _, _
    intro v0
    exact ⟨set_block hk1 0 v0, below_set (Nat.le_refl _) _ _ hbw⟩
  cases hf : gFront zs with
  | false =>
    have HF := Lib.hid (gRight_front hf)
    clear hf
    go_wp2
    obtain ⟨s1, s2⟩ := HE.out (.slice none 0 0)
    exact bodyPost_ret (v := .tuple #[gmV none 0 0, .int .i64 2]) (results_two2 Tryd.results51 _ _ w.heap.size 32 _ (0, 0) _ rfl rfl s1 Tryd.underlying32 rfl SI.out) rfl ⟨s2, .inl ⟨HF.out, rfl⟩⟩
  | true =>
    clear HE
    have HF := Lib.hid (gRight_is hf)
    have hcv : gCnt zs = (gN zs : Int) := by have := n4at_lt hB 12; unfold gCnt gN; rw [hf, if_pos rfl]; omega
    have hlen : 16 + 12 * gN zs ≤ n := by
      have h12 := n4at_lt hB 12
      have := hr1.len
      simp [gFront] at hf
      unfold gN
      omega
    obtain ⟨g, off, rfl, hgl, _⟩ := hr1.2 (by omega)
    have hps : Row w1 ((some ⟨g, off, none⟩ : Option Addr).map (·.add 16)) (16 + 12 * gN zs - 16) (cellsOf .u8 ((zs.take (16 + 12 * gN zs)).drop 16)) := by
      have := (hr1.take hlen).drop 16
      rw [cellsOf_take, cellsOf_drop] at this
      exact this
    have hAt : ∀ i, i < gN zs → gAt zs i = ⟨n4at ((zs.take (16 + 12 * gN zs)).drop 16) (12 * i), n4at ((zs.take (16 + 12 * gN zs)).drop 16) (12 * i + 4), n4at ((zs.take (16 + 12 * gN zs)).drop 16) (12 * i + 8)⟩ := by
      intro i hi
      unfold gAt
      rw [n4at_dropG, n4at_dropG, n4at_dropG, n4at_takeG _ _ _ (by omega), n4at_takeG _ _ _ (by omega), n4at_takeG _ _ _ (by omega)]
      rw [show 16 + (12 * i + 4) = 20 + 12 * i by omega, show 16 + (12 * i + 8) = 24 + 12 * i by omega]
    have hBp : Bytes ((zs.take (16 + 12 * gN zs)).drop 16) := drop_bytes (cut_bytes hB _) 16
    have HB := Lib.hid hB
    have HBp := Lib.hid hBp
    have HAt := Lib.hid hAt
    have hpl : ((zs.take (16 + 12 * gN zs)).drop 16).length ≤ 1000000 := by rw [List.length_drop, List.length_take]; have := Hn.out; omega
    have hRN : Hid (∀ A c (w' : World), gOkK zs (gN zs) = true → OwnS 94 encG 3 w' w.heap.size A (gN zs) c (grps zs (gN zs)) → Below w.heap.size w w' → RetGP w zs (.returned (.tuple #[gmV A (gN zs) c, .int .i64 0])) w') := by
      show ∀ _, _
      exact fun A c w' h1 h2 h3 => ⟨h3, .inr ⟨HF.out.trans h1, A, c, rfl, h2⟩⟩
    have hRB : Hid (∀ (w' : World), gOkK zs (gN zs) = false → Below w.heap.size w w' → RetGP w zs (.returned (.tuple #[gmV none 0 0, .int .i64 2])) w') := by
      show ∀ _, _
      exact fun w' h1 h2 => ⟨h2, .inl ⟨HF.out.trans h1, rfl⟩⟩
    clear hf hB hBp hAt hr1
    rw [hcv]
    generalize (zs.take (16 + 12 * gN zs)).drop 16 = ps at *
    generalize hN : gN zs = N at *
    have hcA : (16 + (N : Int) * 12) ≤ (c : Int) := by omega
    have hps1 : Row w1 (some ⟨g, off + 16, none⟩) (N * 12) (cellsOf .u8 ps) := by
      rw [show 16 + 12 * N - 16 = N * 12 by omega] at hps
      simpa [Addr.add_lit] using hps
    have hps2 : c = 16 → Row w1 (some ⟨g, off, none⟩) (N * 12) (cellsOf .u8 ps) := fun h => by
      have hN0 : N * 12 = 0 := by omega
      rw [hN0] at hps1 ⊢
      have : ps = [] := List.eq_nil_of_length_eq_zero hps1.len
      rw [this]
      exact Row.empty _ _
    have HP2 := Lib.hid hps2
    clear hps hps2
    go_wp2_with fail
    all_goals
      first
        | with_reducible refine (new_any _ _ _ ps _ hps1 (by omega)).mono ?_
        | with_reducible refine (new_any _ _ _ ps _ (HP2.out (by assumption)) (by omega)).mono ?_
      rintro e w2 ⟨b, rfl, hrd, hb2⟩
      have hk2 := kept_block hk1 hb2
      have hbw2 := hbw.trans (hb2.mono hbw.size)
      have hlb := hrd.from_
      have hlt2 := hrd.lt
      have hs2 := hb2.size
      clear c0 f0 hk1 hbw hps1 hb2 HP2
      go_wp2_with (at_make; refine wpList_make_S rfl (.tmp 26) (.tmp 26) _ rfl 94 encG 3 encG_len (by omega) w.heap.size i0 _ ⟨0, 0, 0⟩ 12 Tryd.underlying30 hi hz0 hz1 rfl hz2 _ _ N rfl rfl rfl rfl (by omega) (by omega) hbw2.size ?_; intro w3 hown3 hg3)
      have hs : GP w w3 b ps (12 * 0) w2.heap.size N (grps zs 0 ++ List.replicate (N - 0) ⟨0, 0, 0⟩) :=
        ⟨(RdQ.new (hrd.mono (by omega))).keep hg3.size (fun q hq _ _ => hg3.block q hq (by simp)), hown3, (hg3.block _ (lt_of_block hk2) (by simp)).trans hk2, by omega, by omega, by omega, hbw2.grown hg3 hbw2.size (fun k e => by cases e)⟩
      clear hown3 hg3 hrd hk2 hbw2 hlb hlt2 hs1 hgl hi hz0 hz1 hz2
      generalize w2.heap.size = gp at *
      go_loopw [8, 30] (fun a i wr => ∃ k : Nat, k ≤ N ∧ i = .int .i64 k ∧ a = .int .i32 (gLeast zs k) ∧ Hid (gOkK zs k = true) ∧ GP w wr b ps (12 * k) gp N (grps zs k ++ List.replicate (N - k) ⟨0, 0, 0⟩)) (fun _ i _ => N - (intOf i).toNat)
      case atStart => exact ⟨0, Nat.zero_le _, rfl, rfl, Lib.hid rfl, hs⟩
      case round =>
        clear hs
        obtain ⟨k, hk, rfl, rfl, hok, hs⟩ := hrel
        by_cases hlt : k < N
        · first
            | (exfalso; omega)
            | (
              have hx := HAt.out k hlt
              have HR := Lib.hid (gread_any _ _ _ _ _ hs.rd HBp.out (by omega))
              rw [← hx] at HR
              clear hx
              go_wp2_with fail
              with_reducible refine HR.out.mono ?_
              rintro e w4 ⟨rfl, hr4, hg4⟩
              have hs4 := hs.ask hr4 hg4
              clear hs hr4 hg4 HR
              have hgo : gOkAt zs k = (gOne (gAt zs k) && decide (gLeast zs k ≤ (gAt zs k).a)) := rfl
              have hls : gLeast zs (k + 1) = (gAt zs k).b + 1 := by unfold gLeast gAt; rw [if_neg (by omega), show 8 + 12 * (k + 1) = 20 + 12 * k by omega]
              have hset := fun (w' : World) (h : GP w w' b ps (12 * k + 12) gp N (grps zs k ++ List.replicate (N - k) ⟨0, 0, 0⟩)) => grps_set zs N k ⟨0, 0, 0⟩ hlt ▸ h.set k hlt (gAt zs k)
              have HS := Lib.hid hset
              have HGO := Lib.hid hgo
              have HLS := Lib.hid hls
              clear hgo hls hset
              cases h1 : gOne (gAt zs k) with
              | false =>
                have H1 : Hid (rgV (gAt zs k) = .agg #[.int .i32 0, .int .i32 0, .int .u16 0]) := by show _ = _; unfold rgV rnV; rw [h1]; rfl
                have H2 : Hid (gOkK zs N = false) := gOkK_not hlt (by rw [HGO.out, h1]; rfl)
                rw [H1.out]
                have hA := (Below.refl w4.heap.size w4).alloc (Nat.le_refl _) (.cells #[.int .i32 0, .int .i32 0, .int .u16 0] 94)
                have hs5 := hs4.below hA
                clear h1 H1 HGO HS HLS hok
                have c0 : (w4.alloc (.cells #[.int .i32 0, .int .i32 0, .int .u16 0] 94)).cell? ⟨w.heap.size, 0, none⟩ = some (.slice none 0 0) := cell_of_row _ _ 0 _ _ _ hs5.box
                have f0 := thawed hs5.box
                have K1 := Lib.hid (set_block hs5.box 0 (.slice none 0 0))
                have K2 := Lib.hid (below_set (Nat.le_refl _) 0 (.slice none 0 0) hs5.bel)
                clear hs5 hs4 hA
                go_wp2_with (with_reducible refine wpList_store_row rfl 94 (.tmp 10) (.tmp 36) rfl w4.heap.size #[.int .i32 0, .int .i32 0, .int .u16 0] rfl rfl 94 #[.int .i32 0, .int .i32 0, .int .u16 0] (heap_alloc_new w4 _) (grp3 _ _ _).1 (grp3 _ _ _).2.1 (grp3 _ _ _).2.2 ?_; rw [World.setRow_alloc_new])
                exact bodyPost_ret (v := .tuple #[gmV none 0 0, .int .i64 2]) (results_two2 Tryd.results51 _ _ w.heap.size 32 _ (0, 0) _ rfl rfl K1.out Tryd.underlying32 rfl SI.out) rfl (hRB.out _ H2.out K2.out)
              | true =>
                have H1 : Hid (rgV (gAt zs k) = .agg #[.int .i32 (gAt zs k).a, .int .i32 (gAt zs k).b, .int .u16 (gAt zs k).g]) := by show _ = _; unfold rgV rnV; rw [h1]; rfl
                rw [H1.out]
                have hA := (Below.refl w4.heap.size w4).alloc (Nat.le_refl _) (.cells #[.int .i32 (gAt zs k).a, .int .i32 (gAt zs k).b, .int .u16 (gAt zs k).g] 94)
                have hs5 := hs4.below hA
                have hx2 : (gAt zs k).a ≤ (gAt zs k).b ∧ (gAt zs k).b ≤ 1114111 ∧ (gAt zs k).g + ((gAt zs k).b - (gAt zs k).a) ≤ 65535 := by unfold gOne at h1; exact of_decide_eq_true h1
                have hx0 : 0 ≤ (gAt zs k).a := (n4at_lt HB.out _).1
                by_cases hle : gLeast zs k ≤ (gAt zs k).a
                · have H2 : Hid (gOkK zs (k + 1) = true) := by show _ = _; rw [gOkK_succ, hok.out, HGO.out, h1, decide_eq_true hle]; rfl
                  have H6 := Lib.hid (HS.out _ hs5)
                  obtain ⟨z, hz⟩ : ∃ z, (grps zs k ++ List.replicate (N - k) (⟨0, 0, 0⟩ : Rn))[k]? = some z := ⟨_, List.getElem?_eq_getElem (by simp [grps_len]; omega)⟩
                  obtain ⟨gg, off', e', _, d0, d1, d2⟩ := atG (hs5.own.row encG_len) hz
                  simp only [Option.some.injEq, Addr.mk.injEq, and_true] at e'
                  obtain ⟨rfl, rfl⟩ := e'
                  rw [Nat.zero_add] at d0 d1 d2
                  have f0 := hs5.own.thaw
                  have hne : gp ≠ w4.heap.size := by have := (hs4.own.from_ gp rfl).2; omega
                  unfold encG setCells setCells setCells setCells at H6
                  clear h1 H1 HGO HS hok hz hs5 hA hs4
                  generalize gAt zs k = x at *
                  obtain ⟨xa, xb, xg⟩ := x
                  simp only at *
                  go_wp2_with (with_reducible refine wpList_store_row rfl 94 (.tmp 10) (.tmp 36) rfl w4.heap.size #[.int .i32 xa, .int .i32 xb, .int .u16 xg] rfl rfl 94 #[.int .i32 0, .int .i32 0, .int .u16 0] (heap_alloc_new w4 _) (grp3 _ _ _).1 (grp3 _ _ _).2.1 (grp3 _ _ _).2.2 ?_; rw [World.setRow_alloc_new])
                  have e0 : (w4.alloc (.cells #[.int .i32 xa, .int .i32 xb, .int .u16 xg] 94)).cell? ⟨w4.heap.size, 0, none⟩ = some (.int .i32 xa) := cell_of_row _ _ 0 _ _ _ (heap_alloc_new w4 _)
                  have e1 : (w4.alloc (.cells #[.int .i32 xa, .int .i32 xb, .int .u16 xg] 94)).cell? ⟨w4.heap.size, 1, none⟩ = some (.int .i32 xb) := cell_of_row _ _ 1 _ _ _ (heap_alloc_new w4 _)
                  have e2 : (w4.alloc (.cells #[.int .i32 xa, .int .i32 xb, .int .u16 xg] 94)).cell? ⟨w4.heap.size, 2, none⟩ = some (.int .u16 xg) := cell_of_row _ _ 2 _ _ _ (heap_alloc_new w4 _)
                  generalize w4.alloc (.cells #[.int .i32 xa, .int .i32 xb, .int .u16 xg] 94) = V at *
                  generalize w4.heap.size = bx at *
                  go_region
                  all_goals
                    go_wp2
                    go_roundw
                    case rel => exact ⟨k + 1, by omega, by go_num, by rw [HLS.out], H2, (show 12 * k + 12 = 12 * (k + 1) by omega) ▸ H6.out.drew⟩
                    case measure => simp [intOf]; omega
                · have H2 : Hid (gOkK zs N = false) := gOkK_not hlt (by rw [HGO.out, h1, decide_eq_false hle]; rfl)
                  clear h1 H1 HGO HS hok
                  have c0 : (w4.alloc (.cells #[.int .i32 (gAt zs k).a, .int .i32 (gAt zs k).b, .int .u16 (gAt zs k).g] 94)).cell? ⟨w.heap.size, 0, none⟩ = some (.slice none 0 0) := cell_of_row _ _ 0 _ _ _ hs5.box
                  have f0 := thawed hs5.box
                  have K1 := Lib.hid (set_block hs5.box 0 (.slice none 0 0))
                  have K2 := Lib.hid (below_set (Nat.le_refl _) 0 (.slice none 0 0) hs5.bel)
                  clear hs5 hs4 hA
                  generalize gAt zs k = x at *
                  obtain ⟨xa, xb, xg⟩ := x
                  simp only at *
                  go_wp2_with (with_reducible refine wpList_store_row rfl 94 (.tmp 10) (.tmp 36) rfl w4.heap.size #[.int .i32 xa, .int .i32 xb, .int .u16 xg] rfl rfl 94 #[.int .i32 0, .int .i32 0, .int .u16 0] (heap_alloc_new w4 _) (grp3 _ _ _).1 (grp3 _ _ _).2.1 (grp3 _ _ _).2.2 ?_; rw [World.setRow_alloc_new])
                  exact bodyPost_ret (v := .tuple #[gmV none 0 0, .int .i64 2]) (results_two2 Tryd.results51 _ _ w.heap.size 32 _ (0, 0) _ rfl rfl K1.out Tryd.underlying32 rfl SI.out) rfl (hRB.out _ H2.out K2.out))
        · obtain rfl : k = N := by omega
          have c0 : wr.cell? ⟨w.heap.size, 0, none⟩ = some (.slice none 0 0) := cell_of_row wr _ 0 _ _ _ hs.box
          have f0 := thawed hs.box
          have K1 := Lib.hid (set_block hs.box 0 (.slice (some ⟨gp, 0, none⟩) k k))
          have K2 := Lib.hid (below_set (Nat.le_refl _) 0 (.slice (some ⟨gp, 0, none⟩) k k) hs.bel)
          have K3 : Hid (OwnS 94 encG 3 (wr.setCell ⟨w.heap.size, 0, none⟩ (.slice (some ⟨gp, 0, none⟩) k k)) w.heap.size (some ⟨gp, 0, none⟩) k k (grps zs k)) := by
            have := hs.own
            rw [Nat.sub_self, List.replicate_zero, List.append_nil] at this
            exact this.keep (fun q e => by simp [blockOf] at e; subst e; exact Below.heap_setCell wr _ _ gp (fun e => hs.n2 e.symm))
          clear hs
          go_wp2
          exact bodyPost_ret (v := .tuple #[gmV (some ⟨gp, 0, none⟩) k k, .int .i64 0]) (results_two2 Tryd.results51 _ _ w.heap.size 32 _ (0, 0) _ rfl rfl K1.out Tryd.underlying32 rfl SI.out) rfl (hRN.out _ _ _ hok.out K3.out K2.out)

/-- What the search asks. -/
def pG (l : List Rn) (code : Int) (i : Nat) : Bool := decide (code ≤ (l.getD i default).b)

set_option maxRecDepth 100000 in
set_option maxHeartbeats 1000000 in
theorem gpred_any (A : Option Addr) (n c : Nat) (l : List Rn) (code : Int) (B1 B2 : Nat) (w : World) (hr : RowS encG 3 w A n l) (hn : n ≤ 1000000) (k1 : w.cell? ⟨B1, 0, none⟩ = some (.slice A n c)) (k2 : w.cell? ⟨B2, 0, none⟩ = some (.int .i32 code)) (i : Nat) (hi : i < n) :
    Calls Tryd.prog 55 (#[.int .i64 i] ++ #[.pointer (some ⟨B1, 0, none⟩), .pointer (some ⟨B2, 0, none⟩)]) w (Ret w (.bool (pG l code i))) := by
  obtain ⟨x, hx⟩ := getP (l := l) (j := i) (by have := hr.len; omega)
  obtain ⟨g, off, rfl, hg, d0, d1, d2⟩ := atG hr hx
  have HP : Hid (pG l code i = decide (code ≤ x.b)) := by show _ = _; unfold pG; rw [List.getD_eq_getElem?_getD, hx]; rfl
  clear hr hx
  obtain ⟨xa, xb, xg⟩ := x
  simp only at *
  show Calls Tryd.prog 55 #[.int .i64 i, .pointer (some ⟨B1, 0, none⟩), .pointer (some ⟨B2, 0, none⟩)] w _
  go_enter Tryd.func55, Tryd.ntmps55
  go_wp2
  go_quiet (fail)
  go_wp2
  go_ret
  rw [HP.out]
  exact ⟨rfl, below_drewN (Below.refl _ _) _⟩

theorem pG_get {l : List Rn} {code : Int} {i : Nat} {x : Rn} (h : l[i]? = some x) : pG l code i = decide (code ≤ x.b) := by unfold pG; rw [List.getD_eq_getElem?_getD, h]; rfl

set_option maxRecDepth 100000 in
set_option maxHeartbeats 2000000 in
theorem glook_any (A : Option Addr) (n c : Nat) (l : List Rn) (code : Int) (w : World) (hr : RowS encG 3 w A n l) (hn : n ≤ 1000000) (hok : rnOK 1114111 (-1) l) (hfit : ∀ x ∈ l, 0 ≤ x.a ∧ x.b ≤ 1114111 ∧ 0 ≤ x.g ∧ x.a ≤ x.b ∧ x.g + (x.b - x.a) ≤ 65535) (c0 : -2147483648 ≤ code) (c1 : code ≤ 2147483647) :
    Calls Tryd.prog 33 #[gmV A n c, .int .i32 code] w (Ret w (.int .u16 (lookR l code))) := by
  have hA : Below w.heap.size w ((w.alloc (.cells #[.slice A n c] 32)).alloc (.cells #[.int .i32 code] 21)) := ((Below.refl w.heap.size w).alloc (Nat.le_refl _) _).alloc (by simp) _
  have hB1 : ((w.alloc (.cells #[.slice A n c] 32)).alloc (.cells #[.int .i32 code] 21)).heap[w.heap.size]? = some (.cells #[.slice A n c] 32 (0, 0)) := kept_alloc (heap_alloc_new w _) _
  have hB2 : ((w.alloc (.cells #[.slice A n c] 32)).alloc (.cells #[.int .i32 code] 21)).heap[w.heap.size + 1]? = some (.cells #[.int .i32 code] 21 (0, 0)) := by
    have := heap_alloc_new (w.alloc (.cells #[.slice A n c] 32)) (.cells #[.int .i32 code] 21)
    rwa [show (w.alloc (.cells #[.slice A n c] 32)).heap.size = w.heap.size + 1 by simp] at this
  have eg : ∀ args w, (callFunc 55 args).run Tryd.prog w = .ok (.enter 55 args) w := enters_of Tryd.func55 (by kernel_rfl) rfl
  have Hn := Lib.hid hr.len
  have hS := search_any 55 #[.pointer (some ⟨w.heap.size, 0, none⟩), .pointer (some ⟨w.heap.size + 1, 0, none⟩)] n (pG l code) ((w.alloc (.cells #[.slice A n c] 32)).alloc (.cells #[.int .i32 code] 21)) eg hn (fun W i hi hb =>
    gpred_any A n c l code _ _ W ((hr.below hA).below hb) hn (cell_of_row W _ 0 _ _ _ (kept_block hB1 hb)) (cell_of_row W _ 0 _ _ _ (kept_block hB2 hb)) i hi)
  have HS := Lib.hid hS
  clear hS eg
  unfold gmV
  go_enter Tryd.func33, Tryd.ntmps33
  go_wp2_with fail
  refine HS.out.mono ?_
  rintro e w1 ⟨r, hrn, rfl, hlo, hhi, hb1⟩
  have k1 : w1.cell? ⟨w.heap.size, 0, none⟩ = some (.slice A n c) := cell_of_row w1 _ 0 _ _ _ (kept_block hB1 hb1)
  have k2 : w1.cell? ⟨w.heap.size + 1, 0, none⟩ = some (.int .i32 code) := cell_of_row w1 _ 0 _ _ _ (kept_block hB2 hb1)
  have hbw := hA.trans (hb1.mono hA.size)
  have hfind : findR code l = l[r]? := findR_at l (-1) r hok (fun h0 y hy => by have := hlo h0; rw [pG_get hy] at this; simp at this; omega) (fun y hy => by
    have hl := (List.getElem?_eq_some_iff.1 hy).1
    have := hhi (by have := Hn.out; omega)
    rw [pG_get hy] at this
    simpa using this) (by have := Hn.out; omega)
  have hrw := hr.below hbw
  have hle : r < n → ∀ x, l[r]? = some x → code ≤ x.b := fun h x hx => by have := hhi h; rw [pG_get hx] at this; simpa using this
  clear HS hA hB1 hB2 hb1 hlo hhi hr
  by_cases hlt : r < n
  · have hne : ((r : Int) == (n : Int)) = false := by simp; omega
    obtain ⟨x, hx⟩ := getP (l := l) (j := r) (by have := Hn.out; omega)
    obtain ⟨g, off, rfl, hg, d0, d1, d2⟩ := atG hrw hx
    have hxb := hle hlt x hx
    have hf := hfit x (List.mem_of_getElem? hx)
    have HL : Hid (lookR l code = if x.a ≤ code then (x.g + (code - x.a)) % 65536 else 0) := by show _ = _; unfold lookR; rw [hfind, hx]
    clear hx hfind hle hfit hok hrw
    obtain ⟨xa, xb, xg⟩ := x
    simp only at *
    by_cases hac : xa ≤ code
    · have HL2 : Hid (lookR l code = xg + (code - xa)) := by show _ = _; rw [HL.out, if_pos hac]; omega
      clear HL
      go_wp2
      go_quiet (fail)
      go_wp2
      go_quiet (fail)
      go_wp2
      go_ret
      rw [HL2.out]
      exact ⟨rfl, below_drewN (below_drewN hbw _) _⟩
    · have HL2 : Hid (lookR l code = 0) := by show _ = _; rw [HL.out, if_neg hac]
      clear HL
      go_wp2
      go_quiet (fail)
      go_wp2
      go_ret
      rw [HL2.out]
      exact ⟨rfl, below_drewN hbw _⟩
  · obtain rfl : r = n := by omega
    have hne : ((r : Int) == (r : Int)) = true := by simp
    have HL2 : Hid (lookR l code = 0) := by show _ = _; unfold lookR; rw [hfind, List.getElem?_eq_none (by have := Hn.out; omega)]
    clear hfind hle hfit hok
    go_wp2
    go_quiet (fail)
    go_wp2
    go_ret
    rw [HL2.out]
    exact ⟨rfl, below_drewN hbw _⟩

end Go.Proofs.YthkaeimpflggjaaDoor

/- group.runs, as a contract over this seat's translation. -/
namespace Go.Proofs.YthkaeimpflggjaaDoor
open Go.RowKit
set_option linter.unusedVariables false

theorem flat_end (s : List Rn) (x : Rn) (c : Int) : flat encG (s ++ [⟨x.a, c, x.g⟩]) = (flat encG (s ++ [x])).set (s.length * 3 + 1) (.int .i32 c) := by
  rw [← flat_append, ← flat_append, List.set_append_right _ _ (by rw [flat_length encG_len]; omega), flat_length encG_len, Nat.add_sub_cancel_left]
  rfl

/-- What is asked of pairs. -/
def OkP (l : List Pr) : Prop := ∀ p ∈ l, 0 ≤ p.code ∧ p.code ≤ 2000000000 ∧ 0 ≤ p.glyph ∧ p.glyph ≤ 65535

theorem atP {w : World} {A : Option Addr} {n : Nat} {l : List Pr} {j : Nat} {p : Pr} (h : RowS encP 2 w A n l) (hj : l[j]? = some p) :
    ∃ g off, A = some ⟨g, off, none⟩ ∧ g < w.heap.size ∧ w.cell? ⟨g, off + j * 2, none⟩ = some (.int .i32 p.code) ∧ w.cell? ⟨g, off + j * 2 + 1, none⟩ = some (.int .u16 p.glyph) := by
  obtain ⟨g, off, e, hg, hc⟩ := h.at encP_len (by omega) hj
  exact ⟨g, off, e, hg, hc 0 _ rfl, hc 1 _ rfl⟩

set_option maxRecDepth 100000 in
set_option maxHeartbeats 4000000 in
theorem gruns_any (A : Option Addr) (n c : Nat) (l : List Pr) (w : World) (hr : RowS encP 2 w A n l) (hn : n ≤ 1000000) (hok : OkP l) :
    Calls Tryd.prog 44 #[.slice A n c] w (RetS 94 encG 3 w (runsF folG l)) := by
  obtain ⟨i0, hi, hz0, hz1, hz2⟩ := info_parts Tryd.grpinfo
  have Hn := Lib.hid hr.len
  have Hok := Lib.hid hok
  clear hok
  go_enter Tryd.func44, Tryd.ntmps44
  go_wp2
  go_loopw [3, 8] (fun s i wr => ∃ (k m : Nat) (Ar : Option Addr) (cr : Nat), k ≤ n ∧ i = .int .i64 k ∧ s = .slice Ar m cr ∧ OwnS 94 encG 3 wr w.heap.size Ar m cr (runsF folG (l.take k)) ∧ Below w.heap.size w wr) (fun _ i _ => n - (intOf i).toNat)
  case atStart => exact ⟨0, 0, none, 0, Nat.zero_le _, rfl, rfl, OwnS.nil _ _ _ _ _, Below.refl _ _⟩
  case round =>
    obtain ⟨k, m, Ar, cr, hk, rfl, rfl, hown, hb⟩ := hrel
    by_cases hlt : k < n
    · obtain ⟨p, hp⟩ := getP (l := l) (j := k) (by have := Hn.out; omega)
      obtain ⟨g, off, rfl, hg, q0, q1⟩ := atP (hr.below hb) hp
      have hpo := Hok.out p (List.mem_of_getElem? hp)
      have hm : m ≤ k := by have := hown.len; have h2 := runsF_len folG (l.take k); rw [List.length_take] at h2; omega
      have hA := (Below.refl wr.heap.size wr).alloc (Nat.le_refl _) (.cells #[.int .i32 p.code, .int .u16 p.glyph] 45)
      have hown1 := hown.below hA
      have hb1 := hb.trans (hA.mono hb.size)
      have x0 : (wr.alloc (.cells #[.int .i32 p.code, .int .u16 p.glyph] 45)).cell? ⟨wr.heap.size, 0, none⟩ = some (.int .i32 p.code) := cell_of_row _ _ 0 _ _ _ (heap_alloc_new wr _)
      have x1 : (wr.alloc (.cells #[.int .i32 p.code, .int .u16 p.glyph] 45)).cell? ⟨wr.heap.size, 1, none⟩ = some (.int .u16 p.glyph) := cell_of_row _ _ 1 _ _ _ (heap_alloc_new wr _)
      have hr1 := hr.below hb1
      by_cases h0 : 0 < k
      · obtain ⟨j, rfl⟩ : ∃ j, k = j + 1 := ⟨k - 1, by omega⟩
        obtain ⟨q, hq⟩ := getP (l := l) (j := j) (by have := Hn.out; omega)
        have hqo := Hok.out q (List.mem_of_getElem? hq)
        obtain ⟨g', off', e', _, r0, r1⟩ := atP hr1 hq
        simp only [Option.some.injEq, Addr.mk.injEq, and_true] at e'
        obtain ⟨rfl, rfl⟩ := e'
        obtain ⟨st1, st2⟩ := runs_step folG hq hp
        have HF := Lib.hid (fun W => gfol_any q p W (by omega) (by omega) hqo.2.2.1 hqo.2.2.2 hpo.2.2.1 hpo.2.2.2)
        have ST1 := Lib.hid st1
        have ST2 := Lib.hid st2
        clear st1 st2 hq hp hr1 hown hA
        obtain ⟨pc, pg⟩ := p
        obtain ⟨qc, qg⟩ := q
        simp only [pV] at *
        generalize hfv : folG ⟨qc, qg⟩ ⟨pc, pg⟩ = fv at *
        clear hfv
        have ej : ((j : Int) + 1 - 1) = (j : Int) := by omega
        have ej2 : (((j + 1 : Nat) : Int) - 1) = (j : Int) := by omega
        go_wp2_with fail
        generalize wr.alloc (.cells #[.int .i32 pc, .int .u16 pg] 45) = V at *
        generalize wr.heap.size = bx at *
        have L0 := gw_cell r0
        have L1 := gw_cell r1
        have B0 := gw_cell x0
        have B1 := gw_cell x1
        refine region_below (by kernel_rfl) (by kernel_rfl) ?_
        repeat (first | go_big_quiet_step (first | (go_at_call 67; exact calls_gw (HF.out _))) | quiet_step (first | (go_at_call 67; exact calls_gw (HF.out _))))
        refine wpQuiet_nil ?_
        rintro _ ⟨z, rfl⟩
        have b0 := B0 z.n z.os
        have b1 := B1 z.n z.os
        have hb2 := hb1.trans ((gw_below V z.n z.os).mono hb1.size)
        have hown2 := hown1.below (gw_below V z.n z.os)
        clear L0 L1 B0 B1 HF hown1 hb1 r0 r1 q0 q1 x0 x1
        generalize gw V z.n z.os = U at *
        have hsU := hb2.size
        cases fv with
        | false =>
          have E3 := Lib.hid (ST1.out rfl)
          clear ST1 ST2
          go_wp2_with (at_builtin; refine wpList_append_rowS rfl (.tmp 32) (.tmp 40) _ rfl 94 encG 3 encG_len (by omega) encG_one w.heap.size i0 _ 12 Tryd.underlying30 hi hz0 hz1 rfl hz2 _ m cr _ rfl (hown2.alloc _) (some ⟨U.heap.size, 0, none⟩) 1 1 [⟨pc, pc, pg⟩] rfl (rowS_vals encG_len U 94 [⟨pc, pc, pg⟩] _ rfl 1 rfl) (by omega) (by omega) (by simp; omega) ?_; intro A6 c6 w6 ho6 hg6)
          go_roundw
          case rel => exact ⟨j + 1 + 1, m + 1, A6, c6, by omega, by go_num, rfl, by rw [E3.out]; exact ho6, (hb2.alloc hb2.size _).grown hg6 (hb2.alloc hb2.size _).size (fun q e => (hown2.from_ q e).1)⟩
          case measure => simp [intOf]; omega
        | true =>
          obtain ⟨s, x, e4, e5⟩ := ST2.out rfl
          rw [e4] at hown2
          have hlm : s.length + 1 = m := by have := hown2.len; simpa using this
          subst hlm
          obtain ⟨gr, _, e6, _, d0, d1, d2⟩ := atG (hown2.row encG_len) (j := s.length) (x := x) (by simp)
          rcases hown2.shape with ⟨e7, _⟩ | ⟨g2, _, e7, hg2, _⟩
          · rw [e7] at e6; cases e6
          · rw [e7] at e6
            simp only [Option.some.injEq, Addr.mk.injEq, and_true] at e6
            obtain ⟨rfl, rfl⟩ := e6
            subst e7
            rw [Nat.zero_add] at d0 d1 d2
            have f0 := hown2.thaw
            have E5 := Lib.hid e5
            have O6 : Hid (OwnS 94 encG 3 (U.setCell ⟨g2, s.length * 3 + 1, none⟩ (.int .i32 pc)) w.heap.size (some ⟨g2, 0, none⟩) (s.length + 1) cr (s ++ [⟨x.a, pc, x.g⟩])) := ownS_setCell hown2 (by simp) (flat_end s x pc)
            have B6 := Lib.hid (below_set hg2 (s.length * 3 + 1) (.int .i32 pc) hb2)
            have es : (((s.length + 1 : Nat) : Int) - 1) = (s.length : Int) := by omega
            have es2 : ((s.length : Int) + 1 - 1) = (s.length : Int) := by omega
            clear ST1 ST2 e4 e5 hown2 hb2
            generalize s.length = m at *
            go_wp2
            go_roundw
            case rel => exact ⟨j + 1 + 1, m + 1, some ⟨g2, 0, none⟩, cr, by omega, by go_num, rfl, by rw [E5.out]; exact O6.out, B6.out⟩
            case measure => simp [intOf]; omega
      · obtain rfl : k = 0 := by omega
        have E3 := Lib.hid (runs_first folG hp)
        have hd0 : ¬ (0 : Int) < 0 := by omega
        have hdf : decide ((0 : Int) < 0) = false := by decide
        have er : runsF folG (l.take 0) = [] := by rw [List.take_zero]; rfl
        rw [er] at hown1
        clear hown hA hr1 hp er
        obtain ⟨pc, pg⟩ := p
        simp only at *
        rw [Nat.zero_mul, Nat.add_zero] at q0 q1
        go_wp2_with fail
        generalize wr.alloc (.cells #[.int .i32 pc, .int .u16 pg] 45) = V at *
        generalize wr.heap.size = bx at *
        go_quiet (fail)
        have hb2 := below_drewN hb1 nq
        have hown2 := hown1.drewN nq
        have b0 : (V.drewN nq).cell? ⟨bx, 0, none⟩ = some (.int .i32 pc) := x0
        have b1 : (V.drewN nq).cell? ⟨bx, 1, none⟩ = some (.int .u16 pg) := x1
        clear x0 x1 hown1 hb1 q0 q1
        generalize V.drewN nq = U at *
        have hsU := hb2.size
        go_wp2_with (at_builtin; refine wpList_append_rowS rfl (.tmp 32) (.tmp 40) _ rfl 94 encG 3 encG_len (by omega) encG_one w.heap.size i0 _ 12 Tryd.underlying30 hi hz0 hz1 rfl hz2 _ m cr _ rfl (hown2.alloc _) (some ⟨U.heap.size, 0, none⟩) 1 1 [⟨pc, pc, pg⟩] rfl (rowS_vals encG_len U 94 [⟨pc, pc, pg⟩] _ rfl 1 rfl) (by omega) (by omega) (by simp; omega) ?_; intro A6 c6 w6 ho6 hg6)
        go_roundw
        case rel => exact ⟨0 + 1, m + 1, A6, c6, by omega, by go_num, rfl, by rw [E3.out]; exact ho6, (hb2.alloc hb2.size _).grown hg6 (hb2.alloc hb2.size _).size (fun q e => (hown2.from_ q e).1)⟩
        case measure => simp [intOf]; omega
    · obtain rfl : k = n := by omega
      have E3 : Hid (runsF folG (l.take k) = runsF folG l) := by show _ = _; rw [List.take_of_length_le (by have := Hn.out; omega)]
      go_wp2
      go_ret
      exact ⟨Ar, m, cr, rfl, by rw [← E3.out]; exact hown, hb⟩

end Go.Proofs.YthkaeimpflggjaaDoor

/- A Writer beside a struct in a block of its own: what a Writer's call leaves of both. -/
namespace Go.Proofs.YthkaeimpflggjaaDoor
open Go.RowKit
set_option linter.unusedVariables false

/-- A block of another kind is no Writer's. -/
theorem Wr.apart {w : World} {B b k : Nat} {zs : List Int} {cs : Array Value} {t : TypeId} (h : Wr w B b zs) (hk : w.heap[k]? = some (.cells cs t (0, 0))) (h1 : t ≠ 5) (h2 : t ≠ 68) : ¬ WrS w b k := by
  rintro (rfl | ⟨A, n, c, hb, e⟩)
  · obtain ⟨A, n, c, hb, _⟩ := h
    rw [hk] at hb
    simp at hb
    exact h2 hb.2
  · obtain ⟨A', n', c', hb', _, hown⟩ := h
    rw [hb] at hb'
    simp at hb'
    obtain ⟨rfl, rfl, rfl⟩ := hb'
    rcases hown.shape with ⟨rfl, _⟩ | ⟨g, cur, rfl, _, _, hh, _⟩
    · simp [blockOf] at e
    · simp [blockOf] at e
      subst e
      rw [hk] at hh
      simp at hh
      exact h1 hh.2

/-- A Writer in block b that is younger than w, and a struct in block bt. -/
structure StB (w wr : World) (b : Nat) (zs : List Int) (bt : Nat) (cs : Array Value) (t : TypeId) : Prop where
  wr_ : Wr wr w.heap.size b zs
  bel : Below w.heap.size w wr
  box : wr.heap[bt]? = some (.cells cs t (0, 0))
  n8 : t ≠ 5
  nw : t ≠ 68

section
variable {w wr w' : World} {b : Nat} {zs ys : List Int} {bt : Nat} {cs : Array Value} {t : TypeId}
theorem StB.below (h : StB w wr b zs bt cs t) (hb : Below wr.heap.size wr w') : StB w w' b zs bt cs t :=
  ⟨h.wr_.below hb, h.bel.trans (hb.mono h.bel.size), (hb.block _ (lt_of_block h.box)).trans h.box, h.n8, h.nw⟩
theorem StB.turned (h : StB w wr b zs bt cs t) (h1 : Wr w' w.heap.size b ys) (ht : Turned wr w' (WrS wr b)) : StB w w' b ys bt cs t :=
  ⟨h1, h.wr_.older h.bel (Nat.le_refl _) ht, (ht.block _ (lt_of_block h.box) (h.wr_.apart h.box h.n8 h.nw)).trans h.box, h.n8, h.nw⟩
theorem StB.drew (h : StB w wr b zs bt cs t) : StB w wr.drew b zs bt cs t := ⟨h.wr_, h.bel.drew, h.box, h.n8, h.nw⟩
theorem StB.drewN (h : StB w wr b zs bt cs t) (q : Nat) : StB w (wr.drewN q) b zs bt cs t := ⟨h.wr_, below_drewN h.bel q, h.box, h.n8, h.nw⟩
theorem StB.cell (h : StB w wr b zs bt cs t) (i : Nat) (v : Value) (hi : cs[i]? = some v) : wr.cell? ⟨bt, i, none⟩ = some v := (cell_of_row wr _ i _ _ _ h.box).trans hi
theorem StB.size (h : StB w wr b zs bt cs t) : w.heap.size ≤ wr.heap.size := h.bel.size
end

/-- A struct that is boxed, and a new Writer behind it. -/
theorem stB_new (w : World) (cs : Array Value) (t : TypeId) (h8 : t ≠ 5) (hw : t ≠ 68) : StB w ((w.alloc (.cells cs t)).alloc (.cells #[.slice none 0 0] 68)) (w.heap.size + 1) [] w.heap.size cs t := by
  have hb1 : Below w.heap.size w (w.alloc (.cells cs t)) := (Below.refl _ _).alloc (Nat.le_refl _) _
  have hw' := wr_new (w.alloc (.cells cs t))
  have hs : (w.alloc (.cells cs t)).heap.size = w.heap.size + 1 := by simp
  rw [hs] at hw'
  refine ⟨hw'.mono (by omega), hb1.alloc (by rw [hs]; omega) _, ?_, h8, hw⟩
  rw [Below.heap_alloc _ _ _ (by rw [hs]; omega)]
  exact heap_alloc_new w _

/-- An element of an array that is a value. -/
theorem run_index_arr {P : Program} (w : World) (T e : TypeId) (len : Nat) (cs : Array Value) (k : Nat) (v : Value) (hT : P.underlying T = some (.array len e)) (ha : (isAgg e).run P w = .ok false w) (hs : (Go.sizeOf e).run P w = .ok 1 w) (hk : k < len) (hv : cs[k]? = some v) :
    (Instr.index T (.agg cs) (.int .i64 k)).run P w = .ok v w := by
  have hk' : (k : Int) < (len : Int) := by omega
  have hk0 : (0 : Int) ≤ (k : Int) := by omega
  simp only [Instr.index, asIntOf, Sem.run_bind, Sem.run_pure, Result.andThen_ok, run_underlying hT, hk', hk0, and_self, if_true, hs, Int.toNat_natCast, Nat.mul_one, Go.part, ha, Bool.false_eq_true, if_false, hv]

end Go.Proofs.YthkaeimpflggjaaDoor

/- group.Build, as a contract over this seat's translation. -/
namespace Go.Proofs.YthkaeimpflggjaaDoor
open Go.RowKit
set_option linter.unusedVariables false

def gBody (x : Rn) : List Int := b4 x.a ++ (b4 x.b ++ b4 x.g)
def gHead (m : Nat) : List Int := b2 12 ++ (b2 0 ++ (b4 (16 + (m : Int) * 12) ++ (b4 0 ++ b4 (m : Int))))
def gBytes (rs : List Rn) : List Int := gHead rs.length ++ rs.flatMap gBody
def gOut (l : List Pr) : List Int := if risesF 1114111 (-1) l then gBytes (runsF folG l) else []

theorem gBody_len (x : Rn) : (gBody x).length = 12 := rfl
theorem gHead_len (m : Nat) : (gHead m).length = 16 := rfl
theorem gFlat_len : ∀ rs : List Rn, (rs.flatMap gBody).length = 12 * rs.length
  | [] => rfl
  | x :: r => by rw [List.flatMap_cons, List.length_append, gFlat_len r, gBody_len]; simp; omega
theorem gBytes_len (rs : List Rn) : (gBytes rs).length = 16 + 12 * rs.length := by rw [gBytes, List.length_append, gHead_len, gFlat_len]
theorem gFlat_snoc {rs : List Rn} {k : Nat} {x : Rn} (h : rs[k]? = some x) : (rs.take (k + 1)).flatMap gBody = (rs.take k).flatMap gBody ++ gBody x := by
  rw [List.take_add_one, h]
  simp

set_option maxRecDepth 100000 in
set_option maxHeartbeats 4000000 in
theorem gbuild_any (A : Option Addr) (n c : Nat) (l : List Pr) (w : World) (hr : RowS encP 2 w A n l) (hn : n ≤ 1000000) (hg : PrG l) :
    Calls Tryd.prog 23 #[.slice A n c] w (RetB w (gOut l)) := by
  have HR := Lib.hid (rises_any A n c l 1114111 w hr hn)
  cases hv : risesF 1114111 (-1) l with
  | false =>
    have HO : Hid (gOut l = []) := by show _ = _; unfold gOut; rw [hv]; rfl
    rw [hv] at HR
    clear hv hr hg
    go_enter Tryd.func23, Tryd.ntmps23
    go_wp2_with fail
    with_reducible refine HR.out.mono ?_
    rintro e w1 ⟨rfl, hb1⟩
    go_wp2
    go_ret
    exact ⟨none, 0, 0, rfl, by rw [HO.out]; exact Own.nil _ _ _ _, hb1⟩
  | true =>
    have HO : Hid (gOut l = gBytes (runsF folG l)) := by show _ = _; unfold gOut; rw [hv]; rfl
    have hok : OkP l := fun p hp => by
      have h1 := risesF_mem hv p hp
      have h2 := hg p hp
      omega
    have hfit := runsG_fit l hg
    have hro := runs_ok folG_code 1114111 l (-1) hv
    have hab : ∀ x ∈ runsF folG l, 0 ≤ x.a ∧ x.a ≤ x.b ∧ x.b ≤ 1114111 := by
      have key : ∀ (t : List Rn) (ah : Int), -1 ≤ ah → rnOK 1114111 ah t → ∀ x ∈ t, 0 ≤ x.a ∧ x.a ≤ x.b ∧ x.b ≤ 1114111 := by
        intro t
        induction t with
        | nil => intro _ _ _ x hx; simp at hx
        | cons y t ih =>
          intro ah ha ho x hx
          obtain ⟨o1, o2, o3, o4⟩ := ho
          rcases List.mem_cons.1 hx with rfl | hx
          · omega
          · exact ih y.b (by omega) o4 x hx
      exact key _ _ (by omega) hro
    have hlen := runsF_len folG l
    have Hn := Lib.hid hr.len
    rw [hv] at HR
    have HAB := Lib.hid hab
    have HFit := Lib.hid hfit
    have HRu := Lib.hid (fun (W : World) (h : Below w.heap.size w W) => gruns_any A n c l W (hr.below h) hn hok)
    clear hv hg hok hfit hro hab hr
    generalize runsF folG l = rs at *
    go_enter Tryd.func23, Tryd.ntmps23
    go_wp2_with fail
    with_reducible refine HR.out.mono ?_
    rintro e w1 ⟨rfl, hb1⟩
    clear HR
    go_wp2_with fail
    with_reducible refine (HRu.out _ hb1).mono ?_
    rintro e w2 ⟨Ar, m, cr, rfl, hown, hb2'⟩
    have hb2 := hb1.trans (hb2'.mono hb1.size)
    have hrow := hown.row encG_len
    have Hm := Lib.hid hown.len
    have hmn : m ≤ 1000000 := by have := Hm.out; have := Hn.out; omega
    clear hown hb2' hb1 HRu
    have hw0 := wr_new w2
    have hA0 : Below w2.heap.size w2 (w2.alloc (.cells #[.slice none 0 0] 68)) := (Below.refl _ _).alloc (Nat.le_refl _) _
    go_wp2_with fail
    with_reducible refine (wu16_any _ _ _ 12 _ hw0 (by simp) (by omega) (by omega)).mono ?_
    rintro e w3 ⟨rfl, hw3, ht3⟩
    have hA3 := hw0.older hA0 (Nat.le_refl _) ht3
    clear hw0 hA0 ht3
    go_wp2_with fail
    with_reducible refine (wu16_any _ _ _ 0 _ hw3 (by simp [b2]) (by omega) (by omega)).mono ?_
    rintro e w4 ⟨rfl, hw4, ht4⟩
    have hA4 := hw3.older hA3 (Nat.le_refl _) ht4
    clear hw3 hA3 ht4
    go_wp2_with fail
    with_reducible refine (wu32_any _ _ _ (16 + (m : Int) * 12) _ hw4 (by simp [b2]) (by omega) (by omega)).mono ?_
    rintro e w5 ⟨rfl, hw5, ht5⟩
    have hA5 := hw4.older hA4 (Nat.le_refl _) ht5
    clear hw4 hA4 ht5
    go_wp2_with fail
    with_reducible refine (wu32_any _ _ _ 0 _ hw5 (by simp [b2, b4]) (by omega) (by omega)).mono ?_
    rintro e w6 ⟨rfl, hw6, ht6⟩
    have hA6 := hw5.older hA5 (Nat.le_refl _) ht6
    clear hw5 hA5 ht6
    go_wp2_with fail
    with_reducible refine (wu32_any _ _ _ (m : Int) _ hw6 (by simp [b2, b4]) (by omega) (by omega)).mono ?_
    rintro e w7 ⟨rfl, hw7, ht7⟩
    have hA7 := hw6.older hA6 (Nat.le_refl _) ht7
    clear hw6 hA6 ht7
    have HH : Hid ([] ++ b2 12 ++ b2 0 ++ b4 (16 + (m : Int) * 12) ++ b4 0 ++ b4 (m : Int) = gHead m) := by show _ = _; unfold gHead; simp
    rw [HH.out] at hw7
    clear HH
    go_wp2
    go_loopw [28] (fun i wr => ∃ k : Nat, k ≤ m ∧ i = .int .i64 k ∧ Wr wr w2.heap.size w2.heap.size (gHead m ++ (rs.take k).flatMap gBody) ∧ Below w2.heap.size w2 wr) (fun i _ => m - (intOf i).toNat)
    case atStart => exact ⟨0, Nat.zero_le _, rfl, by simpa using hw7, hA7⟩
    case round =>
      clear hw7 hA7
      obtain ⟨k, hk, rfl, hw, hbel⟩ := hrel
      have hbl : (gHead m ++ (rs.take k).flatMap gBody).length ≤ 16 + 12 * k := by rw [List.length_append, gHead_len, gFlat_len, List.length_take]; omega
      by_cases hlt : k < m
      · obtain ⟨x, hx⟩ := getP (l := rs) (j := k) (by have := Hm.out; omega)
        obtain ⟨g, off, rfl, hg, q0, q1, q2⟩ := atG (hrow.below hbel) hx
        obtain ⟨a0, a1, a2⟩ := HAB.out x (List.mem_of_getElem? hx)
        obtain ⟨g0, g1⟩ := HFit.out x (List.mem_of_getElem? hx)
        have HX := Lib.hid (gFlat_snoc hx)
        clear hx
        obtain ⟨xa, xb, xg⟩ := x
        simp only at *
        have hal : Below wr.heap.size wr (wr.alloc (.cells #[.int .i32 xa, .int .i32 xb, .int .u16 xg] 94)) := (Below.refl _ _).alloc (Nat.le_refl _) _
        have hs : StB w2 (wr.alloc (.cells #[.int .i32 xa, .int .i32 xb, .int .u16 xg] 94)) w2.heap.size (gHead m ++ (rs.take k).flatMap gBody) wr.heap.size #[.int .i32 xa, .int .i32 xb, .int .u16 xg] 94 :=
          ⟨hw.below hal, hbel.trans (hal.mono hbel.size), heap_alloc_new wr _, by decide, by decide⟩
        clear hw hbel hal
        have F1 : IntKind.u32.wrap xa = xa := IntWalk.u32_in _ (by omega)
        have F2 : IntKind.u32.wrap xb = xb := IntWalk.u32_in _ (by omega)
        have F3 : IntKind.u32.wrap xg = xg := IntWalk.u32_in _ (by omega)
        go_upto_region 10 with fail
        replace hs := hs.drew
        go_region_held3 (fun w' => w'.cell? ⟨wr.heap.size, 0, none⟩ = some (.int .i32 xa) ∧ w'.cell? ⟨wr.heap.size, 1, none⟩ = some (.int .i32 xb) ∧ w'.cell? ⟨wr.heap.size, 2, none⟩ = some (.int .u16 xg))
          (first | exact ⟨hs.cell 0 _ rfl, hs.cell 1 _ rfl, hs.cell 2 _ rfl⟩)
          (first
            | (go_at_call 25; refine (wu32_any _ _ _ _ _ hs.wr_ (by simp [b4, b2] at hbl ⊢; omega) (by omega) (by omega)).mono ?_; rintro e wn ⟨rfl, hwn, htn⟩; replace hs := hs.turned hwn htn; clear hwn htn))
        all_goals
          have HY : Hid (gHead m ++ (rs.take k).flatMap gBody ++ b4 xa ++ b4 xb ++ b4 xg = gHead m ++ (rs.take (k + 1)).flatMap gBody) := by
            show _ = _
            rw [HX.out, gBody]
            simp
          rw [HY.out] at hs
          go_wp2
          go_roundw
          case rel => exact ⟨k + 1, by omega, by go_num, hs.wr_, hs.bel⟩
          case measure => simp [intOf]; omega
      · obtain rfl : k = m := by omega
        go_wp2_with fail
        with_reducible refine (done_any _ _ _ _ hw (by omega)).mono ?_
        rintro e w8 ⟨A3, n3, c3, rfl, hown3, hb3⟩
        have HZ : Hid (gHead k ++ (rs.take k).flatMap gBody = gOut l) := by
          show _ = _
          rw [HO.out, gBytes, Hm.out, List.take_of_length_le (by have := Hm.out; omega)]
        have hs2 := hb2.size
        go_wp2
        go_ret
        refine ⟨A3, n3, c3, rfl, ?_, hb2.trans ((hbel.trans (hb3.mono hbel.size)).mono hs2)⟩
        rw [← HZ.out]
        exact hown3.mono (Nat.le_trans hs2 hbel.size)

end Go.Proofs.YthkaeimpflggjaaDoor

/- A table of groups that is built is read as it was: plain lists. -/
namespace Go.Proofs.YthkaeimpflggjaaDoor
set_option linter.unusedVariables false

theorem rnOK_at {most : Int} : ∀ {l : List Rn} {ah : Int}, rnOK most ah l → ∀ {i : Nat} {x : Rn}, l[i]? = some x → ah < x.a ∧ x.a ≤ x.b ∧ x.b ≤ most
  | [], _, _, i, x, hx => by simp at hx
  | y :: r, ah, h, i, x, hx => by
    obtain ⟨h1, h2, h3, h4⟩ := h
    cases i with
    | zero => simp at hx; subst hx; exact ⟨h1, h2, h3⟩
    | succ i => have := rnOK_at h4 (i := i) (x := x) (by simpa using hx); omega

theorem rnOK_next {most : Int} : ∀ {l : List Rn} {ah : Int}, rnOK most ah l → ∀ {i : Nat} {x y : Rn}, l[i]? = some x → l[i + 1]? = some y → x.b < y.a
  | [], _, _, i, x, y, hx, hy => by simp at hx
  | z :: r, ah, h, i, x, y, hx, hy => by
    obtain ⟨h1, h2, h3, h4⟩ := h
    cases i with
    | zero => simp at hx; subst hx; exact (rnOK_at h4 (i := 0) (x := y) (by simpa using hy)).1
    | succ i => exact rnOK_next h4 (by simpa using hx) (by simpa using hy)

theorem gFlat_drop : ∀ (rs : List Rn) (i : Nat), (rs.flatMap gBody).drop (12 * i) = (rs.drop i).flatMap gBody
  | [], i => by simp
  | x :: r, 0 => by simp
  | x :: r, i + 1 => by
    rw [List.flatMap_cons, show 12 * (i + 1) = (gBody x).length + 12 * i by rw [gBody_len]; omega, List.drop_append, List.drop_of_length_le (by omega), Nat.add_sub_cancel_left, List.nil_append, gFlat_drop r i]
    rfl

theorem gBytes_drop (rs : List Rn) (i : Nat) : (gBytes rs).drop (16 + 12 * i) = (rs.drop i).flatMap gBody := by
  rw [gBytes, show 16 + 12 * i = (gHead rs.length).length + 12 * i by rw [gHead_len], List.drop_append, List.drop_of_length_le (by omega), Nat.add_sub_cancel_left, List.nil_append, gFlat_drop]

theorem gBytes_at (rs : List Rn) {i : Nat} {x : Rn} (h : rs[i]? = some x) (hx : 0 ≤ x.a ∧ x.a ≤ x.b ∧ x.b ≤ 1114111 ∧ 0 ≤ x.g ∧ x.g ≤ 65535) : gAt (gBytes rs) i = x := by
  have hd : (gBytes rs).drop (16 + 12 * i) = b4 x.a ++ (b4 x.b ++ b4 x.g) ++ (rs.drop (i + 1)).flatMap gBody := by
    rw [gBytes_drop, drop_consP h, List.flatMap_cons]
    rfl
  have e1 : n4at (gBytes rs) (16 + 12 * i) = x.a := n4at_of (by rw [hd]; rfl) (by omega) (by omega)
  have e2 : n4at (gBytes rs) (20 + 12 * i) = x.b := n4at_of (by rw [show 20 + 12 * i = 16 + 12 * i + 4 by omega, ← List.drop_drop, hd]; rfl) (by omega) (by omega)
  have e3 : n4at (gBytes rs) (24 + 12 * i) = x.g := n4at_of (by rw [show 24 + 12 * i = 16 + 12 * i + 8 by omega, ← List.drop_drop, hd]; rfl) (by omega) (by omega)
  unfold gAt
  rw [e1, e2, e3]

theorem gBytes_bytes (rs : List Rn) : Bytes (gBytes rs) := by
  have hb : ∀ x, Bytes (gBody x) := fun x => by
    intro y hy
    simp [gBody, b4, b2] at hy
    omega
  have hf : ∀ r : List Rn, Bytes (r.flatMap gBody) := by
    intro r
    induction r with
    | nil => intro y hy; simp at hy
    | cons x r ih => intro y hy; rw [List.flatMap_cons] at hy; exact (List.mem_append.1 hy).elim (hb x y) (ih y)
  intro y hy
  rcases List.mem_append.1 hy with h | h
  · simp [gHead, b4, b2] at h
    omega
  · exact hf rs y h

theorem gBytes_right (rs : List Rn) (hok : rnOK 1114111 (-1) rs) (hfit : ∀ x ∈ rs, 0 ≤ x.g ∧ x.g + (x.b - x.a) ≤ 65535) (hl : rs.length ≤ 1000000) :
    gRight (gBytes rs) = true ∧ gN (gBytes rs) = rs.length ∧ grps (gBytes rs) rs.length = rs := by
  have h12 : n4at (gBytes rs) 12 = (rs.length : Int) := n4at_of (by rfl) (by omega) (by omega)
  have h4 : n4at (gBytes rs) 4 = 16 + (rs.length : Int) * 12 := n4at_of (by rfl) (by omega) (by omega)
  have h0 : n2at (gBytes rs) 0 = 12 := n2at_of (by rfl) (by omega) (by omega)
  have h2 : n2at (gBytes rs) 2 = 0 := n2at_of (by rfl) (by omega) (by omega)
  have hN : gN (gBytes rs) = rs.length := by unfold gN; rw [h12]; simp
  have hat : ∀ i x, rs[i]? = some x → gAt (gBytes rs) i = x := fun i x h => by
    have a1 := rnOK_at hok h
    have a2 := hfit x (List.mem_of_getElem? h)
    exact gBytes_at rs h (by omega)
  refine ⟨?_, hN, ?_⟩
  · unfold gRight
    rw [Bool.and_eq_true]
    constructor
    · unfold gFront
      rw [h0, h2, h4, h12, gBytes_len]
      simp
      omega
    · rw [hN]
      unfold gOkK
      rw [List.all_eq_true]
      intro i hi
      have hi' := List.mem_range.1 hi
      obtain ⟨x, hx⟩ := getP (l := rs) (j := i) hi'
      have a1 := rnOK_at hok hx
      have a2 := hfit x (List.mem_of_getElem? hx)
      have a3 := hat i x hx
      have a4 : n4at (gBytes rs) (16 + 12 * i) = x.a := congrArg Rn.a a3
      unfold gOkAt
      rw [Bool.and_eq_true, a3, a4]
      refine ⟨by unfold gOne; rw [decide_eq_true_eq]; omega, ?_⟩
      rw [decide_eq_true_eq]
      unfold gLeast
      split
      · omega
      · obtain ⟨j, rfl⟩ : ∃ j, i = j + 1 := ⟨i - 1, by omega⟩
        obtain ⟨y, hy⟩ := getP (l := rs) (j := j) (by omega)
        have := rnOK_next hok hy hx
        have a5 : n4at (gBytes rs) (20 + 12 * j) = y.b := congrArg Rn.b (hat j y hy)
        rw [show 8 + 12 * (j + 1) = 20 + 12 * j by omega, a5]
        omega
  · apply List.ext_getElem?
    intro i
    unfold grps
    by_cases hi : i < rs.length
    · obtain ⟨x, hx⟩ := getP (l := rs) (j := i) hi
      rw [hx]
      simp [hi, hat i x hx]
    · rw [List.getElem?_eq_none (by simpa using Nat.le_of_not_lt hi), List.getElem?_eq_none (by simpa using Nat.le_of_not_lt hi)]

/-- Of pairs that rise. -/
theorem gOut_right {l : List Pr} (hg : PrG l) (h : risesF 1114111 (-1) l = true) (hl : l.length ≤ 1000000) :
    gOut l = gBytes (runsF folG l) ∧ gRight (gOut l) = true ∧ gN (gOut l) = (runsF folG l).length ∧ grps (gOut l) (gN (gOut l)) = runsF folG l ∧ Bytes (gOut l) ∧ (gOut l).length = 16 + 12 * (runsF folG l).length := by
  have e : gOut l = gBytes (runsF folG l) := by unfold gOut; rw [h]; rfl
  have hlen := runsF_len folG l
  obtain ⟨h1, h2, h3⟩ := gBytes_right (runsF folG l) (runs_ok folG_code _ _ _ h) (runsG_fit l hg) (by omega)
  rw [e]
  exact ⟨rfl, h1, h2, by rw [h2]; exact h3, gBytes_bytes _, gBytes_len _⟩

theorem gOut_nil {l : List Pr} (h : risesF 1114111 (-1) l = false) : gOut l = [] := by unfold gOut; rw [h]; rfl

end Go.Proofs.YthkaeimpflggjaaDoor

/- The document's Right and Look of groups, as contracts over this seat's translation. -/
namespace Go.Proofs.YthkaeimpflggjaaDoor
open Go.RowKit
set_option linter.unusedVariables false

set_option maxRecDepth 100000 in
theorem rat10_any (A : Option Addr) (n c : Nat) (zs : List Int) (a : Int) (i : Nat) (w : World) (hr : Row w A n (cellsOf .u8 zs)) (hB : Bytes zs) (hn : n ≤ 140737488351232) (ha : a = i) (hi : i ≤ 140737488351232) :
    Calls Tryd.prog 58 #[.slice A n c, .int .i64 a] w (Ret w (.int .u64 (n4at zs i))) := by
  subst ha
  have h0 := n4at_lt hB i
  have H := Lib.hid (n4_any A n c zs i w hr hB hn hi)
  rw [n4v_at] at H
  clear hr hB
  generalize n4at zs i = v at *
  go_enter Tryd.func58, Tryd.ntmps58
  go_wp2_with fail
  refine H.out.mono ?_
  rintro e w1 ⟨rfl, q, rfl⟩
  go_wp2
  go_ret
  exact ⟨rfl, below_drewN (Below.refl _ _) _⟩

/-- How many, or none. -/
def gRV (zs : List Int) : Int := if gRight zs then (gN zs : Int) else 0

set_option maxRecDepth 100000 in
set_option maxHeartbeats 2000000 in
theorem rright10_front (A : Option Addr) (n c : Nat) (zs : List Int) (w : World) (hr : Row w A n (cellsOf .u8 zs)) (hB : Bytes zs) (hn : n ≤ 1000000) (hf : gFront zs = false) :
    Calls Tryd.prog 37 #[.slice A n c] w (Ret w (.tuple #[.int .i64 0, .bool false])) := by
  have H12 : Hid (∀ W, Below w.heap.size w W → Calls Tryd.prog 58 #[.slice A n c, .int .i64 12] W (Ret W (.int .u64 (n4at zs 12)))) := fun W hW => rat10_any A n c zs 12 12 W (hr.below hW) hB (by omega) rfl (by omega)
  have H0 : Hid (∀ W, Below w.heap.size w W → Calls Tryd.prog 58 #[.slice A n c, .int .i64 0] W (Ret W (.int .u64 (n4at zs 0)))) := fun W hW => rat10_any A n c zs 0 0 W (hr.below hW) hB (by omega) rfl (by omega)
  have H4 : Hid (∀ W, Below w.heap.size w W → Calls Tryd.prog 58 #[.slice A n c, .int .i64 4] W (Ret W (.int .u64 (n4at zs 4)))) := fun W hW => rat10_any A n c zs 4 4 W (hr.below hW) hB (by omega) rfl (by omega)
  have e12 := n4at_lt hB 12
  have e0 := n4at_lt hB 0
  have e4 := n4at_lt hB 4
  have hl := hr.len
  have hb := Below.refl w.heap.size w
  by_cases h16 : n < 16
  · clear hf hr hB hl
    go_enter Tryd.func37, Tryd.ntmps37
    go_wp2_with (go_at_call 58; (first | (with_reducible refine (H12.out _ hb).mono ?_) | (with_reducible refine (H0.out _ hb).mono ?_) | (with_reducible refine (H4.out _ hb).mono ?_)); rintro e wn ⟨rfl, hbn⟩; replace hb := hb.trans (hbn.mono hb.size); clear hbn)
    go_ret2
    exact ⟨rfl, hb⟩
  · by_cases hz : n4at zs 0 = 786432
    · have hz0 : (n4at zs 0 != 786432) = false := by simp [hz]
      by_cases hs : n4at zs 4 = 16 + 12 * n4at zs 12
      · have hs0 : (n4at zs 4 != 16 + 12 * n4at zs 12) = false := by simp [hs]
        have hgt : (n : Int) < n4at zs 4 := by
          have h2 := n4at_two (zs := zs) (i := 0) (by omega)
          have a1 := n2at_lt hB 0
          have a2 := n2at_lt hB 2
          simp only [Nat.zero_add] at h2
          simp [gFront, hs] at hf
          have := hf (by omega) (by omega)
          omega
        clear hf hr hB hl hz
        generalize n4at zs 0 = v0 at *
        generalize n4at zs 4 = v4 at *
        generalize n4at zs 12 = v12 at *
        clear hs
        go_enter Tryd.func37, Tryd.ntmps37
        go_wp2_with (go_at_call 58; (first | (with_reducible refine (H12.out _ hb).mono ?_) | (with_reducible refine (H0.out _ hb).mono ?_) | (with_reducible refine (H4.out _ hb).mono ?_)); rintro e wn ⟨rfl, hbn⟩; replace hb := hb.trans (hbn.mono hb.size); clear hbn)
        go_ret2
        exact ⟨rfl, hb⟩
      · have hs0 : (n4at zs 4 != 16 + 12 * n4at zs 12) = true := by simp [hs]
        clear hf hr hB hl hz hs
        generalize n4at zs 0 = v0 at *
        generalize n4at zs 4 = v4 at *
        generalize n4at zs 12 = v12 at *
        go_enter Tryd.func37, Tryd.ntmps37
        go_wp2_with (go_at_call 58; (first | (with_reducible refine (H12.out _ hb).mono ?_) | (with_reducible refine (H0.out _ hb).mono ?_) | (with_reducible refine (H4.out _ hb).mono ?_)); rintro e wn ⟨rfl, hbn⟩; replace hb := hb.trans (hbn.mono hb.size); clear hbn)
        go_ret2
        exact ⟨rfl, hb⟩
    · have hz0 : (n4at zs 0 != 786432) = true := by simp [hz]
      clear hf hr hB hl hz
      generalize n4at zs 0 = v0 at *
      generalize n4at zs 4 = v4 at *
      generalize n4at zs 12 = v12 at *
      go_enter Tryd.func37, Tryd.ntmps37
      go_wp2_with (go_at_call 58; (first | (with_reducible refine (H12.out _ hb).mono ?_) | (with_reducible refine (H0.out _ hb).mono ?_) | (with_reducible refine (H4.out _ hb).mono ?_)); rintro e wn ⟨rfl, hbn⟩; replace hb := hb.trans (hbn.mono hb.size); clear hbn)
      go_ret2
      exact ⟨rfl, hb⟩

set_option maxRecDepth 100000 in
set_option maxHeartbeats 4000000 in
theorem rright10_fit (A : Option Addr) (n c : Nat) (zs : List Int) (w : World) (hr : Row w A n (cellsOf .u8 zs)) (hB : Bytes zs) (hn : n ≤ 1000000) (hf : gFront zs = true) :
    Calls Tryd.prog 37 #[.slice A n c] w (Ret w (.tuple #[.int .i64 (gRV zs), .bool (gRight zs)])) := by
  have H12 : Hid (∀ W, Below w.heap.size w W → Calls Tryd.prog 58 #[.slice A n c, .int .i64 12] W (Ret W (.int .u64 (n4at zs 12)))) := fun W hW => rat10_any A n c zs 12 12 W (hr.below hW) hB (by omega) rfl (by omega)
  have H0 : Hid (∀ W, Below w.heap.size w W → Calls Tryd.prog 58 #[.slice A n c, .int .i64 0] W (Ret W (.int .u64 (n4at zs 0)))) := fun W hW => rat10_any A n c zs 0 0 W (hr.below hW) hB (by omega) rfl (by omega)
  have H4 : Hid (∀ W, Below w.heap.size w W → Calls Tryd.prog 58 #[.slice A n c, .int .i64 4] W (Ret W (.int .u64 (n4at zs 4)))) := fun W hW => rat10_any A n c zs 4 4 W (hr.below hW) hB (by omega) rfl (by omega)
  have HAll : Hid (∀ (i : Nat) (a : Int), a = i → i ≤ 100000000 → ∀ W, Below w.heap.size w W → Calls Tryd.prog 58 #[.slice A n c, .int .i64 a] W (Ret W (.int .u64 (n4at zs i)))) := fun i a ha hi W hW => rat10_any A n c zs a i W (hr.below hW) hB (by omega) ha (by omega)
  have HB := Lib.hid hB
  have hl := hr.len
  have e12 := n4at_lt hB 12
  have hgr := gRight_is hf
  have hg : n4at zs 0 = 786432 ∧ n4at zs 4 = 16 + 12 * (gN zs : Int) ∧ n4at zs 12 = (gN zs : Int) ∧ 16 + 12 * gN zs ≤ n := by
    simp [gFront] at hf
    have hN : n4at zs 12 = (gN zs : Int) := by unfold gN; omega
    have h2 := n4at_two (zs := zs) (i := 0) (by omega)
    simp only [Nat.zero_add] at h2
    omega
  obtain ⟨g0, g4, g12, gl⟩ := hg
  have hv : gRV zs = if gRight zs then (gN zs : Int) else 0 := rfl
  rw [g0] at H0
  rw [g4] at H4
  rw [g12] at H12
  have HR := Lib.hid hgr
  have HV := Lib.hid hv
  have hb := Below.refl w.heap.size w
  clear hf hr hB hl hgr hv g0 g4 g12 e12
  generalize gRV zs = V at *
  generalize gRight zs = R at *
  generalize gN zs = N at *
  go_enter Tryd.func37, Tryd.ntmps37
  go_wp2_with (go_at_call 58; (first | (with_reducible refine (H12.out _ hb).mono ?_) | (with_reducible refine (H0.out _ hb).mono ?_) | (with_reducible refine (H4.out _ hb).mono ?_)); rintro e wn ⟨rfl, hbn⟩; replace hb := hb.trans (hbn.mono hb.size); clear hbn)
  clear H12 H0 H4
  go_loopw [5] (fun i wr => ∃ k : Nat, k ≤ N ∧ i = .int .i64 k ∧ Hid (gOkK zs k = true) ∧ Below w.heap.size w wr) (fun i _ => N - (intOf i).toNat)
  case atStart => exact ⟨0, Nat.zero_le _, rfl, Lib.hid rfl, hb⟩
  case round =>
    clear hb
    obtain ⟨k, hk, rfl, hok, hb⟩ := hrel
    by_cases hlt : k < N
    · have H16 := Lib.hid (HAll.out (16 + 12 * k) (16 + 12 * (k : Int)) (by omega) (by omega))
      have H20 := Lib.hid (HAll.out (20 + 12 * k) (20 + 12 * (k : Int)) (by omega) (by omega))
      have H24 := Lib.hid (HAll.out (24 + 12 * k) (24 + 12 * (k : Int)) (by omega) (by omega))
      have H8 := Lib.hid (HAll.out (8 + 12 * k) (8 + 12 * (k : Int)) (by omega) (by omega))
      have l16 := n4at_lt HB.out (16 + 12 * k)
      have l20 := n4at_lt HB.out (20 + 12 * k)
      have l24 := n4at_lt HB.out (24 + 12 * k)
      have l8 := n4at_lt HB.out (8 + 12 * k)
      have hgo : gOkAt zs k = (decide (n4at zs (16 + 12 * k) ≤ n4at zs (20 + 12 * k) ∧ n4at zs (20 + 12 * k) ≤ 1114111 ∧ n4at zs (24 + 12 * k) + (n4at zs (20 + 12 * k) - n4at zs (16 + 12 * k)) ≤ 65535) && decide ((if k = 0 then 0 else n4at zs (8 + 12 * k) + 1) ≤ n4at zs (16 + 12 * k))) := rfl
      have HGO := Lib.hid hgo
      clear hgo
      generalize n4at zs (16 + 12 * k) = a at *
      generalize n4at zs (20 + 12 * k) = z at *
      generalize n4at zs (24 + 12 * k) = g at *
      generalize n4at zs (8 + 12 * k) = p at *
      have HNO : Hid (gOkAt zs k = false → V = 0 ∧ R = false) := fun h => by
        have := HR.out
        rw [gOkK_not hlt h] at this
        exact ⟨by rw [HV.out, this]; rfl, this⟩
      have HYES : Hid (gOkAt zs k = true → gOkK zs (k + 1) = true) := fun h => by rw [gOkK_succ, hok.out, h]; rfl
      clear HAll HR HV
      by_cases h1 : a ≤ z
      · by_cases h2 : z ≤ 1114111
        · by_cases h0 : ¬ 0 < k
          · by_cases h4 : g + z - a ≤ 65535
            · have HT := Lib.hid (HYES.out (by rw [HGO.out, if_pos (by omega)]; simp; omega))
              clear HNO HYES HGO
              go_wp2_with (go_at_call 58; (first | (with_reducible refine (H16.out _ hb).mono ?_) | (with_reducible refine (H20.out _ hb).mono ?_) | (with_reducible refine (H24.out _ hb).mono ?_) | (with_reducible refine (H8.out _ hb).mono ?_)); rintro e wn ⟨rfl, hbn⟩; replace hb := hb.trans (hbn.mono hb.size); clear hbn)
              go_roundw
              case rel => exact ⟨k + 1, by omega, by go_num, HT, hb⟩
              case measure => simp [intOf]; omega
            · have HT := Lib.hid (HNO.out (by rw [HGO.out]; simp; omega))
              clear HNO HYES HGO
              go_wp2_with (go_at_call 58; (first | (with_reducible refine (H16.out _ hb).mono ?_) | (with_reducible refine (H20.out _ hb).mono ?_) | (with_reducible refine (H24.out _ hb).mono ?_) | (with_reducible refine (H8.out _ hb).mono ?_)); rintro e wn ⟨rfl, hbn⟩; replace hb := hb.trans (hbn.mono hb.size); clear hbn)
              go_ret2
              rw [HT.out.1, HT.out.2]
              exact ⟨rfl, hb⟩
          · have h0' : 0 < k := by omega
            clear h0
            by_cases h3 : p < a
            · by_cases h4 : g + z - a ≤ 65535
              · have HT := Lib.hid (HYES.out (by rw [HGO.out, if_neg (by omega)]; simp; omega))
                clear HNO HYES HGO
                go_wp2_with (go_at_call 58; (first | (with_reducible refine (H16.out _ hb).mono ?_) | (with_reducible refine (H20.out _ hb).mono ?_) | (with_reducible refine (H24.out _ hb).mono ?_) | (with_reducible refine (H8.out _ hb).mono ?_)); rintro e wn ⟨rfl, hbn⟩; replace hb := hb.trans (hbn.mono hb.size); clear hbn)
                go_roundw
                case rel => exact ⟨k + 1, by omega, by go_num, HT, hb⟩
                case measure => simp [intOf]; omega
              · have HT := Lib.hid (HNO.out (by rw [HGO.out, if_neg (by omega)]; simp; omega))
                clear HNO HYES HGO
                go_wp2_with (go_at_call 58; (first | (with_reducible refine (H16.out _ hb).mono ?_) | (with_reducible refine (H20.out _ hb).mono ?_) | (with_reducible refine (H24.out _ hb).mono ?_) | (with_reducible refine (H8.out _ hb).mono ?_)); rintro e wn ⟨rfl, hbn⟩; replace hb := hb.trans (hbn.mono hb.size); clear hbn)
                go_ret2
                rw [HT.out.1, HT.out.2]
                exact ⟨rfl, hb⟩
            · have HT := Lib.hid (HNO.out (by rw [HGO.out, if_neg (by omega)]; simp; omega))
              clear HNO HYES HGO
              go_wp2_with (go_at_call 58; (first | (with_reducible refine (H16.out _ hb).mono ?_) | (with_reducible refine (H20.out _ hb).mono ?_) | (with_reducible refine (H24.out _ hb).mono ?_) | (with_reducible refine (H8.out _ hb).mono ?_)); rintro e wn ⟨rfl, hbn⟩; replace hb := hb.trans (hbn.mono hb.size); clear hbn)
              go_ret2
              rw [HT.out.1, HT.out.2]
              exact ⟨rfl, hb⟩
        · have HT := Lib.hid (HNO.out (by rw [HGO.out]; simp; omega))
          clear HNO HYES HGO
          go_wp2_with (go_at_call 58; (first | (with_reducible refine (H16.out _ hb).mono ?_) | (with_reducible refine (H20.out _ hb).mono ?_) | (with_reducible refine (H24.out _ hb).mono ?_) | (with_reducible refine (H8.out _ hb).mono ?_)); rintro e wn ⟨rfl, hbn⟩; replace hb := hb.trans (hbn.mono hb.size); clear hbn)
          go_ret2
          rw [HT.out.1, HT.out.2]
          exact ⟨rfl, hb⟩
      · have HT := Lib.hid (HNO.out (by rw [HGO.out]; simp; omega))
        clear HNO HYES HGO
        go_wp2_with (go_at_call 58; (first | (with_reducible refine (H16.out _ hb).mono ?_) | (with_reducible refine (H20.out _ hb).mono ?_) | (with_reducible refine (H24.out _ hb).mono ?_) | (with_reducible refine (H8.out _ hb).mono ?_)); rintro e wn ⟨rfl, hbn⟩; replace hb := hb.trans (hbn.mono hb.size); clear hbn)
        go_ret2
        rw [HT.out.1, HT.out.2]
        exact ⟨rfl, hb⟩
    · obtain rfl : k = N := by omega
      have HT : Hid (R = true ∧ V = (k : Int)) := by
        have := HR.out
        rw [hok.out] at this
        exact ⟨this, by rw [HV.out, this]; rfl⟩
      clear HAll HR HV
      go_wp2
      go_ret2
      rw [HT.out.1, HT.out.2]
      exact ⟨rfl, hb⟩

theorem rright10_any (A : Option Addr) (n c : Nat) (zs : List Int) (w : World) (hr : Row w A n (cellsOf .u8 zs)) (hB : Bytes zs) (hn : n ≤ 1000000) :
    Calls Tryd.prog 37 #[.slice A n c] w (Ret w (.tuple #[.int .i64 (gRV zs), .bool (gRight zs)])) := by
  cases hf : gFront zs with
  | true => exact rright10_fit A n c zs w hr hB hn hf
  | false =>
    have h := gRight_front hf
    unfold gRV
    rw [h]
    exact rright10_front A n c zs w hr hB hn hf

set_option maxRecDepth 100000 in
set_option maxHeartbeats 2000000 in
theorem rlook10_any (A : Option Addr) (n c : Nat) (zs : List Int) (N : Nat) (code : Int) (w : World) (hr : Row w A n (cellsOf .u8 zs)) (hB : Bytes zs) (hn : n ≤ 1000000) (hN : N ≤ 1000000) (c0 : -2147483648 ≤ code) (c1 : code ≤ 2147483647) :
    Calls Tryd.prog 39 #[.slice A n c, .int .i64 N, .int .i64 code] w (Ret w (.int .i64 (findG code (grps zs N)))) := by
  have HAll : Hid (∀ (i : Nat) (a : Int), a = i → i ≤ 100000000 → ∀ W, Below w.heap.size w W → Calls Tryd.prog 58 #[.slice A n c, .int .i64 a] W (Ret W (.int .u64 (n4at zs i)))) := fun i a ha hi W hW => rat10_any A n c zs a i W (hr.below hW) hB (by omega) ha (by omega)
  have HB := Lib.hid hB
  clear hr hB
  have hb := Below.refl w.heap.size w
  have hneg : code < 0 → findG code (grps zs N) = 0 := fun h => by
    have key : ∀ l : List Rn, (∀ x ∈ l, 0 ≤ x.a) → findG code l = 0 := by
      intro l
      induction l with
      | nil => intro _; rfl
      | cons x l ih => intro hx; rw [findG, if_neg (by have := hx x (by simp); omega)]; exact ih (fun y hy => hx y (by simp [hy]))
    refine key _ (fun x hx => ?_)
    obtain ⟨i, hi⟩ := List.mem_iff_getElem?.1 hx
    obtain ⟨_, rfl⟩ := grps_get _ _ _ _ hi
    exact (n4at_lt HB.out _).1
  have HNeg := Lib.hid hneg
  clear hneg
  by_cases hc : 0 ≤ code
  · go_enter Tryd.func39, Tryd.ntmps39
    go_wp2
    go_loopw [7] (fun i wr => ∃ k : Nat, k ≤ N ∧ i = .int .i64 k ∧ Hid (findG code (grps zs N) = findG code ((grps zs N).drop k)) ∧ Below w.heap.size w wr) (fun i _ => N - (intOf i).toNat)
    case atStart => exact ⟨0, Nat.zero_le _, rfl, Lib.hid rfl, hb⟩
    case round =>
      clear hb
      obtain ⟨k, hk, rfl, hok, hb⟩ := hrel
      by_cases hlt : k < N
      · have H16 := Lib.hid (HAll.out (16 + 12 * k) (16 + 12 * (k : Int)) (by omega) (by omega))
        have H20 := Lib.hid (HAll.out (20 + 12 * k) (20 + 12 * (k : Int)) (by omega) (by omega))
        have H24 := Lib.hid (HAll.out (24 + 12 * k) (24 + 12 * (k : Int)) (by omega) (by omega))
        have l16 := n4at_lt HB.out (16 + 12 * k)
        have l20 := n4at_lt HB.out (20 + 12 * k)
        have l24 := n4at_lt HB.out (24 + 12 * k)
        have hgo : findG code (grps zs N) = if n4at zs (16 + 12 * k) ≤ code ∧ code ≤ n4at zs (20 + 12 * k) then n4at zs (24 + 12 * k) + (code - n4at zs (16 + 12 * k)) else findG code ((grps zs N).drop (k + 1)) := by
          rw [hok.out, drop_consP (p := gAt zs k) (by unfold grps; simp [hlt]), findG]
          rfl
        have HGO := Lib.hid hgo
        clear hgo HAll hok
        generalize n4at zs (16 + 12 * k) = a at *
        generalize n4at zs (20 + 12 * k) = z at *
        generalize n4at zs (24 + 12 * k) = g at *
        by_cases h1 : a ≤ code
        · by_cases h2 : code ≤ z
          · have HT : Hid (findG code (grps zs N) = g + code - a) := by show _ = _; rw [HGO.out, if_pos ⟨h1, h2⟩]; omega
            clear HGO
            go_wp2_with (go_at_call 58; (first | (with_reducible refine (H16.out _ hb).mono ?_) | (with_reducible refine (H20.out _ hb).mono ?_) | (with_reducible refine (H24.out _ hb).mono ?_)); rintro e wn ⟨rfl, hbn⟩; replace hb := hb.trans (hbn.mono hb.size); clear hbn)
            go_ret
            rw [HT.out]
            exact ⟨rfl, hb⟩
          · have HT : Hid (findG code (grps zs N) = findG code ((grps zs N).drop (k + 1))) := by show _ = _; rw [HGO.out, if_neg (by omega)]
            clear HGO
            go_wp2_with (go_at_call 58; (first | (with_reducible refine (H16.out _ hb).mono ?_) | (with_reducible refine (H20.out _ hb).mono ?_) | (with_reducible refine (H24.out _ hb).mono ?_)); rintro e wn ⟨rfl, hbn⟩; replace hb := hb.trans (hbn.mono hb.size); clear hbn)
            go_roundw
            case rel => exact ⟨k + 1, by omega, by go_num, HT, hb⟩
            case measure => simp [intOf]; omega
        · have HT : Hid (findG code (grps zs N) = findG code ((grps zs N).drop (k + 1))) := by show _ = _; rw [HGO.out, if_neg (by omega)]
          clear HGO
          go_wp2_with (go_at_call 58; (first | (with_reducible refine (H16.out _ hb).mono ?_) | (with_reducible refine (H20.out _ hb).mono ?_) | (with_reducible refine (H24.out _ hb).mono ?_)); rintro e wn ⟨rfl, hbn⟩; replace hb := hb.trans (hbn.mono hb.size); clear hbn)
          go_roundw
          case rel => exact ⟨k + 1, by omega, by go_num, HT, hb⟩
          case measure => simp [intOf]; omega
      · have HT : Hid (findG code (grps zs N) = 0) := by show _ = _; rw [hok.out, List.drop_of_length_le (by rw [grps_len]; omega)]; rfl
        clear HAll
        go_wp2
        go_ret
        rw [HT.out]
        exact ⟨rfl, hb⟩
  · have HT := Lib.hid (HNeg.out (by omega))
    clear HAll
    go_enter Tryd.func39, Tryd.ntmps39
    go_wp2
    go_loopw [7] (fun i wr => i = .int .i64 0 ∧ Below w.heap.size w wr) (fun i _ => 0)
    case atStart => exact ⟨rfl, hb⟩
    case round =>
      clear hb
      obtain ⟨rfl, hb⟩ := hrel
      by_cases h0 : 0 < N
      · go_wp2
        go_ret
        rw [HT.out]
        exact ⟨rfl, hb⟩
      · go_wp2
        go_ret
        rw [HT.out]
        exact ⟨rfl, hb⟩

end Go.Proofs.YthkaeimpflggjaaDoor

/- The document's example; the law GroupParses. -/
namespace Go.Proofs.YthkaeimpflggjaaDoor
open Go.RowKit
set_option linter.unusedVariables false

/-- A map of groups in memory: of a table, or of none. -/
structure GMap (w : World) (A : Option Addr) (n : Nat) (l : List Rn) : Prop where
  row : RowS encG 3 w A n l
  ok : rnOK 1114111 (-1) l
  fit : ∀ x ∈ l, 0 ≤ x.a ∧ x.b ≤ 1114111 ∧ 0 ≤ x.g ∧ x.a ≤ x.b ∧ x.g + (x.b - x.a) ≤ 65535

theorem GMap.below {w w' : World} {A : Option Addr} {n : Nat} {l : List Rn} (h : GMap w A n l) (hb : Below w.heap.size w w') : GMap w' A n l := ⟨h.row.below hb, h.ok, h.fit⟩
theorem GMap.nil (w : World) : GMap w none 0 [] := ⟨RowS.empty _ _, trivial, fun x hx => by simp at hx⟩
theorem GMap.of {w : World} {zs : List Int} {A : Option Addr} {B c : Nat} (hB : Bytes zs) (hR : gRight zs = true) (h : OwnS 94 encG 3 w B A (gN zs) c (grps zs (gN zs))) : GMap w A (gN zs) (grps zs (gN zs)) := by
  have hk : gOkK zs (gN zs) = true := by unfold gRight at hR; simp at hR; exact hR.2
  exact ⟨h.row encG_len, grps_ok hB hk, grps_fit hB hk⟩
theorem GMap.look {w : World} {A : Option Addr} {n c : Nat} {l : List Rn} (h : GMap w A n l) (hn : n ≤ 1000000) (code : Int) (c0 : -2147483648 ≤ code) (c1 : code ≤ 2147483647) :
    Calls Tryd.prog 33 #[gmV A n c, .int .i32 code] w (Ret w (.int .u16 (lookR l code))) := glook_any A n c l code w h.row hn h.ok h.fit c0 c1
theorem GMap.find {w : World} {A : Option Addr} {n : Nat} {l : List Rn} (h : GMap w A n l) (code : Int) : findG code l = lookR l code := findG_look l (-1) h.ok (fun x hx => by have := h.fit x hx; omega)

def ex10 : List Pr := [⟨65, 3⟩, ⟨66, 4⟩, ⟨128512, 5⟩]
theorem ex10_g : PrG ex10 := by intro p hp; simp [ex10] at hp; rcases hp with rfl | rfl | rfl <;> simp

theorem ret_true {w w' : World} {b : Bool} (h : b = true) (hb : Below w.heap.size w w') : True_ w (.returned (.bool b)) w' := by
  subst h
  exact ⟨rfl, hb⟩

theorem lookR_lt (l : List Rn) (code : Int) : 0 ≤ lookR l code ∧ lookR l code ≤ 65535 := by
  unfold lookR
  split
  · omega
  · split <;> omega

/-- A table's bytes, a map in a box, and codes. -/
structure LP (w wr : World) (Ac : Option Addr) (nc : Nat) (zs : List Int) (bx : Nat) (A2 : Option Addr) (N c2 : Nat) (l : List Rn) (A1 : Option Addr) (n1 : Nat) (z1 : List Int) : Prop where
  row : Row wr Ac nc (cellsOf .u8 zs)
  box : wr.heap[bx]? = some (.cells #[.slice A2 N c2] 32 (0, 0))
  map : GMap wr A2 N l
  cod : Row wr A1 n1 (cellsOf .i32 z1)
  bel : Below w.heap.size w wr
theorem LP.below {w wr w' : World} {Ac : Option Addr} {nc : Nat} {zs : List Int} {bx : Nat} {A2 : Option Addr} {N c2 : Nat} {l : List Rn} {A1 : Option Addr} {n1 : Nat} {z1 : List Int} (h : LP w wr Ac nc zs bx A2 N c2 l A1 n1 z1) (hb : Below wr.heap.size wr w') : LP w w' Ac nc zs bx A2 N c2 l A1 n1 z1 :=
  ⟨h.row.below hb, kept_block h.box hb, h.map.below hb, h.cod.below hb, h.bel.trans (hb.mono h.bel.size)⟩
theorem LP.cell {w wr : World} {Ac : Option Addr} {nc : Nat} {zs : List Int} {bx : Nat} {A2 : Option Addr} {N c2 : Nat} {l : List Rn} {A1 : Option Addr} {n1 : Nat} {z1 : List Int} (h : LP w wr Ac nc zs bx A2 N c2 l A1 n1 z1) : wr.cell? ⟨bx, 0, none⟩ = some (.slice A2 N c2) := cell_of_row _ _ 0 _ _ _ h.box

theorem i32_wf {z1 : List Int} (h : Wf .i32 z1) {j : Nat} {x : Int} (hx : z1[j]? = some x) : -2147483648 ≤ x ∧ x ≤ 2147483647 := bounds_i32 (h x (List.mem_of_getElem? hx))

end Go.Proofs.YthkaeimpflggjaaDoor

/- Which functions of this seat are the library's own: numbers alone. -/
namespace Go.Proofs
open Go.Shelf
def Tryd.layLen_ren : Go.Shelf.Ren := ⟨fun | 125 => 74 | 128 => 77 | 129 => 78 | n => n, fun | 46 => 96 | 3 => 3 | 51 => 58 | 53 => 84 | 4 => 4 | 5 => 5 | 9 => 9 | n => n, fun | n => n⟩
theorem Tryd.layLen : Go.Proofs.Lays.n125 Tryd.prog Tryd.layLen_ren := {
  mixed := by kernel_rfl
  f125 := Tryd.func74.trans (congrArg some (by kernel_rfl))
  f128 := Tryd.func77.trans (congrArg some (by kernel_rfl))
  f129 := Tryd.func78.trans (congrArg some (by kernel_rfl))
  t3 := Tryd.underlying3
  a3 := Tryd.isAgg3
  z3 := Tryd.sizeOf3
  v3 := Tryd.zeroValue3
  t4 := Tryd.underlying4
  a4 := Tryd.isAgg4
  z4 := Tryd.sizeOf4
  v4 := Tryd.zeroValue4
  t5 := Tryd.underlying5
  a5 := Tryd.isAgg5
  z5 := Tryd.sizeOf5
  v5 := Tryd.zeroValue5
  t9 := Tryd.underlying9
  a9 := Tryd.isAgg9
  z9 := Tryd.sizeOf9
  v9 := Tryd.zeroValue9
  t46 := Tryd.underlying96
  a46 := Tryd.isAgg96
  z46 := Tryd.sizeOf96
  v46 := Tryd.zeroValue96
  t51 := Tryd.underlying58
  a51 := Tryd.isAgg58
  z51 := Tryd.sizeOf58
  v51 := Tryd.zeroValue58
  t53 := Tryd.underlying84
  a53 := Tryd.isAgg84
  z53 := Tryd.sizeOf84
  v53 := Tryd.zeroValue84 }
end Go.Proofs

/- A byte that is turned. -/
namespace Go.Proofs.YthkaeimpflggjaaDoor
open Go.RowKit
set_option linter.unusedVariables false

theorem xor_byte2 (x y : Int) : 0 ≤ bits .xor .u8 x y ∧ bits .xor .u8 x y ≤ 255 := by
  have h := wf_bits .xor .u8 x y
  exact bounds_u8 h

theorem set_bytes {zs : List Int} (h : Bytes zs) (j : Nat) {v : Int} (hv : 0 ≤ v ∧ v ≤ 255) : Bytes (zs.set j v) := fun x hx => by
  rcases List.mem_or_eq_of_mem_set hx with h' | rfl
  · exact h x h'
  · exact hv

theorem take_bytes {zs : List Int} (h : Bytes zs) (j : Nat) : Bytes (zs.take j) := fun x hx => h x (List.mem_of_mem_take hx)

end Go.Proofs.YthkaeimpflggjaaDoor

/- seg: the numbers of a table, how many segments: contracts over this seat's translation. -/
namespace Go.Proofs.YthkaeimpflggjaaDoor
open Go.RowKit
set_option linter.unusedVariables false

theorem Tryd.u16info : (Tryd.prog.info? 43).map (fun i => (i.zero, i.size, i.bytes)) = some (some (.int .u16 0), 1, 2) := by kernel_rfl

def arrV (l : List Int) : Value := .agg (cellsOf .u16 l).toArray

set_option maxRecDepth 100000 in
set_option maxHeartbeats 4000000 in
theorem ssearch_any (n : Nat) (w : World) (h0 : 1 ≤ n) (h1 : n < 32768) : Calls Tryd.prog 61 #[.int .i64 n] w (Ret w (arrV (srL n))) := by
  obtain ⟨h3, h4⟩ := expoS_spec n h0
  have h2 := expoS_lt n h0 h1
  have hb : Lib.bitLen n = expoS n + 1 := by
    have h5 : n / 2 ^ expoS n = 1 := by
      rw [Nat.pow_succ] at h4
      have := Nat.pos_of_ne_zero (Nat.ne_of_gt (Nat.two_pow_pos (expoS n)))
      exact (Nat.div_eq_iff this).2 (by omega)
    rw [Lib.bitLen_shift (expoS n) n h3 (by omega), h5]
    rfl
  have hlen := fun W : World => Any.bits_Len Tryd.layLen (n : Int) W (by omega) (by omega)
  change ∀ W, Calls Tryd.prog 74 _ _ _ at hlen
  simp only [Int.toNat_natCast, hb] at hlen
  have HL := Lib.hid hlen
  have H : Hid (srL n = [(2 * ((2 ^ expoS n : Nat) : Int) : Int), (expoS n : Int), 2 * (n : Int) - 2 * ((2 ^ expoS n : Nat) : Int)]) := rfl
  have hA := (Below.refl w.heap.size w).alloc (Nat.le_refl _) (.cells #[.int .u16 0, .int .u16 0, .int .u16 0] 117)
  have SI : Hid ((Tryd.prog.info? 117).map (·.size) = some 3) := by show _ = _; kernel_rfl
  clear hlen hb hA
  generalize expoS n = q at *
  rcases q with _ | _ | _ | _ | _ | _ | _ | _ | _ | _ | _ | _ | _ | _ | _ | q
  case succ.succ.succ.succ.succ.succ.succ.succ.succ.succ.succ.succ.succ.succ.succ => omega
  all_goals
    simp only [Nat.reducePow, Nat.reduceAdd, Nat.zero_add] at h3 h4
    go_enter Tryd.func61, Tryd.ntmps61
    go_wp2_with fail
    refine (HL.out _).mono ?_
    rintro e w' ⟨rfl, rfl⟩
    go_wp2
    exact bodyPost_ret (results_cell_row Tryd.results61 _ _ w.heap.size 117 _ (0, 0) _ rfl (heap_alloc_new w _) Tryd.underlying117 rfl SI.out) rfl ⟨by rw [H.out]; simp [arrV, cellsOf], (Below.refl _ _).alloc (Nat.le_refl _) _⟩

/-- How many numbers. -/
def sM (zs : List Int) : Nat := (n2at zs 2 / 2).toNat

/-- What reading the numbers leaves. -/
def RetNs (w : World) (zs : List Int) (e : Ending) (w' : World) : Prop :=
  Below w.heap.size w w' ∧ ((sFront zs = false ∧ e = .returned (.tuple #[.slice none 0 0, .bool false])) ∨
    (sFront zs = true ∧ ∃ g, e = .returned (.tuple #[.slice (some ⟨g, 0, none⟩) (sM zs) (sM zs), .bool true]) ∧ Own 43 .u16 w' w.heap.size (some ⟨g, 0, none⟩) (sM zs) (sM zs) (nums zs (sM zs))))

/-- A Reader, and a fresh row of numbers beside it. -/
structure NP (w wr : World) (b : Nat) (zs : List Int) (i gp n : Nat) (l : List Int) : Prop where
  rd : RdQ wr w.heap.size b zs i
  own : Own 43 .u16 wr w.heap.size (some ⟨gp, 0, none⟩) n n l
  ne : gp ≠ b
  bel : Below w.heap.size w wr
theorem NP.ask {w wr w' : World} {b : Nat} {zs : List Int} {i j gp n : Nat} {l : List Int} (h : NP w wr b zs i gp n l) (hr : RdQ w' w.heap.size b zs j) (hg : wr.grownBy w' (some b)) : NP w w' b zs j gp n l :=
  ⟨hr, h.own.grown hg (fun g e => by simp [blockOf] at e; subst e; intro e; cases e; exact h.ne rfl), h.ne, h.bel.grown hg h.bel.size (fun k e => by cases e; exact h.rd.from_)⟩
theorem NP.set {w wr : World} {b : Nat} {zs : List Int} {i gp n : Nat} {l : List Int} (h : NP w wr b zs i gp n l) (k : Nat) (v : Int) : NP w (wr.setCell ⟨gp, k, none⟩ (.int .u16 v)) b zs i gp n (l.set k v) := by
  obtain ⟨cur, hc⟩ := h.own.block
  exact ⟨rdq_other h.rd hc (by decide) h.ne k _, h.own.set k v, h.ne, below_set (h.own.from_ gp rfl).1 k _ h.bel⟩

set_option maxRecDepth 100000 in
set_option maxHeartbeats 4000000 in
theorem snumbers_any (A : Option Addr) (n c : Nat) (zs : List Int) (w : World) (hr : Row w A n (cellsOf .u8 zs)) (hB : Bytes zs) (hn : n ≤ 1000000) (hc : n ≤ c) :
    Calls Tryd.prog 71 #[.slice A n c] w (RetNs w zs) := by
  obtain ⟨i0, hi, hz0, hz1, hz2⟩ := info_parts Tryd.u16info
  obtain ⟨m, hm, hmn, hm24⟩ : ∃ m : Nat, min (n : Int) 24 = m ∧ m ≤ n ∧ m ≤ 24 := ⟨min n 24, by omega, by omega, by omega⟩
  have hr' : Row w A m (cellsOf .u8 (zs.take 24)) := by rw [show m = min n 24 by omega]; exact row_take16 24 hr
  have hB' : Bytes (zs.take 24) := cut_bytes hB _
  have hl' := hr'.len
  have e0 : n2at (zs.take 24) 0 = n2at zs 0 := n2at_takeG zs 24 0 (by omega)
  have e2 : n2at (zs.take 24) 2 = n2at zs 2 := n2at_takeG zs 24 2 (by omega)
  have k2 := n2at_lt hB 2
  have k0 := n2at_lt hB 0
  have hln := hr.len
  have HF : Hid (sFront zs = (decide (n2at zs 0 = 4) && decide (24 ≤ n2at zs 2) && decide (n2at zs 2 ≤ n) && decide (n2at zs 2 % 2 = 0))) := by show _ = _; unfold sFront; rw [hln]
  have HB := Lib.hid hB
  have HB' := Lib.hid hB'
  have hmc : (m : Int) ≤ (c : Int) := by omega
  have hm0 : (0 : Int) ≤ (m : Int) := by omega
  have HNo : Hid (∀ w', sFront zs = false → Below w.heap.size w w' → RetNs w zs (.returned (.tuple #[.slice none 0 0, .bool false])) w') := fun w' h1 h2 => ⟨h2, .inl ⟨h1, rfl⟩⟩
  clear hB hB'
  go_enter Tryd.func71, Tryd.ntmps71
  go_wp2_with fail
  refine (new_any A m _ _ w hr' (by omega)).mono ?_
  rintro e w1 ⟨b, rfl, hrd, hb1⟩
  have hq := RdQ.new hrd
  have hr1 := hr.below hb1
  clear hrd hr' hm
  go_wp2_with fail
  with_reducible refine (rdq_u16 hq HB'.out (by omega)).mono ?_
  rintro e w2 ⟨rfl, hq2, hg2⟩
  have hb2 := hb1.grown hg2 hb1.size (fun k e => by cases e; exact hq.from_)
  clear hq hg2 hb1
  simp only [Nat.zero_add] at hq2
  rw [e0]
  go_wp2_with fail
  with_reducible refine (rdq_u16 hq2 HB'.out (by omega)).mono ?_
  rintro e w3 ⟨rfl, hq3, hg3⟩
  have hb3 := hb2.grown hg3 hb2.size (fun k e => by cases e; exact hq2.from_)
  clear hq2 hg3 hb2 hq3
  rw [e2]
  have hr3 := hr.below hb3
  clear e0 e2 hr1 hr hl'
  by_cases h1 : n2at zs 0 = 4
  · have b1 : (n2at zs 0 == 4) = true := by simp [h1]
    by_cases h2 : 24 ≤ n2at zs 2
    · by_cases h3 : n2at zs 2 ≤ n
      · by_cases h4 : n2at zs 2 % 2 = 0
        · have HT : Hid (sFront zs = true) := by show _ = _; rw [HF.out]; simp [h1, h2, h3, h4]
          obtain ⟨M, hM⟩ : ∃ M : Nat, n2at zs 2 / 2 = (M : Int) := ⟨(n2at zs 2 / 2).toNat, by omega⟩
          have hS : n2at zs 2 = 2 * (M : Int) := by omega
          have HM : Hid (sM zs = M) := by show _ = _; unfold sM; omega
          have b4 : (2 * (M : Int) % 2 != 0) = false := by simp
          have hps : Row w3 A (2 * M) (cellsOf .u8 (zs.take (2 * M))) := by rw [← cellsOf_take]; exact hr3.take (by omega)
          have hBp : Bytes (zs.take (2 * M)) := take_bytes HB.out _
          have hAt : ∀ i, i < M → n2at (zs.take (2 * M)) (2 * i) = n2at zs (2 * i) := fun i hi => n2at_takeG zs _ _ (by omega)
          have hpl := hps.len
          have HBp := Lib.hid hBp
          have HAt := Lib.hid hAt
          have hd2 : 2 * (M : Int) / 2 = (M : Int) := by omega
          have hb3s := hb3.size
          rw [hS] at h2 h3 k2 ⊢
          clear HF HNo h1 h4 hM hBp hAt hr3 k0 hS
          have b1' := b1
          generalize n2at zs 0 = v0 at *
          have hMc : 2 * (M : Int) ≤ (c : Int) := by omega
          have hM0 : (0 : Int) ≤ 2 * (M : Int) := by omega
          have hMi : ((2 * M : Nat) : Int) = 2 * (M : Int) := by omega
          generalize zs.take (2 * M) = ps at *
          go_wp2_with fail
          with_reducible refine (new_any _ _ _ ps _ hps (by omega)).mono ?_
          rintro e w4 ⟨b', rfl, hrd, hb4⟩
          have hlt4 := hrd.lt
          have hb4w := hb3.trans (hb4.mono hb3.size)
          have hb4s := hb4.size
          clear hps
          go_wp2_with (at_make; refine wpList_make_ints rfl (.tmp 43) (.tmp 43) _ rfl 43 .u16 w.heap.size i0 2 Tryd.underlying22 hi hz0 hz1 hz2 _ _ M M rfl rfl (by omega) (by omega) (Nat.le_refl _) (by omega) (by omega) hb4w.size ?_; intro w5 hown5 hg5)
          have hs : NP w w5 b' ps (2 * 0) w4.heap.size M (nums zs 0 ++ List.replicate (M - 0) 0) :=
            ⟨(RdQ.new (hrd.mono hb3s)).keep hg5.size (fun q hq _ _ => hg5.block q hq (by simp)), hown5, by omega, hb4w.grown hg5 hb4w.size (fun k e => by cases e)⟩
          clear hown5 hg5 hrd hb4 hb4w hb3 b1 b1' b4 hlt4
          generalize w4.heap.size = gp at *
          go_loopw [47] (fun i wr => ∃ k : Nat, k ≤ M ∧ i = .int .i64 k ∧ NP w wr b' ps (2 * k) gp M (nums zs k ++ List.replicate (M - k) 0)) (fun i _ => M - (intOf i).toNat)
          case atStart => exact ⟨0, Nat.zero_le _, rfl, hs⟩
          case round =>
            clear hs
            obtain ⟨k, hk, rfl, hs⟩ := hrel
            by_cases hlt : k < M
            · have hx := HAt.out k hlt
              have HR := Lib.hid (rdq_u16 hs.rd HBp.out (by omega))
              rw [hx] at HR
              have HSet := Lib.hid (nums_set zs M k hlt)
              clear hx
              go_wp2_with fail
              with_reducible refine HR.out.mono ?_
              rintro e w6 ⟨rfl, hr6, hg6⟩
              have hs6 := hs.ask hr6 hg6
              clear hs hr6 hg6 HR
              have hs7 := hs6.set k (n2at zs (2 * k))
              rw [HSet.out] at hs7
              have H7 := Lib.hid hs7
              obtain ⟨z, hz⟩ := getP (l := nums zs k ++ List.replicate (M - k) 0) (j := k) (by simp [nums_len]; omega)
              obtain ⟨gg, off, e', _, c0⟩ := hs6.own.row.at (j := k) (u := .int .u16 z) (cellsOf_get hz)
              simp only [Option.some.injEq, Addr.mk.injEq, and_true] at e'
              obtain ⟨rfl, rfl⟩ := e'
              rw [Nat.zero_add] at c0
              have f0 := hs6.own.thaw
              clear hs7 hz hs6
              generalize n2at zs (2 * k) = v at *
              go_wp2
              go_roundw
              case rel => exact ⟨k + 1, by omega, by go_num, (show 2 * k + 2 = 2 * (k + 1) by omega) ▸ H7.out⟩
              case measure => simp [intOf]; omega
            · obtain rfl : k = M := by omega
              have ho := hs.own
              rw [Nat.sub_self, List.replicate_zero, List.append_nil] at ho
              go_wp2
              go_ret2
              exact ⟨hs.bel, .inr ⟨HT.out, gp, (by rw [HM.out]; rfl), (by rw [HM.out]; exact ho)⟩⟩
        · have HT : Hid (sFront zs = false) := by show _ = _; rw [HF.out]; simp [h4]
          have b4 : (n2at zs 2 % 2 != 0) = true := by simp [h4]
          clear h4 HF
          go_wp2
          go_ret2
          exact HNo.out _ HT.out hb3
      · have HT : Hid (sFront zs = false) := by show _ = _; rw [HF.out]; simp [h3]
        clear HF
        go_wp2
        go_ret2
        exact HNo.out _ HT.out hb3
    · have HT : Hid (sFront zs = false) := by show _ = _; rw [HF.out]; simp [h2]
      clear HF
      go_wp2
      go_ret2
      exact HNo.out _ HT.out hb3
  · have HT : Hid (sFront zs = false) := by show _ = _; rw [HF.out]; simp [h1]
    have b1 : (n2at zs 0 == 4) = false := by simp [h1]
    clear HF h1
    go_wp2
    go_ret2
    exact HNo.out _ HT.out hb3

end Go.Proofs.YthkaeimpflggjaaDoor

/- Join of any written-out row of byte slices; arrays of numbers held against one another. -/
namespace Go.Proofs.YthkaeimpflggjaaDoor
open Go.RowKit
set_option linter.unusedVariables false

theorem joinN_any (V : World) (b : Nat) (l : List BsV) (k : Nat) (cs : Array Value) (hcs : cs = (l.map BsV.val).toArray) (hb : b = V.heap.size) (hk : l.length = k) (hs : ∀ p ∈ l, p.ok V) (hk' : k ≤ 140737488351232) (hl : (joined l).length ≤ 140737488351232) :
    Calls Tryd.prog 19 #[.slice (some ⟨b, 0, none⟩) k k] (V.alloc (.cells cs 28)) (RetB V (joined l)) := by
  subst hb hcs
  have ha : Below V.heap.size V (V.alloc (.cells (l.map BsV.val).toArray 28)) := (Below.refl _ _).alloc (Nat.le_refl _) _
  refine (join_any _ k k l _ (row_vals V 28 _ k (by rw [List.length_map]; exact hk)) (fun p hp => ?_) hk' hl).mono ?_
  · exact Row.below (hs p hp) ha
  · rintro e w' ⟨A, n, c, rfl, ho, hb⟩
    exact ⟨A, n, c, rfl, ho.mono (by simp), ha.trans (hb.mono (by simp))⟩

/-- A search for the first place where two lists part. -/
theorem forIn_apart {P : Program} (w : World) (xs ys : List Int) (f : Nat → Option Bool × Unit → Sem (ForInStep (Option Bool × Unit)))
    (hf : ∀ i x y, xs[i]? = some x → ys[i]? = some y → ∀ r, (f i r).run P w = .ok (if x = y then .yield (none, ()) else .done (some false, ())) w) (hxy : xs.length = ys.length) :
    ∀ (n s : Nat), s + n = xs.length → xs.take s = ys.take s → (forIn (List.range' s n) (none, ()) f).run P w = .ok (if xs = ys then (none, ()) else (some false, ())) w := by
  intro n
  induction n with
  | zero =>
    intro s hsn ht
    have : xs = ys := by rw [List.take_of_length_le (by omega), List.take_of_length_le (by omega)] at ht; exact ht
    simp [this]
  | succ n ih =>
    intro s hsn ht
    have h1 : xs[s]? = some xs[s] := List.getElem?_eq_getElem (by omega)
    have h2 : ys[s]? = some ys[s] := List.getElem?_eq_getElem (by omega)
    rw [List.range'_succ, List.forIn_cons]
    simp only [Sem.run_bind, hf s _ _ h1 h2, Result.andThen_ok]
    by_cases he : xs[s] = ys[s]
    · rw [if_pos he]
      exact ih (s + 1) (by omega) (by rw [List.take_add_one, List.take_add_one, h1, h2, ht, he])
    · have hne : ¬ xs = ys := by
        rintro rfl
        exact he rfl
      rw [if_neg he, if_neg hne]
      simp [Sem.run_pure]

/-- Arrays of numbers are alike just if all their numbers are. -/
theorem run_equalIn_ints {P : Program} (w : World) (d : Nat) (t e : TypeId) (len : Nat) (k k' : IntKind) (xs ys : List Int) (ht : P.underlying t = some (.array len e)) (he : P.underlying e = some (.int k')) (ha : (isAgg e).run P w = .ok false w) (hs : (Go.sizeOf e).run P w = .ok 1 w) (hx : xs.length = len) (hy : ys.length = len) :
    (Op.equalIn (d + 2) t (.agg (cellsOf k xs).toArray) (.agg (cellsOf k ys).toArray)).run P w = .ok (decide (xs = ys)) w := by
  rw [show d + 2 = (d + 1) + 1 from rfl, Op.equalIn]
  simp only [Sem.run_bind, run_underlying ht, hs, Result.andThen_ok]
  rw [Std.Legacy.Range.forIn_eq_forIn_range']
  rw [show Std.Legacy.Range.size [0:len] = xs.length by simp [Std.Legacy.Range.size, hx]]
  rw [forIn_apart w xs ys _ ?_ (by omega) xs.length 0 (by omega) (by simp)]
  · simp only [Result.andThen_ok]
    by_cases h : xs = ys <;> simp [h, Sem.run_pure]
  · intro i x y h1 h2 r
    simp only [Sem.run_bind, Go.part, ha, Result.andThen_ok, Bool.false_eq_true, if_false, List.getElem?_toArray, Nat.mul_one, cellsOf_get h1, cellsOf_get h2, Sem.run_pure, run_equalIn_int w d e k k' x y he]
    by_cases h : x = y <;> simp [h, Sem.run_pure]

end Go.Proofs.YthkaeimpflggjaaDoor
