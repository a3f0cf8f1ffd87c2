/- group.Parse, Groups and Look, as contracts over this seat's translation. -/
import Derived.Test.YthkaeimpflggjaaDoorGrpP
import Derived.Deep.WholeRow
import Derived.RegionTactic
import Derived.ChangeAlike
import Derived.BigRegion
import Derived.Deep.QuietTactic
import Derived.BigQuiet
namespace Go.Proofs.YthkaeimpflggjaaDoor
open Go.RowKit
set_option linter.unusedVariables false

def encG (x : Rn) : List Value := [.int .i32 x.a, .int .i32 x.b, .int .u16 x.g]
theorem encG_len (x : Rn) : (encG x).length = 3 := rfl
theorem encG_one (x : Rn) : ∀ u ∈ encG x, u.oneCell' = true := by intro u hu; simp [encG] at hu; rcases hu with rfl | rfl | rfl <;> rfl
theorem Tryd.grpinfo : (Tryd.prog.info? 94).map (fun i => (i.zero, i.size, i.bytes)) = some (some (.agg #[.int .i32 0, .int .i32 0, .int .u16 0]), 3, 12) := by kernel_rfl

theorem Tryd.grpsize : (Tryd.prog.info? 94).map (·.size) = some 3 := by kernel_rfl

theorem one3 (a b c : Int) : (#[Value.int .i32 a, .int .i32 b, .int .u16 c].all (·.oneCell')) = true := by
  rw [← Array.all_toList]
  rfl

theorem grp3 (a b c : Int) : (Tryd.prog.info? 94).map (·.size) = some (#[Value.int .i32 a, .int .i32 b, .int .u16 c]).size ∧ (#[Value.int .i32 0, .int .i32 0, .int .u16 0]).size = (#[Value.int .i32 a, .int .i32 b, .int .u16 c]).size ∧ (#[Value.int .i32 a, .int .i32 b, .int .u16 c].all (·.oneCell')) = true :=
  ⟨Tryd.grpsize, rfl, one3 a b c⟩

theorem atG {w : World} {A : Option Addr} {n : Nat} {l : List Rn} {j : Nat} {x : Rn} (h : RowS encG 3 w A n l) (hj : l[j]? = some x) :
    ∃ g off, A = some ⟨g, off, none⟩ ∧ g < w.heap.size ∧ w.cell? ⟨g, off + j * 3, none⟩ = some (.int .i32 x.a) ∧ w.cell? ⟨g, off + j * 3 + 1, none⟩ = some (.int .i32 x.b) ∧ w.cell? ⟨g, off + j * 3 + 2, none⟩ = some (.int .u16 x.g) := by
  obtain ⟨g, off, e, hg, hc⟩ := h.at encG_len (by omega) hj
  exact ⟨g, off, e, hg, hc 0 _ rfl, hc 1 _ rfl, hc 2 _ rfl⟩

/-- The result's cell, a Reader, and a fresh row of groups beside them. -/
structure GP (w wr : World) (b : Nat) (zs : List Int) (i gp n : Nat) (l : List Rn) : Prop where
  rd : RdQ wr w.heap.size b zs i
  own : OwnS 94 encG 3 wr w.heap.size (some ⟨gp, 0, none⟩) n n l
  box : wr.heap[w.heap.size]? = some (.cells #[.slice none 0 0] 32 (0, 0))
  ne : gp ≠ b
  n1 : w.heap.size ≠ b
  n2 : w.heap.size ≠ gp
  bel : Below w.heap.size w wr

section
variable {w wr w' : World} {b : Nat} {zs : List Int} {i j gp n : Nat} {l : List Rn}
theorem GP.ask (h : GP w wr b zs i gp n l) (hr : RdQ w' w.heap.size b zs j) (hg : wr.grownBy w' (some b)) : GP w w' b zs j gp n l :=
  ⟨hr, h.own.grown hg (fun g e => by simp [blockOf] at e; subst e; intro e; cases e; exact h.ne rfl), (hg.block _ (lt_of_block h.box) (by intro e; cases e; exact h.n1 rfl)).trans h.box, h.ne, h.n1, h.n2, h.bel.grown hg h.bel.size (fun k e => by cases e; exact h.rd.from_)⟩
theorem GP.drew (h : GP w wr b zs i gp n l) : GP w wr.drew b zs i gp n l := ⟨h.rd.drew, h.own.drew, h.box, h.ne, h.n1, h.n2, h.bel.drew⟩
theorem GP.below (h : GP w wr b zs i gp n l) (hb : Below wr.heap.size wr w') : GP w w' b zs i gp n l :=
  ⟨h.rd.below hb, h.own.below hb, kept_block h.box hb, h.ne, h.n1, h.n2, h.bel.trans (hb.mono h.bel.size)⟩
theorem GP.set (h : GP w wr b zs i gp n l) (k : Nat) (hk : k < n) (m : Rn) : GP w (setCells wr gp (k * 3) (encG m)) b zs i gp n (l.set k m) := by
  have hblk : ∃ cur, wr.heap[gp]? = some (.cells cur 94 (0, 0)) := by
    rcases h.own.shape with ⟨e, _⟩ | ⟨g', cur, e, _, _, hh, _⟩
    · cases e
    · simp only [Option.some.injEq, Addr.mk.injEq, and_true] at e
      subst e
      exact ⟨cur, hh⟩
  obtain ⟨cur, hc⟩ := hblk
  refine ⟨h.rd.keep (by rw [setCells_size]; exact Nat.le_refl _) (fun g hg _ ho => setCells_block (by
      rintro rfl
      rcases ho with e | ⟨cur', hc'⟩
      · exact h.ne e
      · rw [hc] at hc'
        simp at hc') _ _ _), ownS_store encG_len h.own hk m, (setCells_block h.n2 _ _ _).trans h.box, h.ne, h.n1, h.n2, setCells_below (h.own.from_ gp rfl).1 _ _ _ h.bel⟩
end

def gmV (A : Option Addr) (n c : Nat) : Value := .agg #[.slice A n c]

/-- What Parse leaves. -/
def RetGP (w : World) (zs : List Int) (e : Ending) (w' : World) : Prop :=
  Below w.heap.size w w' ∧ ((gRight zs = false ∧ e = .returned (.tuple #[gmV none 0 0, .int .i64 2])) ∨
    (gRight zs = true ∧ ∃ A c, e = .returned (.tuple #[gmV A (gN zs) c, .int .i64 0]) ∧ OwnS 94 encG 3 w' w.heap.size A (gN zs) c (grps zs (gN zs))))

set_option maxRecDepth 100000 in
set_option maxHeartbeats 2000000 in
theorem gparse_any (A : Option Addr) (n c : Nat) (zs : List Int) (w : World) (hr : Row w A n (cellsOf .u8 zs)) (hB : Bytes zs) (hn : n ≤ 1000000) (hc : n ≤ c) :
    Calls Tryd.prog 51 #[.slice A n c] w (RetGP w zs) := by
  have SI : Hid ((Tryd.prog.info? 32).map (·.size) = some 1) := by show _ = _; kernel_rfl
  obtain ⟨i0, hi, hz0, hz1, hz2⟩ := info_parts Tryd.grpinfo
  have hA : Below w.heap.size w (w.alloc (.cells #[.slice none 0 0] 32)) := (Below.refl _ _).alloc (Nat.le_refl _) _
  have hk := heap_alloc_new w (.cells #[.slice none 0 0] 32)
  have HC := Lib.hid (gcount_any A n c zs _ (hr.below hA) hB hn hc)
  have Hn := Lib.hid hr.len
  go_enter Tryd.func51, Tryd.ntmps51
  go_wp2_with fail
  with_reducible refine HC.out.mono ?_
  rintro e w1 ⟨rfl, hb1⟩
  have hk1 := kept_block hk hb1
  have hbw := hA.trans (hb1.mono hA.size)
  have hr1 := hr.below hbw
  have hs1 : w.heap.size < w1.heap.size := lt_of_block hk1
  clear hk hb1 hA hr HC
  have c0 : w1.cell? ⟨w.heap.size, 0, none⟩ = some (.slice none 0 0) := cell_of_row w1 _ 0 _ _ _ hk1
  have f0 := thawed hk1
  have HE : Hid (∀ v0 : Value, (w1.setCell ⟨w.heap.size, 0, none⟩ v0).heap[w.heap.size]? = some (.cells #[v0] 32 (0, 0)) ∧ Below w.heap.size w (w1.setCell ⟨w.heap.size, 0, none⟩ v0)) := by
    show ∀ _, _
    intro v0
    exact ⟨set_block hk1 0 v0, below_set (Nat.le_refl _) _ _ hbw⟩
  cases hf : gFront zs with
  | false =>
    have HF := Lib.hid (gRight_front hf)
    clear hf
    go_wp2
    obtain ⟨s1, s2⟩ := HE.out (.slice none 0 0)
    exact bodyPost_ret (v := .tuple #[gmV none 0 0, .int .i64 2]) (results_two2 Tryd.results51 _ _ w.heap.size 32 _ (0, 0) _ rfl rfl s1 Tryd.underlying32 rfl SI.out) rfl ⟨s2, .inl ⟨HF.out, rfl⟩⟩
  | true =>
    clear HE
    have HF := Lib.hid (gRight_is hf)
    have hcv : gCnt zs = (gN zs : Int) := by have := n4at_lt hB 12; unfold gCnt gN; rw [hf, if_pos rfl]; omega
    have hlen : 16 + 12 * gN zs ≤ n := by
      have h12 := n4at_lt hB 12
      have := hr1.len
      simp [gFront] at hf
      unfold gN
      omega
    obtain ⟨g, off, rfl, hgl, _⟩ := hr1.2 (by omega)
    have hps : Row w1 ((some ⟨g, off, none⟩ : Option Addr).map (·.add 16)) (16 + 12 * gN zs - 16) (cellsOf .u8 ((zs.take (16 + 12 * gN zs)).drop 16)) := by
      have := (hr1.take hlen).drop 16
      rw [cellsOf_take, cellsOf_drop] at this
      exact this
    have hAt : ∀ i, i < gN zs → gAt zs i = ⟨n4at ((zs.take (16 + 12 * gN zs)).drop 16) (12 * i), n4at ((zs.take (16 + 12 * gN zs)).drop 16) (12 * i + 4), n4at ((zs.take (16 + 12 * gN zs)).drop 16) (12 * i + 8)⟩ := by
      intro i hi
      unfold gAt
      rw [n4at_dropG, n4at_dropG, n4at_dropG, n4at_takeG _ _ _ (by omega), n4at_takeG _ _ _ (by omega), n4at_takeG _ _ _ (by omega)]
      rw [show 16 + (12 * i + 4) = 20 + 12 * i by omega, show 16 + (12 * i + 8) = 24 + 12 * i by omega]
    have hBp : Bytes ((zs.take (16 + 12 * gN zs)).drop 16) := drop_bytes (cut_bytes hB _) 16
    have HB := Lib.hid hB
    have HBp := Lib.hid hBp
    have HAt := Lib.hid hAt
    have hpl : ((zs.take (16 + 12 * gN zs)).drop 16).length ≤ 1000000 := by rw [List.length_drop, List.length_take]; have := Hn.out; omega
    have hRN : Hid (∀ A c (w' : World), gOkK zs (gN zs) = true → OwnS 94 encG 3 w' w.heap.size A (gN zs) c (grps zs (gN zs)) → Below w.heap.size w w' → RetGP w zs (.returned (.tuple #[gmV A (gN zs) c, .int .i64 0])) w') := by
      show ∀ _, _
      exact fun A c w' h1 h2 h3 => ⟨h3, .inr ⟨HF.out.trans h1, A, c, rfl, h2⟩⟩
    have hRB : Hid (∀ (w' : World), gOkK zs (gN zs) = false → Below w.heap.size w w' → RetGP w zs (.returned (.tuple #[gmV none 0 0, .int .i64 2])) w') := by
      show ∀ _, _
      exact fun w' h1 h2 => ⟨h2, .inl ⟨HF.out.trans h1, rfl⟩⟩
    clear hf hB hBp hAt hr1
    rw [hcv]
    generalize (zs.take (16 + 12 * gN zs)).drop 16 = ps at *
    generalize hN : gN zs = N at *
    have hcA : (16 + (N : Int) * 12) ≤ (c : Int) := by omega
    have hps1 : Row w1 (some ⟨g, off + 16, none⟩) (N * 12) (cellsOf .u8 ps) := by
      rw [show 16 + 12 * N - 16 = N * 12 by omega] at hps
      simpa [Addr.add_lit] using hps
    have hps2 : c = 16 → Row w1 (some ⟨g, off, none⟩) (N * 12) (cellsOf .u8 ps) := fun h => by
      have hN0 : N * 12 = 0 := by omega
      rw [hN0] at hps1 ⊢
      have : ps = [] := List.eq_nil_of_length_eq_zero hps1.len
      rw [this]
      exact Row.empty _ _
    have HP2 := Lib.hid hps2
    clear hps hps2
    go_wp2_with fail
    all_goals
      first
        | with_reducible refine (new_any _ _ _ ps _ hps1 (by omega)).mono ?_
        | with_reducible refine (new_any _ _ _ ps _ (HP2.out (by assumption)) (by omega)).mono ?_
      rintro e w2 ⟨b, rfl, hrd, hb2⟩
      have hk2 := kept_block hk1 hb2
      have hbw2 := hbw.trans (hb2.mono hbw.size)
      have hlb := hrd.from_
      have hlt2 := hrd.lt
      have hs2 := hb2.size
      clear c0 f0 hk1 hbw hps1 hb2 HP2
      go_wp2_with (at_make; refine wpList_make_S rfl (.tmp 26) (.tmp 26) _ rfl 94 encG 3 encG_len (by omega) w.heap.size i0 _ ⟨0, 0, 0⟩ 12 Tryd.underlying30 hi hz0 hz1 rfl hz2 _ _ N rfl rfl rfl rfl (by omega) (by omega) hbw2.size ?_; intro w3 hown3 hg3)
      have hs : GP w w3 b ps (12 * 0) w2.heap.size N (grps zs 0 ++ List.replicate (N - 0) ⟨0, 0, 0⟩) :=
        ⟨(RdQ.new (hrd.mono (by omega))).keep hg3.size (fun q hq _ _ => hg3.block q hq (by simp)), hown3, (hg3.block _ (lt_of_block hk2) (by simp)).trans hk2, by omega, by omega, by omega, hbw2.grown hg3 hbw2.size (fun k e => by cases e)⟩
      clear hown3 hg3 hrd hk2 hbw2 hlb hlt2 hs1 hgl hi hz0 hz1 hz2
      generalize w2.heap.size = gp at *
      go_loopw [8, 30] (fun a i wr => ∃ k : Nat, k ≤ N ∧ i = .int .i64 k ∧ a = .int .i32 (gLeast zs k) ∧ Hid (gOkK zs k = true) ∧ GP w wr b ps (12 * k) gp N (grps zs k ++ List.replicate (N - k) ⟨0, 0, 0⟩)) (fun _ i _ => N - (intOf i).toNat)
      case atStart => exact ⟨0, Nat.zero_le _, rfl, rfl, Lib.hid rfl, hs⟩
      case round =>
        clear hs
        obtain ⟨k, hk, rfl, rfl, hok, hs⟩ := hrel
        by_cases hlt : k < N
        · first
            | (exfalso; omega)
            | (
              have hx := HAt.out k hlt
              have HR := Lib.hid (gread_any _ _ _ _ _ hs.rd HBp.out (by omega))
              rw [← hx] at HR
              clear hx
              go_wp2_with fail
              with_reducible refine HR.out.mono ?_
              rintro e w4 ⟨rfl, hr4, hg4⟩
              have hs4 := hs.ask hr4 hg4
              clear hs hr4 hg4 HR
              have hgo : gOkAt zs k = (gOne (gAt zs k) && decide (gLeast zs k ≤ (gAt zs k).a)) := rfl
              have hls : gLeast zs (k + 1) = (gAt zs k).b + 1 := by unfold gLeast gAt; rw [if_neg (by omega), show 8 + 12 * (k + 1) = 20 + 12 * k by omega]
              have hset := fun (w' : World) (h : GP w w' b ps (12 * k + 12) gp N (grps zs k ++ List.replicate (N - k) ⟨0, 0, 0⟩)) => grps_set zs N k ⟨0, 0, 0⟩ hlt ▸ h.set k hlt (gAt zs k)
              have HS := Lib.hid hset
              have HGO := Lib.hid hgo
              have HLS := Lib.hid hls
              clear hgo hls hset
              cases h1 : gOne (gAt zs k) with
              | false =>
                have H1 : Hid (rgV (gAt zs k) = .agg #[.int .i32 0, .int .i32 0, .int .u16 0]) := by show _ = _; unfold rgV rnV; rw [h1]; rfl
                have H2 : Hid (gOkK zs N = false) := gOkK_not hlt (by rw [HGO.out, h1]; rfl)
                rw [H1.out]
                have hA := (Below.refl w4.heap.size w4).alloc (Nat.le_refl _) (.cells #[.int .i32 0, .int .i32 0, .int .u16 0] 94)
                have hs5 := hs4.below hA
                clear h1 H1 HGO HS HLS hok
                have c0 : (w4.alloc (.cells #[.int .i32 0, .int .i32 0, .int .u16 0] 94)).cell? ⟨w.heap.size, 0, none⟩ = some (.slice none 0 0) := cell_of_row _ _ 0 _ _ _ hs5.box
                have f0 := thawed hs5.box
                have K1 := Lib.hid (set_block hs5.box 0 (.slice none 0 0))
                have K2 := Lib.hid (below_set (Nat.le_refl _) 0 (.slice none 0 0) hs5.bel)
                clear hs5 hs4 hA
                go_wp2_with (with_reducible refine wpList_store_row rfl 94 (.tmp 10) (.tmp 36) rfl w4.heap.size #[.int .i32 0, .int .i32 0, .int .u16 0] rfl rfl 94 #[.int .i32 0, .int .i32 0, .int .u16 0] (heap_alloc_new w4 _) (grp3 _ _ _).1 (grp3 _ _ _).2.1 (grp3 _ _ _).2.2 ?_; rw [World.setRow_alloc_new])
                exact bodyPost_ret (v := .tuple #[gmV none 0 0, .int .i64 2]) (results_two2 Tryd.results51 _ _ w.heap.size 32 _ (0, 0) _ rfl rfl K1.out Tryd.underlying32 rfl SI.out) rfl (hRB.out _ H2.out K2.out)
              | true =>
                have H1 : Hid (rgV (gAt zs k) = .agg #[.int .i32 (gAt zs k).a, .int .i32 (gAt zs k).b, .int .u16 (gAt zs k).g]) := by show _ = _; unfold rgV rnV; rw [h1]; rfl
                rw [H1.out]
                have hA := (Below.refl w4.heap.size w4).alloc (Nat.le_refl _) (.cells #[.int .i32 (gAt zs k).a, .int .i32 (gAt zs k).b, .int .u16 (gAt zs k).g] 94)
                have hs5 := hs4.below hA
                have hx2 : (gAt zs k).a ≤ (gAt zs k).b ∧ (gAt zs k).b ≤ 1114111 ∧ (gAt zs k).g + ((gAt zs k).b - (gAt zs k).a) ≤ 65535 := by unfold gOne at h1; exact of_decide_eq_true h1
                have hx0 : 0 ≤ (gAt zs k).a := (n4at_lt HB.out _).1
                by_cases hle : gLeast zs k ≤ (gAt zs k).a
                · have H2 : Hid (gOkK zs (k + 1) = true) := by show _ = _; rw [gOkK_succ, hok.out, HGO.out, h1, decide_eq_true hle]; rfl
                  have H6 := Lib.hid (HS.out _ hs5)
                  obtain ⟨z, hz⟩ : ∃ z, (grps zs k ++ List.replicate (N - k) (⟨0, 0, 0⟩ : Rn))[k]? = some z := ⟨_, List.getElem?_eq_getElem (by simp [grps_len]; omega)⟩
                  obtain ⟨gg, off', e', _, d0, d1, d2⟩ := atG (hs5.own.row encG_len) hz
                  simp only [Option.some.injEq, Addr.mk.injEq, and_true] at e'
                  obtain ⟨rfl, rfl⟩ := e'
                  rw [Nat.zero_add] at d0 d1 d2
                  have f0 := hs5.own.thaw
                  have hne : gp ≠ w4.heap.size := by have := (hs4.own.from_ gp rfl).2; omega
                  unfold encG setCells setCells setCells setCells at H6
                  clear h1 H1 HGO HS hok hz hs5 hA hs4
                  generalize gAt zs k = x at *
                  obtain ⟨xa, xb, xg⟩ := x
                  simp only at *
                  go_wp2_with (with_reducible refine wpList_store_row rfl 94 (.tmp 10) (.tmp 36) rfl w4.heap.size #[.int .i32 xa, .int .i32 xb, .int .u16 xg] rfl rfl 94 #[.int .i32 0, .int .i32 0, .int .u16 0] (heap_alloc_new w4 _) (grp3 _ _ _).1 (grp3 _ _ _).2.1 (grp3 _ _ _).2.2 ?_; rw [World.setRow_alloc_new])
                  have e0 : (w4.alloc (.cells #[.int .i32 xa, .int .i32 xb, .int .u16 xg] 94)).cell? ⟨w4.heap.size, 0, none⟩ = some (.int .i32 xa) := cell_of_row _ _ 0 _ _ _ (heap_alloc_new w4 _)
                  have e1 : (w4.alloc (.cells #[.int .i32 xa, .int .i32 xb, .int .u16 xg] 94)).cell? ⟨w4.heap.size, 1, none⟩ = some (.int .i32 xb) := cell_of_row _ _ 1 _ _ _ (heap_alloc_new w4 _)
                  have e2 : (w4.alloc (.cells #[.int .i32 xa, .int .i32 xb, .int .u16 xg] 94)).cell? ⟨w4.heap.size, 2, none⟩ = some (.int .u16 xg) := cell_of_row _ _ 2 _ _ _ (heap_alloc_new w4 _)
                  generalize w4.alloc (.cells #[.int .i32 xa, .int .i32 xb, .int .u16 xg] 94) = V at *
                  generalize w4.heap.size = bx at *
                  go_region
                  all_goals
                    go_wp2
                    go_roundw
                    case rel => exact ⟨k + 1, by omega, by go_num, by rw [HLS.out], H2, (show 12 * k + 12 = 12 * (k + 1) by omega) ▸ H6.out.drew⟩
                    case measure => simp [intOf]; omega
                · have H2 : Hid (gOkK zs N = false) := gOkK_not hlt (by rw [HGO.out, h1, decide_eq_false hle]; rfl)
                  clear h1 H1 HGO HS hok
                  have c0 : (w4.alloc (.cells #[.int .i32 (gAt zs k).a, .int .i32 (gAt zs k).b, .int .u16 (gAt zs k).g] 94)).cell? ⟨w.heap.size, 0, none⟩ = some (.slice none 0 0) := cell_of_row _ _ 0 _ _ _ hs5.box
                  have f0 := thawed hs5.box
                  have K1 := Lib.hid (set_block hs5.box 0 (.slice none 0 0))
                  have K2 := Lib.hid (below_set (Nat.le_refl _) 0 (.slice none 0 0) hs5.bel)
                  clear hs5 hs4 hA
                  generalize gAt zs k = x at *
                  obtain ⟨xa, xb, xg⟩ := x
                  simp only at *
                  go_wp2_with (with_reducible refine wpList_store_row rfl 94 (.tmp 10) (.tmp 36) rfl w4.heap.size #[.int .i32 xa, .int .i32 xb, .int .u16 xg] rfl rfl 94 #[.int .i32 0, .int .i32 0, .int .u16 0] (heap_alloc_new w4 _) (grp3 _ _ _).1 (grp3 _ _ _).2.1 (grp3 _ _ _).2.2 ?_; rw [World.setRow_alloc_new])
                  exact bodyPost_ret (v := .tuple #[gmV none 0 0, .int .i64 2]) (results_two2 Tryd.results51 _ _ w.heap.size 32 _ (0, 0) _ rfl rfl K1.out Tryd.underlying32 rfl SI.out) rfl (hRB.out _ H2.out K2.out))
        · obtain rfl : k = N := by omega
          have c0 : wr.cell? ⟨w.heap.size, 0, none⟩ = some (.slice none 0 0) := cell_of_row wr _ 0 _ _ _ hs.box
          have f0 := thawed hs.box
          have K1 := Lib.hid (set_block hs.box 0 (.slice (some ⟨gp, 0, none⟩) k k))
          have K2 := Lib.hid (below_set (Nat.le_refl _) 0 (.slice (some ⟨gp, 0, none⟩) k k) hs.bel)
          have K3 : Hid (OwnS 94 encG 3 (wr.setCell ⟨w.heap.size, 0, none⟩ (.slice (some ⟨gp, 0, none⟩) k k)) w.heap.size (some ⟨gp, 0, none⟩) k k (grps zs k)) := by
            have := hs.own
            rw [Nat.sub_self, List.replicate_zero, List.append_nil] at this
            exact this.keep (fun q e => by simp [blockOf] at e; subst e; exact Below.heap_setCell wr _ _ gp (fun e => hs.n2 e.symm))
          clear hs
          go_wp2
          exact bodyPost_ret (v := .tuple #[gmV (some ⟨gp, 0, none⟩) k k, .int .i64 0]) (results_two2 Tryd.results51 _ _ w.heap.size 32 _ (0, 0) _ rfl rfl K1.out Tryd.underlying32 rfl SI.out) rfl (hRN.out _ _ _ hok.out K3.out K2.out)

/-- What the search asks. -/
def pG (l : List Rn) (code : Int) (i : Nat) : Bool := decide (code ≤ (l.getD i default).b)

set_option maxRecDepth 100000 in
set_option maxHeartbeats 1000000 in
theorem gpred_any (A : Option Addr) (n c : Nat) (l : List Rn) (code : Int) (B1 B2 : Nat) (w : World) (hr : RowS encG 3 w A n l) (hn : n ≤ 1000000) (k1 : w.cell? ⟨B1, 0, none⟩ = some (.slice A n c)) (k2 : w.cell? ⟨B2, 0, none⟩ = some (.int .i32 code)) (i : Nat) (hi : i < n) :
    Calls Tryd.prog 55 (#[.int .i64 i] ++ #[.pointer (some ⟨B1, 0, none⟩), .pointer (some ⟨B2, 0, none⟩)]) w (Ret w (.bool (pG l code i))) := by
  obtain ⟨x, hx⟩ := getP (l := l) (j := i) (by have := hr.len; omega)
  obtain ⟨g, off, rfl, hg, d0, d1, d2⟩ := atG hr hx
  have HP : Hid (pG l code i = decide (code ≤ x.b)) := by show _ = _; unfold pG; rw [List.getD_eq_getElem?_getD, hx]; rfl
  clear hr hx
  obtain ⟨xa, xb, xg⟩ := x
  simp only at *
  show Calls Tryd.prog 55 #[.int .i64 i, .pointer (some ⟨B1, 0, none⟩), .pointer (some ⟨B2, 0, none⟩)] w _
  go_enter Tryd.func55, Tryd.ntmps55
  go_wp2
  go_quiet (fail)
  go_wp2
  go_ret
  rw [HP.out]
  exact ⟨rfl, below_drewN (Below.refl _ _) _⟩

theorem pG_get {l : List Rn} {code : Int} {i : Nat} {x : Rn} (h : l[i]? = some x) : pG l code i = decide (code ≤ x.b) := by unfold pG; rw [List.getD_eq_getElem?_getD, h]; rfl

set_option maxRecDepth 100000 in
set_option maxHeartbeats 2000000 in
theorem glook_any (A : Option Addr) (n c : Nat) (l : List Rn) (code : Int) (w : World) (hr : RowS encG 3 w A n l) (hn : n ≤ 1000000) (hok : rnOK 1114111 (-1) l) (hfit : ∀ x ∈ l, 0 ≤ x.a ∧ x.b ≤ 1114111 ∧ 0 ≤ x.g ∧ x.a ≤ x.b ∧ x.g + (x.b - x.a) ≤ 65535) (c0 : -2147483648 ≤ code) (c1 : code ≤ 2147483647) :
    Calls Tryd.prog 33 #[gmV A n c, .int .i32 code] w (Ret w (.int .u16 (lookR l code))) := by
  have hA : Below w.heap.size w ((w.alloc (.cells #[.slice A n c] 32)).alloc (.cells #[.int .i32 code] 21)) := ((Below.refl w.heap.size w).alloc (Nat.le_refl _) _).alloc (by simp) _
  have hB1 : ((w.alloc (.cells #[.slice A n c] 32)).alloc (.cells #[.int .i32 code] 21)).heap[w.heap.size]? = some (.cells #[.slice A n c] 32 (0, 0)) := kept_alloc (heap_alloc_new w _) _
  have hB2 : ((w.alloc (.cells #[.slice A n c] 32)).alloc (.cells #[.int .i32 code] 21)).heap[w.heap.size + 1]? = some (.cells #[.int .i32 code] 21 (0, 0)) := by
    have := heap_alloc_new (w.alloc (.cells #[.slice A n c] 32)) (.cells #[.int .i32 code] 21)
    rwa [show (w.alloc (.cells #[.slice A n c] 32)).heap.size = w.heap.size + 1 by simp] at this
  have eg : ∀ args w, (callFunc 55 args).run Tryd.prog w = .ok (.enter 55 args) w := enters_of Tryd.func55 (by kernel_rfl) rfl
  have Hn := Lib.hid hr.len
  have hS := search_any 55 #[.pointer (some ⟨w.heap.size, 0, none⟩), .pointer (some ⟨w.heap.size + 1, 0, none⟩)] n (pG l code) ((w.alloc (.cells #[.slice A n c] 32)).alloc (.cells #[.int .i32 code] 21)) eg hn (fun W i hi hb =>
    gpred_any A n c l code _ _ W ((hr.below hA).below hb) hn (cell_of_row W _ 0 _ _ _ (kept_block hB1 hb)) (cell_of_row W _ 0 _ _ _ (kept_block hB2 hb)) i hi)
  have HS := Lib.hid hS
  clear hS eg
  unfold gmV
  go_enter Tryd.func33, Tryd.ntmps33
  go_wp2_with fail
  refine HS.out.mono ?_
  rintro e w1 ⟨r, hrn, rfl, hlo, hhi, hb1⟩
  have k1 : w1.cell? ⟨w.heap.size, 0, none⟩ = some (.slice A n c) := cell_of_row w1 _ 0 _ _ _ (kept_block hB1 hb1)
  have k2 : w1.cell? ⟨w.heap.size + 1, 0, none⟩ = some (.int .i32 code) := cell_of_row w1 _ 0 _ _ _ (kept_block hB2 hb1)
  have hbw := hA.trans (hb1.mono hA.size)
  have hfind : findR code l = l[r]? := findR_at l (-1) r hok (fun h0 y hy => by have := hlo h0; rw [pG_get hy] at this; simp at this; omega) (fun y hy => by
    have hl := (List.getElem?_eq_some_iff.1 hy).1
    have := hhi (by have := Hn.out; omega)
    rw [pG_get hy] at this
    simpa using this) (by have := Hn.out; omega)
  have hrw := hr.below hbw
  have hle : r < n → ∀ x, l[r]? = some x → code ≤ x.b := fun h x hx => by have := hhi h; rw [pG_get hx] at this; simpa using this
  clear HS hA hB1 hB2 hb1 hlo hhi hr
  by_cases hlt : r < n
  · have hne : ((r : Int) == (n : Int)) = false := by simp; omega
    obtain ⟨x, hx⟩ := getP (l := l) (j := r) (by have := Hn.out; omega)
    obtain ⟨g, off, rfl, hg, d0, d1, d2⟩ := atG hrw hx
    have hxb := hle hlt x hx
    have hf := hfit x (List.mem_of_getElem? hx)
    have HL : Hid (lookR l code = if x.a ≤ code then (x.g + (code - x.a)) % 65536 else 0) := by show _ = _; unfold lookR; rw [hfind, hx]
    clear hx hfind hle hfit hok hrw
    obtain ⟨xa, xb, xg⟩ := x
    simp only at *
    by_cases hac : xa ≤ code
    · have HL2 : Hid (lookR l code = xg + (code - xa)) := by show _ = _; rw [HL.out, if_pos hac]; omega
      clear HL
      go_wp2
      go_quiet (fail)
      go_wp2
      go_quiet (fail)
      go_wp2
      go_ret
      rw [HL2.out]
      exact ⟨rfl, below_drewN (below_drewN hbw _) _⟩
    · have HL2 : Hid (lookR l code = 0) := by show _ = _; rw [HL.out, if_neg hac]
      clear HL
      go_wp2
      go_quiet (fail)
      go_wp2
      go_ret
      rw [HL2.out]
      exact ⟨rfl, below_drewN hbw _⟩
  · obtain rfl : r = n := by omega
    have hne : ((r : Int) == (r : Int)) = true := by simp
    have HL2 : Hid (lookR l code = 0) := by show _ = _; unfold lookR; rw [hfind, List.getElem?_eq_none (by have := Hn.out; omega)]
    clear hfind hle hfit hok
    go_wp2
    go_quiet (fail)
    go_wp2
    go_ret
    rw [HL2.out]
    exact ⟨rfl, below_drewN hbw _⟩

end Go.Proofs.YthkaeimpflggjaaDoor
