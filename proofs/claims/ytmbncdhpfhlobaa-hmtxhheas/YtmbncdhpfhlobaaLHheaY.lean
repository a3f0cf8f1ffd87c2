/- The law HmtxHheas. -/
import Derived.Test.YtmbncdhpfhlobaaLHheaN
import Derived.Test.YtmbncdhpfhlobaaHmtxFew
import Derived.Test.YtmbncdhpfhlobaaInts
import Derived.Deep.DeepCutAuto
namespace Go.Proofs.Ytmbncdhpfhlobaa
open Go.RowKit
set_option linter.unusedVariables false

/-- A store elsewhere leaves a row. -/
theorem row_apart {w : World} {A : Option Addr} {n : Nat} {xs : List Value} (h : Row w A n xs) {g : Nat} (hne : 0 < n → blockOf A ≠ some g) (j : Nat) (v : Value) : Row (w.setCell ⟨g, j, none⟩ v) A n xs :=
  ⟨h.1, fun h0 => by
    obtain ⟨g', off, e, hg, hc⟩ := h.2 h0
    refine ⟨g', off, e, by simpa [World.setCell] using hg, fun j' u hu => ?_⟩
    have hgne : g' ≠ g := by
      rintro rfl
      exact hne h0 (by rw [e]; rfl)
    exact (World.cell?_of_block (w := w) (Below.heap_setCell w _ _ _ hgne)).trans (hc j' u hu)⟩

set_option maxRecDepth 100000 in
set_option maxHeartbeats 8000000 in
theorem law_HmtxHheas_yes (h : Hh) (A : Option Addr) (n c : Nat) (zs : List Int) (a x : Int) (w : World) (hm : h.ok) (hp : hpos h = true) (hr : Row w A n (cellsOf .u8 zs)) (hB : Bytes zs) (hn : n ≤ 9223372036854775807) (a0 : 0 ≤ a) (a1 : a ≤ 255) :
    Calls Try.prog 5 #[hhU h, .slice A n c, .int .u8 a, .int .u8 x] w (True_ w) := by
  have hA : Below w.heap.size w (w.alloc (.cells (hhA h) 52)) := (Below.refl _ _).alloc (Nat.le_refl _) _
  have hk := heap_alloc_new w (.cells (hhA h) 52)
  have HBr : Hid (Bytes (zs.take (40 : Int).toNat)) := fun x hx => hB x (List.mem_of_mem_take hx)
  have Hby := Lib.hid (fun V => hbytesO h V hm)
  have HhB : Hid (hhB h = hhL h) := by unfold hhB; rw [hp]; exact rfl
  obtain ⟨h1, h2, h3⟩ : 0 < h.lg ∧ h.f0 = 0 ∧ h.f15 = 0 := of_decide_eq_true hp
  have SI := Lib.hid (hhA_info h)
  have SA := Lib.hid (hhA_all h)
  have SZ := Lib.hid (hhZ_size h)
  have SF := Lib.hid (hfA_info h)
  have HRH := Lib.hid (fun V => rhheaO h V hm)
  have HEQ := Lib.hid (eqO h)
  have HT : Hid (hhToldO (hhL h) = .tuple #[hhU h, .int .i64 0]) := by rw [hhToldO_yes (hhRight_hhL h hm hp), hhOf_hhL h hm]; exact rfl
  have HLb := Lib.hid (hhL_bytes h)
  have HLn := Lib.hid (hhL_len h)
  clear hm hp hB
  rw [HhB.out] at Hby
  generalize hhL h = L at *
  have b2' : (h.f0 == 0) = true := by simp [h2]
  have b3' : (h.f15 == 0) = true := by simp [h3]
  clear h2 h3
  go_enter Try.func5, Try.ntmps5
  go_wp2_with fail
  generalize w.alloc _ = V at *
  refine (awake7_any V).mono ?_
  rintro e w1 ⟨rfl, hb1⟩
  have hk1 := kept_block hk hb1
  have hB1 := hA.trans (hb1.mono hA.size)
  clear hk hA hb1
  go_wp2_with fail
  refine (cut_any _ _ _ zs 40 _ (hr.below hB1) hn (by omega)).mono ?_
  rintro e w2 ⟨Ar, nr, cr, rfl, or_, hb2⟩
  have hk2 := kept_block hk1 hb2
  have hB2 := hB1.trans (hb2.mono hB1.size)
  have rr2 := or_.row
  have hlr : (zs.take (40 : Int).toNat).length ≤ 200 := by rw [List.length_take]; simp; omega
  clear hk1 hB1 hb2 or_ hr hn
  generalize zs.take (40 : Int).toNat = rz' at *
  go_wp2_with (with_reducible refine wpList_load_row rfl 52 (.tmp 4) rfl w.heap.size rfl 52 (hhA h) (0, 0) _ hk2 Try.underlying52 rfl SI.out ?_)
  refine (Hby.out w2).mono ?_
  rintro e w3 ⟨Ap, np, cp, rfl, op, hb3⟩
  have hk3 := kept_block hk2 hb3
  have hB3 := hB2.trans (hb3.mono hB2.size)
  have rr3 := rr2.below hb3
  have rp3 := op.row
  clear hk2 hB2 hb3 rr2 op Hby
  have hnp : np = 36 := by rw [← rp3.len, HLn.out]
  subst hnp
  have c0 : w3.cell? ⟨w.heap.size, 0, none⟩ = some (.int .u16 h.f0) := cell_of_row w3 _ 0 _ _ _ hk3
  have c15 : w3.cell? ⟨w.heap.size, 15, none⟩ = some (.int .u16 h.f15) := cell_of_row w3 _ 15 _ _ _ hk3
  have c16 : w3.cell? ⟨w.heap.size, 16, none⟩ = some (.int .u16 h.lg) := cell_of_row w3 _ 16 _ _ _ hk3
  go_wp2_with fail
  clear c0 c15 c16 b2' b3'
  refine (hphO Ap 36 cp L _ rp3 HLb.out).mono ?_
  rintro e w4 ⟨rfl, hb4⟩
  rw [HT.out]
  have hk4 := kept_block hk3 hb4
  have hB4 := hB3.trans (hb4.mono hB3.size)
  have rr4 := rr3.below hb4
  have rp4 := rp3.below hb4
  clear hk3 hB3 hb4 rr3 rp3
  have hz4 := heap_alloc_new w4 (.cells hhZ 52)
  have hal : Below w4.heap.size w4 ((w4.alloc (.cells hhZ 52)).setRow w4.heap.size (hhA h)) := below_row (Nat.le_refl _) (hhA h) ((Below.refl w4.heap.size w4).alloc (Nat.le_refl _) _)
  have hj5 := setRow_heap _ w4.heap.size hhZ (hhA h) 52 (0, 0) hz4
  have hk5 := kept_block hk4 hal
  have hB5 := hB4.trans (hal.mono hB4.size)
  have rr5 := rr4.below hal
  have rp5 := rp4.below hal
  have rf5 := rangeF hk5
  have c16 : ((w4.alloc (.cells hhZ 52)).setRow w4.heap.size (hhA h)).cell? ⟨w.heap.size, 16, none⟩ = some (.int .u16 h.lg) := cell_of_row _ _ 16 _ _ _ hk5
  clear hk4 hB4 hal rr4 rp4
  go_wp2_with (first
    | (with_reducible refine wpList_store_row rfl 52 (.tmp 11) (.tmp 49) rfl w4.heap.size (hhA h) rfl rfl 52 hhZ hz4 SI.out SZ.out SA.out ?_)
    | (with_reducible refine wpList_load_mid rfl 50 (.tmp 52) rfl w.heap.size 0 rfl (hfA h).toList _ rf5 Try.underlying50 rfl SF.out ?_))
  clear c16 rf5
  generalize (w4.alloc (.cells hhZ 52)).setRow w4.heap.size (hhA h) = w5 at *
  generalize w4.heap.size = g4 at *
  refine (HRH.out w5).mono ?_
  rintro e w6 ⟨A6, n6, c6, rfl, o6, hb6⟩
  have hk6 := kept_block hk5 hb6
  have hj6 := kept_block hj5 hb6
  have hB6 := hB5.trans (hb6.mono hB5.size)
  have rr6 := rr5.below hb6
  have rp6 := rp5.below hb6
  have r6 := o6.row
  have hn6 : n6 ≤ 40 := by have := r6.len; have := HLn.out; omega
  clear hk5 hj5 hB5 rr5 rp5 o6 hb6 hz4
  go_wp2_with fail
  with_reducible refine (same_any _ _ _ _ _ _ _ _ _ rp6 r6 (by omega) (by omega)).mono ?_
  rintro e w7 ⟨rfl, q, rfl⟩
  rw [sameB_refl]
  have hB7 := below_drewN hB6 q
  have rr7 := rr6.drewN q
  have rp7 := rp6.drewN q
  replace hk6 : (w6.drewN q).heap[w.heap.size]? = some (.cells (hhA h) 52 (0, 0)) := hk6
  replace hj6 : (w6.drewN q).heap[g4]? = some (.cells (hhA h) 52 (0, 0)) := hj6
  generalize w6.drewN q = w7 at *
  clear hB6 rr6 rp6 r6
  have heq := HEQ.out
  have hrj : Row (w7.alloc (.cells #[.slice Ap 36 cp] 27)) (some ⟨w7.heap.size, 0, none⟩) 1 ([⟨Ap, 36, cp, L⟩].map BsV.val) := row_vals w7 27 _ 1 rfl
  have hal : Below w7.heap.size w7 (w7.alloc (.cells #[.slice Ap 36 cp] 27)) := (Below.refl _ _).alloc (Nat.le_refl _) _
  have hB8 := hB7.trans (hal.mono hB7.size)
  have rr8 := rr7.below hal
  have rp8 := rp7.below hal
  have hok8 : ∀ p ∈ [(⟨Ap, 36, cp, L⟩ : BsV)], p.ok (w7.alloc (.cells #[.slice Ap 36 cp] 27)) := fun p hp => by
    simp only [List.mem_cons, List.not_mem_nil, or_false] at hp
    subst hp
    exact rp8
  have HO8 := Lib.hid hok8
  have hjl : (joined [(⟨Ap, 36, cp, L⟩ : BsV)]).length ≤ 140737488351232 := by simp [joined, HLn.out]
  have HJL := Lib.hid hjl
  clear hB7 rr7 rp7 hal hok8 hjl
  go_wp2_with (first
    | ((with_reducible refine wpList_load_wanted ?hw 52 (.tmp 11) rfl g4 rfl 52 (hhA h) (0, 0) _ hj6 Try.underlying52 rfl SI.out ?_); case hw => rfl)
    | ((with_reducible refine wpList_load_wanted ?hw 52 (.tmp 4) rfl w.heap.size rfl 52 (hhA h) (0, 0) _ hk6 Try.underlying52 rfl SI.out ?_); case hw => rfl))
  clear heq hk6 hj6
  with_reducible refine (join_any _ 1 1 [⟨Ap, 36, cp, L⟩] _ hrj HO8.out (by omega) HJL.out).mono ?_
  rintro e w9 ⟨Ab, nb, cb, rfl, ob, hb9⟩
  have hB9 := hB8.trans (hb9.mono hB8.size)
  have rr9 := rr8.below hb9
  have rp9 := rp8.below hb9
  rw [show joined [⟨Ap, 36, cp, L⟩] = L by simp [joined]] at ob
  have hnb : nb = 36 := by rw [← ob.len, HLn.out]
  subst hnb
  have hsz8 := hB8.size
  clear hb9 hrj hB8 HO8 HJL
  obtain ⟨k, hak, hk36⟩ : ∃ k : Nat, a % 36 = k ∧ k < 36 := ⟨(a % 36).toNat, by omega, by omega⟩
  rcases ob.shape with ⟨_, h', _, _⟩ | ⟨gb, cur, rfl, hgb0, hgb1, _⟩
  · have := HLn.out
    rw [h'] at this
    simp at this
  have hrb := rr8.ne hgb0
  have hpb := rp8.ne hgb0
  have hgw : w.heap.size ≤ gb := by omega
  clear rr8 rp8
  obtain ⟨y, hy⟩ := get_some (zs := L) (k := k) (by rw [HLn.out]; exact hk36)
  have cy : w9.cell? ⟨gb, k, none⟩ = some (.int .u8 y) := by
    obtain ⟨g', off', e', _, cy⟩ := ob.row.at (cellsOf_get (k := .u8) hy)
    simp only [Option.some.injEq, Addr.mk.injEq, and_true] at e'
    obtain ⟨rfl, rfl⟩ := e'
    simpa using cy
  have fz := ob.thaw k
  have hS := ob.set k (bits .xor .u8 y x)
  obtain ⟨v0, v1⟩ := xor_byteH y x
  have HBs' := Lib.hid (set_bytesH HLb.out k v0 v1)
  have hbw := hB9.setCell (p := ⟨gb, k, none⟩) hgw (.int .u8 (bits .xor .u8 y x))
  have rr := row_apart rr9 hrb k (.int .u8 (bits .xor .u8 y x))
  have rp := row_apart rp9 hpb k (.int .u8 (bits .xor .u8 y x))
  have rb := hS.row
  have hlb : (L.set k (bits .xor .u8 y x)).length ≤ 200 := by rw [List.length_set, HLn.out]; omega
  have hv : 0 ≤ (k : Int) := by omega
  have hv' : (k : Int) < 36 := by omega
  have Hbw := Lib.hid hbw
  have Hrr := Lib.hid rr
  have Hrp := Lib.hid rp
  have Hrb := Lib.hid rb
  clear hB9 rr9 rp9 ob hS hy hrb hpb hbw rr rp rb
  go_upto_region 14 with fail
  have hbw := Hbw.out
  have rr := Hrr.out
  have rp := Hrp.out
  have rb := Hrb.out
  clear Hbw Hrr Hrp Hrb cy fz hak
  generalize bits .xor .u8 y x = v at *
  generalize w9.setCell ⟨gb, k, none⟩ (.int .u8 v) = wc at *
  have hal1 : Below wc.heap.size wc (wc.alloc (.cells #[.int .u8 0] 5)) := (Below.refl _ _).alloc (Nat.le_refl _) _
  have rz : Row (wc.alloc (.cells #[.int .u8 0] 5)) (some ⟨wc.heap.size, 0, none⟩) 1 (cellsOf .u8 [0]) := row_one _ _ _ _
  have rb1 := rb.below hal1
  have rr1 := rr.below hal1
  have rp1 := rp.below hal1
  have hB1' := hbw.trans (hal1.mono hbw.size)
  have hSz : wc.heap.size + 1 = (wc.alloc (.cells #[.int .u8 0] 5)).heap.size := by simp
  have HSz := Lib.hid hSz
  clear rb rr rp hal1 hbw hSz
  go_wp2_with fail
  generalize wc.alloc (.cells #[.int .u8 0] 5) = Wz at *
  have HLp := Lib.hid rp1.len
  with_reducible refine (join2_any Wz _ Ap _ 36 cp 1 1 L [0] HSz.out rp1 rz (by have := HLp.out; simp <;> omega)).mono ?_
  rintro e w7 ⟨A7, n7, c7, rfl, o7, hb7⟩
  have rb7 := rb1.below hb7
  have rr7 := rr1.below hb7
  have r7 := o7.row
  have hbw7 := hB1'.trans (hb7.mono hB1'.size)
  have HB7 : Hid (Bytes (L ++ [0])) := bytes_append HLb.out (by intro x hx; simp at hx; omega)
  have hl7 : (L ++ [0]).length ≤ 200 := by have := HLp.out; simp <;> omega
  clear rb1 rr1 rp1 rz o7 hb7 hB1'
  have hgs : GS w (w7.alloc (.cells #[.slice (some ⟨gb, 0, none⟩) 36 cb, .slice Ar nr cr, .slice A7 n7 c7] 27)) w7.heap.size [⟨some ⟨gb, 0, none⟩, 36, cb, L.set k v⟩, ⟨Ar, nr, cr, rz'⟩, ⟨A7, n7, c7, L ++ [0]⟩] := by
    have hal : Below w7.heap.size w7 (w7.alloc (.cells #[.slice (some ⟨gb, 0, none⟩) 36 cb, .slice Ar nr cr, .slice A7 n7 c7] 27)) := (Below.refl _ _).alloc (Nat.le_refl _) _
    refine ⟨row_vals w7 27 _ 3 rfl, fun p hp => ?_, hbw7.trans (hal.mono hbw7.size)⟩
    simp only [List.mem_cons, List.not_mem_nil, or_false] at hp
    rcases hp with rfl | rfl | rfl
    · exact rb7.below hal
    · exact rr7.below hal
    · exact r7.below hal
  have HBs : Hid (∀ p ∈ ([⟨some ⟨gb, 0, none⟩, 36, cb, L.set k v⟩, ⟨Ar, nr, cr, rz'⟩, ⟨A7, n7, c7, L ++ [0]⟩] : List BsV), Bytes p.ys ∧ p.ys.length ≤ 200) := by
    intro p hp
    simp only [List.mem_cons, List.not_mem_nil, or_false] at hp
    rcases hp with rfl | rfl | rfl
    · exact ⟨HBs'.out, hlb⟩
    · exact ⟨HBr.out, hlr⟩
    · exact ⟨HB7.out, hl7⟩
  clear rb7 rr7 r7 hbw7
  go_wp2
  generalize hls : ([⟨some ⟨gb, 0, none⟩, 36, cb, L.set k v⟩, ⟨Ar, nr, cr, rz'⟩, ⟨A7, n7, c7, L ++ [0]⟩] : List BsV) = ls at hgs HBs
  have hll : ls.length = 3 := by rw [← hls]; rfl
  have HLL := Lib.hid hll
  clear hls hll
  generalize w7.heap.size = g7 at *
  go_loopw [90] (fun i wr => ∃ j : Nat, j ≤ 3 ∧ i = .int .i64 j ∧ GS w wr g7 ls) (fun i _ => 3 - (intOf i).toNat)
  case atStart => exact ⟨0, Nat.zero_le _, rfl, hgs⟩
  case round =>
    clear hgs
    obtain ⟨j, hj, rfl, hgs⟩ := hrel
    by_cases hjl : j < 3
    · obtain ⟨p, hp⟩ : ∃ p, ls[j]? = some p := ⟨_, List.getElem?_eq_getElem (by rw [HLL.out]; exact hjl)⟩
      obtain ⟨hpB, hpl⟩ := HBs.out p (List.mem_of_getElem? hp)
      have HpB := Lib.hid hpB
      have Hmem := Lib.hid (List.mem_of_getElem? hp)
      have hc := hgs.cell hp
      have hok := hgs.oks p (List.mem_of_getElem? hp)
      obtain ⟨qA, qn, qc, qs⟩ := p
      simp only [BsV.val] at hc
      change Row wr qA qn (cellsOf .u8 qs) at hok
      have hqn : qn ≤ 200 := by have := hok.len; simp only at hpl; omega
      clear hp hpB hpl
      cases hR : hhRight qs with
      | false =>
        have HT := Lib.hid (hhToldO_no hR)
        have heq0 : ∀ V, (Op.equalIn 10000 52 (.agg (hhA hh0)) (.agg hhZ)).run Try.prog V = .ok true V := fun V => eqO hh0 V
        clear hR
        go_wp2_with fail
        refine (hphO qA qn qc qs _ hok HpB.out).mono ?_
        rintro e w8 ⟨rfl, hb8⟩
        rw [HT.out]
        have hgs8 := hgs.below hb8
        have hz8 := heap_alloc_new w8 (.cells hhZ 52)
        have hk8 := setRow_heap _ w8.heap.size hhZ (hhA hh0) 52 (0, 0) hz8
        have hgs9 := hgs8.below (below_row (Nat.le_refl _) (hhA hh0) ((Below.refl w8.heap.size w8).alloc (Nat.le_refl _) (.cells hhZ 52)))
        have SI := Lib.hid (hhA_info hh0)
        have SA := Lib.hid (hhA_all hh0)
        have SZ := Lib.hid (hhZ_size hh0)
        have H9 := Lib.hid hgs9
        clear hgs hgs8 hb8 hok hc hgs9
        go_wp2_with (first
          | (with_reducible refine wpList_store_row rfl 52 (.tmp 15) (.tmp 97) rfl w8.heap.size (hhA hh0) rfl rfl 52 hhZ hz8 SI.out SZ.out SA.out ?_)
          | ((with_reducible refine wpList_load_wanted ?hw 52 (.tmp 15) rfl w8.heap.size rfl 52 (hhA hh0) (0, 0) _ hk8 Try.underlying52 rfl SI.out ?_); case hw => rfl))
        go_roundw
        case rel => exact ⟨j + 1, by omega, by go_num, H9.out⟩
        case measure => simp [intOf]; omega
      | true =>
        have HT := Lib.hid (hhToldO_yes hR)
        obtain ⟨hsm, _⟩ := hhRight_same hR
        have Hsm := Lib.hid hsm
        have hokq := hhOf_ok HpB.out
        have Hby := Lib.hid (fun V => hbytesO (hhOf qs) V hokq)
        have hBl : (hhB (hhOf qs)).length ≤ 40 := by unfold hhB; split <;> simp [hhL_len]
        have HBl := Lib.hid hBl
        clear hR hsm hokq hBl
        go_wp2_with fail
        refine (hphO qA qn qc qs _ hok HpB.out).mono ?_
        rintro e w8 ⟨rfl, hb8⟩
        rw [HT.out]
        have hgs8 := hgs.below hb8
        generalize hhB (hhOf qs) = ys at Hby Hsm HBl
        generalize hhOf qs = m at *
        have hz8 := heap_alloc_new w8 (.cells hhZ 52)
        have hk8 := setRow_heap _ w8.heap.size hhZ (hhA m) 52 (0, 0) hz8
        have hgs9 := hgs8.below (below_row (Nat.le_refl _) (hhA m) ((Below.refl w8.heap.size w8).alloc (Nat.le_refl _) (.cells hhZ 52)))
        have SI := Lib.hid (hhA_info m)
        have SA := Lib.hid (hhA_all m)
        have SZ := Lib.hid (hhZ_size m)
        have H9 := Lib.hid hgs9
        clear hgs hgs8 hb8 hok hc hgs9
        go_wp2_with (first
          | (with_reducible refine wpList_store_row rfl 52 (.tmp 15) (.tmp 97) rfl w8.heap.size (hhA m) rfl rfl 52 hhZ hz8 SI.out SZ.out SA.out ?_)
          | ((with_reducible refine wpList_load_wanted ?hw 52 (.tmp 15) rfl w8.heap.size rfl 52 (hhA m) (0, 0) _ hk8 Try.underlying52 rfl SI.out ?_); case hw => rfl))
        have hgs9 := H9.out
        have hokq := hgs9.oks _ Hmem.out
        change Row _ qA qn (cellsOf .u8 qs) at hokq
        clear H9 hz8 hk8
        generalize (w8.alloc (.cells hhZ 52)).setRow w8.heap.size (hhA m) = w9 at *
        refine (Hby.out w9).mono ?_
        rintro e w10 ⟨A10, n10, c10, rfl, o10, hb10⟩
        have hgs10 := hgs9.below hb10
        have hok10 := hokq.below hb10
        have hn10 : n10 ≤ 40 := by have h1 := o10.len; have h2 := HBl.out; omega
        have r10 := o10.row
        clear hgs9 hokq o10 hb10
        go_wp2_with fail
        with_reducible refine (same_any _ _ _ _ _ _ _ _ _ r10 hok10 (by omega) (by omega)).mono ?_
        rintro e w11 ⟨rfl, q, rfl⟩
        rw [Hsm.out]
        have hgs11 := hgs10.drewN q
        generalize w10.drewN q = w11 at *
        clear hgs10 hok10 r10
        go_wp2
        go_roundw
        case rel => exact ⟨j + 1, by omega, by go_num, hgs11⟩
        case measure => simp [intOf]; omega
    · go_wp2
      go_ret
      exact ⟨rfl, hgs.bel⟩

theorem law_HmtxHheas (h : Hh) (A : Option Addr) (n c : Nat) (zs : List Int) (a x : Int) (w : World) (hm : h.ok) (hr : Row w A n (cellsOf .u8 zs)) (hB : Bytes zs) (hn : n ≤ 9223372036854775807) (a0 : 0 ≤ a) (a1 : a ≤ 255) :
    Calls Try.prog 5 #[hhV h, .slice A n c, .int .u8 a, .int .u8 x] w (True_ w) := by
  cases hp : hpos h with
  | true => exact law_HmtxHheas_yes h A n c zs a x w hm hp hr hB hn a0 a1
  | false => exact law_HmtxHheas_no h A n c zs a x w hm hp hr hB hn

end Go.Proofs.Ytmbncdhpfhlobaa
