/- seg.write and Build, as contracts over this seat's translation. -/
import Derived.Test.YthkaeimpflggjaaDoorSegW
import Derived.Test.YthkaeimpflggjaaDoorSegR
namespace Go.Proofs.YthkaeimpflggjaaDoor
open Go.RowKit
set_option linter.unusedVariables false

def sPre (n : Nat) : List Int := b2 4 ++ (b2 (2 * (8 + 4 * (n : Int))) ++ (b2 0 ++ b2 (2 * (n : Int))))
def sTab (l : List Sg) : List Int := sPre l.length ++ srB l.length ++ colB Sg.b l ++ b2 0 ++ colB Sg.a l ++ colB Sg.d l ++ colB (fun _ => 0) l
theorem srL_flat (n : Nat) : (srL n).flatMap b2 = srB n := by simp [srL, srB]
theorem srL_bound {n : Nat} (h0 : 1 ≤ n) (h1 : n < 32768) : ∀ x ∈ srL n, 0 ≤ x ∧ x < 65536 := by
  have hs := expoS_spec n h0
  have hx := expoS_lt n h0 h1
  rw [Nat.pow_succ] at hs
  intro x hx'
  unfold srL at hx'
  generalize (2 : Nat) ^ expoS n = p at *
  simp at hx'
  omega
theorem flat_b2_snoc {l : List Int} {k : Nat} {x : Int} (h : l[k]? = some x) : (l.take (k + 1)).flatMap b2 = (l.take k).flatMap b2 ++ b2 x := by
  rw [List.take_add_one, h]
  simp

set_option maxRecDepth 100000 in
set_option maxHeartbeats 8000000 in
theorem swrite_any (A : Option Addr) (n c : Nat) (l : List Sg) (w : World) (hr : RowS encS 4 w A n l) (h0 : 1 ≤ n) (hn : n ≤ 8000) (hv : ∀ x ∈ l, (0 ≤ x.a ∧ x.a < 65536) ∧ (0 ≤ x.b ∧ x.b < 65536) ∧ (0 ≤ x.d ∧ x.d < 65536)) :
    Calls Tryd.prog 43 #[.slice A n c] w (RetB w (sTab l)) := by
  have hA0 : Below w.heap.size w (w.alloc (.cells #[.slice A n c] 33)) := (Below.refl _ _).alloc (Nat.le_refl _) _
  have hk0 : (w.alloc (.cells #[.slice A n c] 33)).cell? ⟨w.heap.size, 0, none⟩ = some (.slice A n c) := cell_of_row _ _ 0 _ _ _ (heap_alloc_new w _)
  have hr0 := hr.below hA0
  have hs0 : WS (w.alloc (.cells #[.slice A n c] 33)) ((w.alloc (.cells #[.slice A n c] 33)).alloc (.cells #[.slice none 0 0] 68)) (w.heap.size + 1) [] := by
    have := wr_new (w.alloc (.cells #[.slice A n c] 33))
    rw [show (w.alloc (.cells #[.slice A n c] 33)).heap.size = w.heap.size + 1 by simp] at this
    exact ⟨by rw [show (w.alloc (.cells #[.slice A n c] 33)).heap.size = w.heap.size + 1 by simp]; exact this, (Below.refl _ _).alloc (Nat.le_refl _) _⟩
  have HV := Lib.hid hv
  have HA0 := Lib.hid hA0
  have Hl := Lib.hid hr.len
  have HSr := Lib.hid (fun W => ssearch_any n W h0 (by omega))
  have HSb := Lib.hid (srL_bound h0 (show n < 32768 by omega))
  obtain ⟨s1, s2, s3, hsr⟩ : ∃ s1 s2 s3, srL n = [s1, s2, s3] := ⟨_, _, _, rfl⟩
  have HFl := Lib.hid (srL_flat n)
  rw [hsr] at HSr HSb HFl
  unfold arrV at HSr
  simp only [cellsOf, List.map_cons, List.map_nil] at HSr
  have e1 : ∀ args w, (callFunc 63 args).run Tryd.prog w = .ok (.enter 63 args) w := enters_of Tryd.func63 (by kernel_rfl) rfl
  have e2 : ∀ args w, (callFunc 64 args).run Tryd.prog w = .ok (.enter 64 args) w := enters_of Tryd.func64 (by kernel_rfl) rfl
  have e3 : ∀ args w, (callFunc 65 args).run Tryd.prog w = .ok (.enter 65 args) w := enters_of Tryd.func65 (by kernel_rfl) rfl
  have e4 : ∀ args w, (callFunc 66 args).run Tryd.prog w = .ok (.enter 66 args) w := enters_of Tryd.func66 (by kernel_rfl) rfl
  have HC1 := Lib.hid (fun zs W h hz => scol_any 63 Sg.b e1 send_any w.heap.size (w.heap.size + 1) A n c l zs (w.alloc (.cells #[.slice A n c] 33)) W h hr0 hk0 (by omega) (fun x hx => (HV.out x hx).2.1) hz)
  have HC2 := Lib.hid (fun zs W h hz => scol_any 64 Sg.a e2 sstart_any w.heap.size (w.heap.size + 1) A n c l zs (w.alloc (.cells #[.slice A n c] 33)) W h hr0 hk0 (by omega) (fun x hx => (HV.out x hx).1) hz)
  have HC3 := Lib.hid (fun zs W h hz => scol_any 65 Sg.d e3 sdelta_any w.heap.size (w.heap.size + 1) A n c l zs (w.alloc (.cells #[.slice A n c] 33)) W h hr0 hk0 (by omega) (fun x hx => (HV.out x hx).2.2) hz)
  have HC4 := Lib.hid (fun zs W h hz => scol_any 66 (fun _ => 0) e4 szero_any w.heap.size (w.heap.size + 1) A n c l zs (w.alloc (.cells #[.slice A n c] 33)) W h hr0 hk0 (by omega) (fun x hx => by simp) hz)
  clear e1 e2 e3 e4 hv hr hr0 hk0 hsr
  go_enter Tryd.func43, Tryd.ntmps43
  go_wp2_with fail
  with_reducible refine (wu16_any _ _ _ 4 _ hs0.wr_ (by simp) (by omega) (by omega)).mono ?_
  rintro e w1 ⟨rfl, hw1, ht1⟩
  have hs1 := hs0.turned hw1 ht1
  clear hs0 hw1 ht1
  go_wp2_with fail
  with_reducible refine (wu16_any _ _ _ (2 * (8 + 4 * (n : Int))) _ hs1.wr_ (by simp [b2]) (by omega) (by omega)).mono ?_
  rintro e w2 ⟨rfl, hw2, ht2⟩
  have hs2 := hs1.turned hw2 ht2
  clear hs1 hw2 ht2
  go_wp2_with fail
  with_reducible refine (wu16_any _ _ _ 0 _ hs2.wr_ (by simp [b2]) (by omega) (by omega)).mono ?_
  rintro e w3 ⟨rfl, hw3, ht3⟩
  have hs3 := hs2.turned hw3 ht3
  clear hs2 hw3 ht3
  go_wp2_with fail
  with_reducible refine (wu16_any _ _ _ (2 * (n : Int)) _ hs3.wr_ (by simp [b2]) (by omega) (by omega)).mono ?_
  rintro e w4 ⟨rfl, hw4, ht4⟩
  have hs4 := hs3.turned hw4 ht4
  have HH : Hid ([] ++ b2 4 ++ b2 (2 * (8 + 4 * (n : Int))) ++ b2 0 ++ b2 (2 * (n : Int)) = sPre n) := by show _ = _; unfold sPre; simp
  rw [HH.out] at hs4
  clear hs3 hw4 ht4 HH
  have hpl : (sPre n).length = 8 := rfl
  have HTab : Hid (sPre n ++ srB n ++ colB Sg.b l ++ b2 0 ++ colB Sg.a l ++ colB Sg.d l ++ colB (fun _ => 0) l = sTab l) := by show _ = _; unfold sTab; rw [Hl.out]
  go_wp2_with fail
  refine (HSr.out _).mono ?_
  rintro e w5 ⟨rfl, hb5⟩
  have hs5 := hs4.below hb5
  clear hs4 hb5
  generalize sPre n = P at *
  generalize w.alloc (.cells #[.slice A n c] 33) = W0 at *
  go_wp2
  go_loopw [24] (fun i wr => ∃ k : Nat, k ≤ 3 ∧ i = .int .i64 k ∧ WS W0 wr (w.heap.size + 1) (P ++ ([s1, s2, s3].take k).flatMap b2)) (fun i _ => 3 - (intOf i).toNat)
  case atStart => exact ⟨0, Nat.zero_le _, rfl, by simpa using hs5⟩
  case round =>
    clear hs5
    obtain ⟨k, hk, rfl, hs⟩ := hrel
    by_cases hlt : k < 3
    · obtain ⟨x, hx⟩ := getP (l := [s1, s2, s3]) (j := k) hlt
      have hxb := HSb.out x (List.mem_of_getElem? hx)
      have HX := Lib.hid (flat_b2_snoc hx)
      have hix := run_index_arr (P := Tryd.prog) wr 117 43 3 #[.int .u16 s1, .int .u16 s2, .int .u16 s3] k (.int .u16 x) Tryd.underlying117 (by simp [go_sem]) (by simp [go_sem]) hlt (by
        have h := cellsOf_get (k := .u16) hx
        simpa [cellsOf] using h)
      have hll : (P ++ ([s1, s2, s3].take k).flatMap b2).length ≤ 1000 := by
        rcases (show k = 0 ∨ k = 1 ∨ k = 2 by omega) with rfl | rfl | rfl <;> simp [hpl, b2]
      clear hx
      go_wp2_with fail
      with_reducible refine (wu16_any _ _ _ x _ hs.wr_ (by omega) (by omega) (by omega)).mono ?_
      rintro e w6 ⟨rfl, hw6, ht6⟩
      have hs6 := hs.turned hw6 ht6
      rw [List.append_assoc, ← HX.out] at hs6
      clear hs hw6 ht6 hix
      go_wp2
      go_roundw
      case rel => exact ⟨k + 1, by omega, by go_num, hs6⟩
      case measure => simp [intOf]; omega
    · obtain rfl : k = 3 := by omega
      have HE : Hid (P ++ ([s1, s2, s3].take 3).flatMap b2 = P ++ srB n) := by show _ = _; rw [← HFl.out]; rfl
      rw [HE.out] at hs
      have hl1 : (P ++ srB n).length = 14 := by rw [List.length_append, hpl, srB_len]
      clear HE HFl HSb HSr
      generalize P ++ srB n = Q1 at *
      have hcb := colB_len Sg.b l
      have hca := colB_len Sg.a l
      have hcd := colB_len Sg.d l
      have hcz := colB_len (fun _ => 0) l
      have hln := Hl.out
      have hsw := hs.bel.size
      go_wp2_with fail
      refine (HC1.out _ _ hs (by omega)).mono ?_
      rintro e w6 ⟨rfl, hs6⟩
      clear hs
      go_wp2_with fail
      with_reducible refine (wu16_any _ _ _ 0 _ hs6.wr_ (by simp; omega) (by omega) (by omega)).mono ?_
      rintro e w7 ⟨rfl, hw7, ht7⟩
      have hs7 := hs6.turned hw7 ht7
      clear hs6 hw7 ht7
      go_wp2_with fail
      refine (HC2.out _ _ hs7 (by simp [b2]; omega)).mono ?_
      rintro e w8 ⟨rfl, hs8⟩
      clear hs7
      go_wp2_with fail
      refine (HC3.out _ _ hs8 (by simp [b2]; omega)).mono ?_
      rintro e w9 ⟨rfl, hs9⟩
      clear hs8
      go_wp2_with fail
      refine (HC4.out _ _ hs9 (by simp [b2]; omega)).mono ?_
      rintro e w10 ⟨rfl, hs10⟩
      rw [HTab.out] at hs10
      clear hs9
      have hlt : (sTab l).length ≤ 1000000 := by rw [← HTab.out]; simp [b2]; omega
      go_wp2_with fail
      with_reducible refine (done_any _ _ _ _ hs10.wr_ (by omega)).mono ?_
      rintro e w11 ⟨A3, n3, c3, rfl, hown3, hb3⟩
      have hbb := HA0.out.trans ((hs10.bel.trans (hb3.mono hs10.bel.size)).mono HA0.out.size)
      go_wp2
      go_ret
      exact ⟨A3, n3, c3, rfl, hown3.mono (Nat.le_trans HA0.out.size hs10.bel.size), hbb⟩

def sgL : Rn := ⟨65535, 65535, 0⟩
def sRuns (l : List Pr) : List Rn := runsF folS l ++ [sgL]
def sGood (l : List Pr) : Bool := risesF 65534 (-1) l && decide ((sRuns l).length ≤ 8000)
def sOut (l : List Pr) : List Int := if sGood l then sTab ((sRuns l).map sgR) else []

set_option maxRecDepth 100000 in
set_option maxHeartbeats 4000000 in
theorem sbuild_any (A : Option Addr) (n c : Nat) (l : List Pr) (w : World) (hr : RowS encP 2 w A n l) (hn : n ≤ 1000000) (hg : PrG l) :
    Calls Tryd.prog 22 #[.slice A n c] w (RetB w (sOut l)) := by
  obtain ⟨i0, hi, hz0, hz1, hz2⟩ := info_parts Tryd.sginfo
  have HR := Lib.hid (rises_any A n c l 65534 w hr hn)
  cases hv : risesF 65534 (-1) l with
  | false =>
    have HO : Hid (sOut l = []) := by show _ = _; unfold sOut sGood; rw [hv]; rfl
    rw [hv] at HR
    clear hv hr hg
    go_enter Tryd.func22, Tryd.ntmps22
    go_wp2_with fail
    with_reducible refine HR.out.mono ?_
    rintro e w1 ⟨rfl, hb1⟩
    go_wp2
    go_ret
    exact ⟨none, 0, 0, rfl, by rw [HO.out]; exact Own.nil _ _ _ _, hb1⟩
  | true =>
    have hok : OkP5 l := fun p hp => by
      have h1 := risesF_mem hv p hp
      have h2 := hg p hp
      omega
    have hgs := runsS_g l hg
    have hro := runs_ok folS_code 65534 l (-1) hv
    have hab : ∀ x ∈ runsF folS l, 0 ≤ x.a ∧ x.a ≤ x.b ∧ x.b ≤ 65534 := by
      have key : ∀ (t : List Rn) (ah : Int), -1 ≤ ah → rnOK 65534 ah t → ∀ x ∈ t, 0 ≤ x.a ∧ x.a ≤ x.b ∧ x.b ≤ 65534 := by
        intro t
        induction t with
        | nil => intro _ _ _ x hx; simp at hx
        | cons y t ih =>
          intro ah ha ho x hx
          obtain ⟨o1, o2, o3, o4⟩ := ho
          rcases List.mem_cons.1 hx with rfl | hx
          · omega
          · exact ih y.b (by omega) o4 x hx
      exact key _ _ (by omega) hro
    have hvv : ∀ x ∈ (sRuns l).map sgR, (0 ≤ x.a ∧ x.a < 65536) ∧ (0 ≤ x.b ∧ x.b < 65536) ∧ (0 ≤ x.d ∧ x.d < 65536) := by
      intro x hx
      obtain ⟨y, hy, rfl⟩ := List.mem_map.1 hx
      unfold sRuns at hy
      rcases List.mem_append.1 hy with h | h
      · have a1 := hab y h
        have a2 := hgs y h
        simp only [sgR]
        omega
      · simp at h
        subst h
        simp [sgR, sgL]
    have hlen := runsF_len folS l
    have Hn := Lib.hid hr.len
    rw [hv] at HR
    have HVV := Lib.hid hvv
    have HGd : Hid (sGood l = decide ((runsF folS l).length + 1 ≤ 8000)) := by show _ = _; unfold sGood sRuns; rw [hv, List.length_append]; rfl
    have HOt : Hid (sOut l = if sGood l then sTab ((sRuns l).map sgR) else []) := rfl
    have HRu := Lib.hid (fun (W : World) (h : Below w.heap.size w W) => sruns_any A n c l W (hr.below h) hn hok)
    have HMp : Hid ((runsF folS l).map sgR ++ [⟨65535, 65535, 1, none, 0⟩] = (sRuns l).map sgR) := by show _ = _; unfold sRuns; rw [List.map_append]; rfl
    clear hv hg hok hgs hro hab hr hvv
    go_enter Tryd.func22, Tryd.ntmps22
    go_wp2_with fail
    with_reducible refine HR.out.mono ?_
    rintro e w1 ⟨rfl, hb1⟩
    clear HR
    go_wp2_with fail
    with_reducible refine (HRu.out _ hb1).mono ?_
    rintro e w2 ⟨Ar, m, cr, rfl, hown, hb2'⟩
    have hb2 := hb1.trans (hb2'.mono hb1.size)
    have hml : (runsF folS l).length = m := by have := hown.len; rwa [List.length_map] at this
    rw [hml] at HGd hlen
    have hln := Hn.out
    have hown0 := hown.mono hb1.size
    have hs2 := hb2.size
    clear hown hb2' hb1 HRu
    by_cases hbig : m + 1 ≤ 8000
    · have HO : Hid (sOut l = sTab ((sRuns l).map sgR)) := by show _ = _; rw [HOt.out, HGd.out, decide_eq_true hbig]; rfl
      go_wp2_with (at_builtin; refine wpList_append_rowS rfl (.tmp 8) (.tmp 10) _ rfl 90 encS 4 encS_len (by omega) encS_one w.heap.size i0 _ 32 Tryd.underlying33 hi hz0 hz1 rfl hz2 _ m cr _ rfl (hown0.alloc _) (some ⟨w2.heap.size, 0, none⟩) 1 1 [⟨65535, 65535, 1, none, 0⟩] rfl (rowS_vals encS_len w2 90 [⟨65535, 65535, 1, none, 0⟩] _ rfl 1 rfl) (by omega) (by omega) (by simp; omega) ?_; intro A6 c6 w6 ho6 hg6)
      have hb6 := (hb2.alloc hb2.size _).grown hg6 (hb2.alloc hb2.size _).size (fun q e => (hown0.from_ q e).1)
      rw [HMp.out] at ho6
      have HW := Lib.hid (swrite_any A6 (m + 1) c6 _ w6 (ho6.row encS_len) (by omega) hbig HVV.out)
      clear ho6 hg6 hown0
      refine HW.out.mono ?_
      rintro e w7 ⟨A7, n7, c7, rfl, hown7, hb7⟩
      go_wp2
      go_ret
      exact ⟨A7, n7, c7, rfl, by rw [HO.out]; exact hown7.mono hb6.size, hb6.trans (hb7.mono hb6.size)⟩
    · have HO : Hid (sOut l = []) := by show _ = _; rw [HOt.out, HGd.out, decide_eq_false hbig]; rfl
      go_wp2_with (at_builtin; refine wpList_append_rowS rfl (.tmp 8) (.tmp 10) _ rfl 90 encS 4 encS_len (by omega) encS_one w.heap.size i0 _ 32 Tryd.underlying33 hi hz0 hz1 rfl hz2 _ m cr _ rfl (hown0.alloc _) (some ⟨w2.heap.size, 0, none⟩) 1 1 [⟨65535, 65535, 1, none, 0⟩] rfl (rowS_vals encS_len w2 90 [⟨65535, 65535, 1, none, 0⟩] _ rfl 1 rfl) (by omega) (by omega) (by simp; omega) ?_; intro A6 c6 w6 ho6 hg6)
      have hb6 := (hb2.alloc hb2.size _).grown hg6 (hb2.alloc hb2.size _).size (fun q e => (hown0.from_ q e).1)
      go_ret
      exact ⟨none, 0, 0, rfl, by rw [HO.out]; exact Own.nil _ _ _ _, hb6⟩

end Go.Proofs.YthkaeimpflggjaaDoor
