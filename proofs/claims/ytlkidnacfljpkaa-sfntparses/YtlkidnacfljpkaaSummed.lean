/- What sfnt.summed answers, as a contract over this seat's translation. -/
import Derived.Test.YtlkidnacfljpkaaFit
import Derived.Test.YtlkidnacfljpkaaGrow
import Derived.Test.YtlkidnacfljpkaaBuild
namespace Go.Proofs.Ytlkidnacfljpkaa
open Go.RowKit
set_option linter.unusedVariables false

theorem containsT_any (g off n c : Nat) (l : List Tab) (w : World) (hr : RowS encT 2 w (some ⟨g, off, none⟩) n l) (h0 : 0 < n) (hn : n ≤ 1000000) :
    Calls Try.prog 69 #[.slice (some ⟨g, off, none⟩) n c, .func (.func 29) #[] #[]] w (Ret w (.bool (l.any adjN))) := by
  have eg : ∀ args w, (callFunc 29 args).run Try.prog w = .ok (.enter 29 args) w := enters_of Try.func29 (by kernel_rfl) rfl
  have hln := hr.len
  have hg : g < w.heap.size := by
    obtain ⟨g', off', e', hg', _⟩ := hr.2.2 (by omega)
    simp only [Option.some.injEq, Addr.mk.injEq, and_true] at e'
    omega
  have hcon := AnyQ.slices_ContainsFunc Try.layContainsT 2 Try.isAgg30 Try.sizeOf30 encT encT_len adjN 29 #[] eg g off n c l w
    (fun W x hb => (adjustsN_any x W).mono fun e w' ⟨he, hb'⟩ => ⟨he, hb.trans (hb'.mono hb.size)⟩) (by omega) (by omega) hg (fun j hj i v hi => by
      obtain ⟨g', off', e', _, hc⟩ := hr.at encT_len (by omega) (j := j) (x := l[j]!) (by rw [getElem!_pos l j hj]; exact List.getElem?_eq_getElem hj)
      simp only [Option.some.injEq, Addr.mk.injEq, and_true] at e'
      obtain ⟨rfl, rfl⟩ := e'
      exact hc i v hi)
  change Calls Try.prog 69 _ _ _ at hcon
  rw [List.take_of_length_le (by omega)] at hcon
  exact hcon

/-- Are the first k sums the tables'? -/
def sumAt (es : List Ent) (ts : List Tab) (i : Nat) : Bool := sumL (ts.getD i default).tag.toList (ts.getD i default).zs == (es.getD i default).sm
def sumsK (es : List Ent) (ts : List Tab) (k : Nat) : Bool := (List.range k).all (sumAt es ts)
theorem sumsK_succ (es : List Ent) (ts : List Tab) (k : Nat) : sumsK es ts (k + 1) = (sumsK es ts k && sumAt es ts k) := by simp [sumsK, List.range_succ]
theorem sumsK_not {es : List Ent} {ts : List Tab} {k n : Nat} (h : sumAt es ts k = false) (hn : k < n) : sumsK es ts n = false := by
  unfold sumsK
  rw [List.all_eq_false]
  exact ⟨k, List.mem_range.2 hn, by rw [h]; simp⟩
theorem sumAt_get {es : List Ent} {ts : List Tab} {k : Nat} {x : Ent} {t : Tab} (hx : es[k]? = some x) (ht : ts[k]? = some t) : sumAt es ts k = (sumL t.tag.toList t.zs == x.sm) := by
  unfold sumAt
  simp [hx, ht]
def summedB (zs : List Int) (es : List Ent) (ts : List Tab) : Bool := sumsK es ts ts.length && (!(ts.any adjN) || (rs zs % 4294967296 == 2981146554))

set_option maxRecDepth 100000 in
set_option maxHeartbeats 2000000 in
theorem summed_any (fA : Option Addr) (fn fc : Nat) (zs : List Int) (eA : Option Addr) (n ec : Nat) (es : List Ent) (tg toff tc : Nat) (ts : List Tab) (w : World) (hf : Row w fA fn (cellsOf .u8 zs)) (hB : Bytes zs) (hfn : fn ≤ 100000000)
    (he : RowS encE 4 w eA n es) (ht : RowS encT 2 w (some ⟨tg, toff, none⟩) n ts) (hok : ∀ t ∈ ts, t.ok w) (h0 : 0 < n) (hn : n ≤ 1000000) :
    Calls Try.prog 37 #[.slice fA fn fc, .slice eA n ec, .slice (some ⟨tg, toff, none⟩) n tc] w (Ret w (.bool (summedB zs es ts))) := by
  have Het := Lib.hid he.len
  have Htt := Lib.hid ht.len
  have Hok := Lib.hid hok
  have HB := Lib.hid hB
  clear hok hB
  go_enter Try.func37, Try.ntmps37
  go_wp2
  go_loopw [11] (fun i wr => ∃ k : Nat, k ≤ n ∧ i = .int .i64 k ∧ sumsK es ts k = true ∧ Below w.heap.size w wr) (fun i _ => n - (intOf i).toNat)
  case atStart => exact ⟨0, Nat.zero_le _, rfl, rfl, Below.refl _ _⟩
  case round =>
    obtain ⟨k, hk, rfl, hS, hbel⟩ := hrel
    have HS := Lib.hid hS
    clear hS
    by_cases hlt : k < n
    · obtain ⟨x, hx⟩ : ∃ x, es[k]? = some x := ⟨_, List.getElem?_eq_getElem (by have := Het.out; omega)⟩
      obtain ⟨t, hx'⟩ : ∃ t, ts[k]? = some t := ⟨_, List.getElem?_eq_getElem (by have := Htt.out; omega)⟩
      have HA := Lib.hid (sumAt_get hx hx')
      have hto := (Hok.out t (List.mem_of_getElem? hx')).below hbel
      obtain ⟨g, off, rfl, hg, hc⟩ := (he.below hbel).at encE_len (by omega) hx
      obtain ⟨g', off', e', _, hc'⟩ := (ht.below hbel).at encT_len (by omega) hx'
      simp only [Option.some.injEq, Addr.mk.injEq, and_true] at e'
      obtain ⟨rfl, rfl⟩ := e'
      have q0 : wr.cell? ⟨tg, toff + k * 2, none⟩ = some (.string t.tag) := hc' 0 _ rfl
      have q1 : wr.cell? ⟨tg, toff + k * 2 + 1, none⟩ = some (.slice t.A t.n t.c) := hc' 1 _ rfl
      have p1 : wr.cell? ⟨g, off + k * 4 + 1, none⟩ = some (.int .u32 x.sm) := hc 1 _ rfl
      have hA : Below wr.heap.size wr (wr.alloc (.cells #[.string t.tag, .slice t.A t.n t.c] 30)) := (Below.refl _ _).alloc (Nat.le_refl _) _
      have hj := heap_alloc_new wr (.cells #[.string t.tag, .slice t.A t.n t.c] 30)
      have hB2 := hbel.trans (hA.mono hbel.size)
      have hto2 := hto.below hA
      have Q1 := (World.cell?_of_block (w := wr) (a := ⟨g, off + k * 4 + 1, none⟩) (hA.block _ (World.block_lt_of_cell? wr _ p1))).trans p1
      have hk0 : (0 : Int) ≤ (k : Int) := by omega
      have hk1 : (k : Int) < (n : Int) := by omega
      obtain ⟨tt, tA, tn, tcc, tz⟩ := t
      obtain ⟨_, sm, _, _⟩ := x
      simp only at q0 q1 hA hj hB2 hto2 HA Q1
      clear hx hx' hc hc' hto p1
      go_upto_region 4 with fail
      generalize wr.alloc _ = V at *
      clear q0 q1
      have N0 := gw_cell (show V.cell? ⟨wr.heap.size, 0, none⟩ = some (.string tt) from cell_of_row V _ 0 _ _ _ hj)
      have N1 := gw_cell (show V.cell? ⟨wr.heap.size, 1, none⟩ = some (.slice tA tn tcc) from cell_of_row V _ 1 _ _ _ hj)
      have N2 := gw_cell Q1
      have HT : Hid (∀ n os, Calls Try.prog 57 #[.agg #[.string tt, .slice tA tn tcc]] (gw V n os) (Ret (gw V n os) (.int .u32 (sumL tt.toList tz)))) := fun n os => tsum_any ⟨tt, tA, tn, tcc, tz⟩ (gw V n os) (hto2.below (gw_below V n os))
      generalize sumL tt.toList tz = sv at *
      clear hj Q1 hto2
      cases hE : (sv != sm) with
      | true =>
        have HF : Hid (summedB zs es ts = false) := by
          show summedB zs es ts = false
          unfold summedB
          rw [sumsK_not (k := k) (by rw [HA.out]; simpa [bne] using hE) (by have := Htt.out; omega)]
          rfl
        go_wp2_with fail
        refine region_below (by kernel_rfl) (by kernel_rfl) ?_
        repeat (quiet_step (first | (go_at_call 57; exact calls_gw (HT.out _ _))))
        refine wpQuiet_nil ?_
        rintro _ ⟨p, rfl⟩
        go_wp2
        go_ret
        exact ⟨by rw [HF.out]; rfl, hB2.trans ((gw_below _ _ _).mono hB2.size)⟩
      | false =>
        have HF : Hid (sumsK es ts (k + 1) = true) := by
          show sumsK es ts (k + 1) = true
          rw [sumsK_succ, HS.out, HA.out]
          simpa [bne] using hE
        go_wp2_with fail
        refine region_below (by kernel_rfl) (by kernel_rfl) ?_
        repeat (quiet_step (first | (go_at_call 57; exact calls_gw (HT.out _ _))))
        refine wpQuiet_nil ?_
        rintro _ ⟨p, rfl⟩
        have hB3 := hB2.trans ((gw_below V p.n p.os).mono hB2.size)
        clear N0 N1 N2 HT
        go_wp2
        go_roundw
        case rel => exact ⟨k + 1, by omega, by go_num, HF.out, hB3⟩
        case measure => simp [intOf]; omega
    · obtain rfl : k = n := by omega
      have HX : Hid (summedB zs es ts = (!(ts.any adjN) || (rs zs % 4294967296 == 2981146554))) := by
        show summedB zs es ts = _
        unfold summedB
        rw [Htt.out, HS.out]
        rfl
      have ht' := ht.below hbel
      have hf' := hf.below hbel
      clear he ht hf
      go_wp2_with fail
      with_reducible refine (containsT_any tg toff k tc ts wr ht' h0 hn).mono ?_
      rintro e w1 ⟨rfl, hb1⟩
      have hf1 := hf'.below hb1
      have hB1 := hbel.trans (hb1.mono hbel.size)
      clear hf' ht' hb1 hbel
      cases hE : ts.any adjN with
      | false =>
        go_wp2
        go_ret
        exact ⟨by rw [HX.out, hE]; rfl, hB1⟩
      | true =>
        go_wp2_with fail
        with_reducible refine (sum_rs_any fA fn fc zs w1 hf1 HB.out (by omega)).mono ?_
        rintro e w2 ⟨rfl, hb2⟩
        go_wp2
        go_ret
        exact ⟨by rw [HX.out, hE]; rfl, hB1.trans (hb2.mono hB1.size)⟩

end Go.Proofs.Ytlkidnacfljpkaa
