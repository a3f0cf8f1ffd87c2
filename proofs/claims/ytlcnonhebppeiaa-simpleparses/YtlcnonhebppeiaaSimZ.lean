/- The document's outline of simple's: bit and number, as contracts over this seat's translation. -/
import Derived.Test.YtlcnonhebppeiaaSimP
import Derived.Test.YtlcnonhebppeiaaSimE2
import Derived.Test.YtlcnonhebppeiaaWin
namespace Go.Proofs.Ytlcnonhebppeiaa
open Go.RowKit
set_option linter.unusedVariables false

set_option maxRecDepth 100000 in
theorem rbit_any (f k : Int) (w : World) (f0 : 0 ≤ f) (f1 : f ≤ 255) (k0 : 0 < k) (k1 : k ≤ 128) : Calls Try.prog 74 #[.int .u8 f, .int .i64 k] w fun e w' => e = .returned (.bool (fb f k)) ∧ w = w' := by
  have hk : ¬ k = 0 := by omega
  have hk' : ¬ k = -1 := by omega
  have hd : Int.tdiv f k = f / k := by rw [Int.tdiv_eq_ediv_of_nonneg f0]
  have hd0 : 0 ≤ f / k := Int.ediv_nonneg f0 (by omega)
  have hd1 : f / k ≤ 255 := Int.le_trans (Int.ediv_le_self k f0) f1
  have hm : Int.tmod (f / k) 2 = f / k % 2 := by rw [Int.tmod_eq_emod_of_nonneg hd0]
  unfold fb
  generalize f / k = d at *
  go_enter Try.func74, Try.ntmps74
  go_wp2
  go_ret
  exact ⟨by show Ending.returned (.bool (d % 2 == 1)) = _; congr 2, rfl⟩

/-- What number leaves. -/
def RetNm (w : World) (zs : List Int) (n : Nat) (sh pl f : Int) (i : Nat) (e : Ending) (w' : World) : Prop :=
  (∃ q, w' = w.drewN q) ∧ ((i + cw sh pl f ≤ n ∧ e = .returned (.tuple #[.int .i64 (cv zs sh pl f i), .int .i64 ((cw sh pl f : Nat) : Int), .bool true])) ∨ (n < i + cw sh pl f ∧ ∃ k : Int, e = .returned (.tuple #[.int .i64 0, .int .i64 k, .bool false])))

set_option maxRecDepth 100000 in
set_option maxHeartbeats 2000000 in
theorem rnumber_any (A : Option Addr) (n c : Nat) (zs : List Int) (i : Nat) (f sh pl : Int) (w : World) (hr : Row w A n (cellsOf .u8 zs)) (hB : Bytes zs) (hn : n ≤ 1000000) (hi : i ≤ n) (f0 : 0 ≤ f) (f1 : f ≤ 255) (s0 : 0 < sh) (s1 : sh ≤ 128) (p0 : 0 < pl) (p1 : pl ≤ 128) :
    Calls Try.prog 75 #[.slice A n c, .int .i64 i, .int .u8 f, .int .i64 sh, .int .i64 pl] w (RetNm w zs n sh pl f i) := by
  have HS := Lib.hid (rbit_any f sh w f0 f1 s0 s1)
  have HP := Lib.hid (rbit_any f pl w f0 f1 p0 p1)
  have hl := hr.len
  have Hl : Hid (zs.length = n) := hl
  have H2 := Lib.hid (n2_any A n c zs i w hr hB (by omega) (by omega))
  have HRet : Hid (∀ q (e : Ending), ((i + cw sh pl f ≤ n ∧ e = .returned (.tuple #[.int .i64 (cv zs sh pl f i), .int .i64 ((cw sh pl f : Nat) : Int), .bool true])) ∨ (n < i + cw sh pl f ∧ ∃ k : Int, e = .returned (.tuple #[.int .i64 0, .int .i64 k, .bool false]))) → RetNm w zs n sh pl f i e (w.drewN q)) := fun q e h => ⟨⟨q, rfl⟩, h⟩
  have Hr := Lib.hid hr
  have HB := Lib.hid hB
  clear hr hB hl
  go_enter Try.func75, Try.ntmps75
  go_wp2_with fail
  with_reducible refine HS.out.mono ?_
  rintro e w1 ⟨rfl, rfl⟩
  cases hs : fb f sh
  · go_wp2_with fail
    with_reducible refine HP.out.mono ?_
    rintro e w1 ⟨rfl, rfl⟩
    cases hp : fb f pl
    · have hcw : cw sh pl f = 2 := by simp [cw, hs, hp]
      have hcv : cv zs sh pl f i = sgn (n2at zs i) := by simp [cv, hs, hp]
      rw [hcw, hcv] at HRet
      obtain ⟨v0, v1⟩ := n2v_le HB.out i
      have HSg := Lib.hid (fun W => sign_any (n2v zs i) W v0 (by omega))
      rw [← n2v_at] at HRet
      have hnb : Hid ((n2b zs i = true ∧ i + 2 ≤ n) ∨ (n2b zs i = false ∧ n < i + 2 ∧ sgn (n2v zs i) = 0)) := by
        have h1 := Hl.out
        by_cases h : i + 2 ≤ n
        · exact .inl ⟨by unfold n2b; simp; omega, h⟩
        · refine .inr ⟨by unfold n2b; simp; omega, by omega, ?_⟩
          have : n2v zs i = 0 := by
            unfold n2v
            rw [List.getElem?_eq_none (l := zs) (i := i + 1) (by omega)]
            split
            · rename_i h1 h2; cases h2
            · rfl
          rw [this]
          rfl
      have HSg2 : Hid (∀ W, Calls Try.prog 72 #[.int .i64 (n2v zs i)] W fun e w' => e = .returned (.int .i64 (sgn (n2v zs i))) ∧ W = w') := HSg.out
      clear HSg hcw hcv HS HP
      go_wp2_with fail
      with_reducible refine H2.out.mono ?_
      rintro e w1 ⟨rfl, q, rfl⟩
      generalize n2v zs i = x at *
      go_wp2_with fail
      with_reducible refine (HSg2.out _).mono ?_
      rintro e w1 ⟨rfl, rfl⟩
      rcases hnb.out with ⟨hb, h2⟩ | ⟨hb, h2, h3⟩
      · rw [hb]
        clear H2
        go_wp2
        go_ret3
        exact HRet.out q _ (.inl ⟨h2, rfl⟩)
      · rw [hb, h3]
        clear H2
        go_wp2
        go_ret3
        exact HRet.out q _ (.inr ⟨h2, 2, rfl⟩)
    · have hcw : cw sh pl f = 0 := by simp [cw, hs, hp]
      have hcv : cv zs sh pl f i = 0 := by simp [cv, hs, hp]
      rw [hcw, hcv] at HRet
      clear HS HP H2
      go_wp2
      go_ret3
      exact HRet.out 0 _ (.inl ⟨by omega, rfl⟩)
  · by_cases hin : i < n
    · obtain ⟨x, hx⟩ := get_some (zs := zs) (k := i) (by rw [Hl.out]; exact hin)
      obtain ⟨x0, x1⟩ := HB.out x (List.mem_of_getElem? hx)
      obtain ⟨g, off, rfl, hg, hc⟩ := Hr.out.at (cellsOf_get (k := .u8) hx)
      have hx1 := n1at_get hx
      have hcw : cw sh pl f = 1 := by simp [cw, hs]
      rw [hcw] at HRet
      clear HS H2 hx
      go_wp2_with fail
      with_reducible refine HP.out.mono ?_
      rintro e w1 ⟨rfl, rfl⟩
      cases hp : fb f pl
      · have hcv : cv zs sh pl f i = -x := by simp [cv, hs, hp, hx1]
        rw [hcv] at HRet
        clear hx1 HP
        go_wp2
        go_ret3
        exact HRet.out 0 _ (.inl ⟨by omega, rfl⟩)
      · have hcv : cv zs sh pl f i = x := by simp [cv, hs, hp, hx1]
        rw [hcv] at HRet
        clear hx1 HP
        go_wp2
        go_ret3
        exact HRet.out 0 _ (.inl ⟨by omega, rfl⟩)
    · have hcw : cw sh pl f = 1 := by simp [cw, hs]
      rw [hcw] at HRet
      clear HS H2 HP
      have hni : n ≤ i := by omega
      go_wp2
      go_ret3
      exact HRet.out 0 _ (.inr ⟨by omega, 0, rfl⟩)
end Go.Proofs.Ytlcnonhebppeiaa
