/- Pairs in memory; Rises; what goes on from what: contracts over this seat's translation. -/
import Derived.Test.YthkaeimpflggjaaDoorRunM
import Derived.Test.YthkaeimpflggjaaDoorStructs
import Derived.Test.YthkaeimpflggjaaDoorGrow
import Derived.Test.YthkaeimpflggjaaDoorCells
namespace Go.Proofs.YthkaeimpflggjaaDoor
open Go.RowKit
set_option linter.unusedVariables false

def encP (p : Pr) : List Value := [.int .i32 p.code, .int .u16 p.glyph]
def encQ (p : Pr) : List Value := [.int .i64 p.code, .int .i64 p.glyph]
theorem encP_len (p : Pr) : (encP p).length = 2 := rfl
theorem encQ_len (p : Pr) : (encQ p).length = 2 := rfl
theorem encP_one (p : Pr) : ∀ u ∈ encP p, u.oneCell' = true := by intro u hu; simp [encP] at hu; rcases hu with rfl | rfl <;> rfl
theorem encQ_one (p : Pr) : ∀ u ∈ encQ p, u.oneCell' = true := by intro u hu; simp [encQ] at hu; rcases hu with rfl | rfl <;> rfl

theorem getP {α : Type} {l : List α} {j : Nat} (h : j < l.length) : ∃ m, l[j]? = some m := ⟨l[j], List.getElem?_eq_getElem h⟩
theorem drop_consP {α : Type} {l : List α} {k : Nat} {p : α} (h : l[k]? = some p) : l.drop k = p :: l.drop (k + 1) := by
  obtain ⟨hk, rfl⟩ := List.getElem?_eq_some_iff.1 h
  exact List.drop_eq_getElem_cons hk

set_option maxRecDepth 100000 in
set_option maxHeartbeats 1000000 in
theorem rises_any (A : Option Addr) (n c : Nat) (l : List Pr) (most : Int) (w : World) (hr : RowS encP 2 w A n l) (hn : n ≤ 1000000) :
    Calls Tryd.prog 41 #[.slice A n c, .int .i32 most] w (Ret w (.bool (risesF most (-1) l))) := by
  have Hn := Lib.hid hr.len
  go_enter Tryd.func41, Tryd.ntmps41
  go_wp2
  go_loopw [5, 10] (fun a i wr => ∃ (k : Nat) (ah : Int), k ≤ n ∧ i = .int .i64 k ∧ a = .int .i32 ah ∧ Hid (risesF most (-1) l = risesF most ah (l.drop k)) ∧ Below w.heap.size w wr) (fun _ i _ => n - (intOf i).toNat)
  case atStart => exact ⟨0, -1, Nat.zero_le _, rfl, rfl, Lib.hid rfl, Below.refl _ _⟩
  case round =>
    obtain ⟨k, ah, hk, rfl, rfl, he, hb⟩ := hrel
    by_cases hlt : k < n
    · obtain ⟨p, hp⟩ := getP (l := l) (j := k) (by have := Hn.out; omega)
      obtain ⟨g, off, rfl, hg, hcl⟩ := (hr.below hb).at encP_len (by omega) hp
      have q0 : wr.cell? ⟨g, off + k * 2, none⟩ = some (.int .i32 p.code) := hcl 0 _ rfl
      have q1 : wr.cell? ⟨g, off + k * 2 + 1, none⟩ = some (.int .u16 p.glyph) := hcl 1 _ rfl
      have HB := Lib.hid (hb.alloc hb.size (.cells #[.int .i32 p.code, .int .u16 p.glyph] 45))
      have he' := he.out
      rw [drop_consP hp, risesF] at he'
      clear hcl hp hb
      obtain ⟨pc, pg⟩ := p
      simp only at q0 q1 HB he'
      by_cases h1 : ah < pc
      · by_cases h2 : pc ≤ most
        · have H : Hid (risesF most (-1) l = risesF most pc (l.drop (k + 1))) := by show _ = _; rw [he']; simp [h1, h2]
          clear he he'
          go_wp2
          go_roundw
          case rel => exact ⟨k + 1, pc, by omega, by go_num, rfl, H, HB.out⟩
          case measure => simp [intOf]; omega
        · have H : Hid (risesF most (-1) l = false) := by show _ = _; rw [he']; simp [h2]
          clear he he'
          go_wp2
          go_ret
          rw [H.out]
          exact ⟨rfl, HB.out⟩
      · have H : Hid (risesF most (-1) l = false) := by show _ = _; rw [he']; simp [h1]
        clear he he'
        go_wp2
        go_ret
        rw [H.out]
        exact ⟨rfl, HB.out⟩
    · have H : Hid (risesF most (-1) l = true) := by show _ = _; rw [he.out, List.drop_of_length_le (by have := Hn.out; omega)]; rfl
      go_wp2
      go_ret
      rw [H.out]
      exact ⟨rfl, hb⟩

def pV (p : Pr) : Value := .agg #[.int .i32 p.code, .int .u16 p.glyph]

set_option maxRecDepth 100000 in
set_option maxHeartbeats 1000000 in
theorem gfol_any (p q : Pr) (w : World) (c0 : -1 ≤ p.code) (c1 : p.code ≤ 2000000000) (g0 : 0 ≤ p.glyph) (g1 : p.glyph ≤ 65535) (k0 : 0 ≤ q.glyph) (k1 : q.glyph ≤ 65535) :
    Calls Tryd.prog 67 #[pV p, pV q] w (Ret w (.bool (folG p q))) := by
  have HB := Lib.hid (((Below.refl w.heap.size w).alloc (Nat.le_refl _) (.cells #[.int .i32 p.code, .int .u16 p.glyph] 45)).alloc (by simp) (.cells #[.int .i32 q.code, .int .u16 q.glyph] 45))
  obtain ⟨pc, pg⟩ := p
  obtain ⟨qc, qg⟩ := q
  simp only [pV] at *
  by_cases h1 : qc = pc + 1
  · have b1 : (qc == pc + 1) = true := by simp [h1]
    by_cases h2 : pg < 65535
    · by_cases h3 : qg = pg + 1
      · have b3 : (qg == pg + 1) = true := by simp [h3]
        have H : Hid (folG ⟨pc, pg⟩ ⟨qc, qg⟩ = true) := by show _ = _; simp [folG, h1, h3]
        clear h1 h3
        go_enter Tryd.func67, Tryd.ntmps67
        go_wp2
        go_ret
        rw [H.out]
        exact ⟨rfl, HB.out⟩
      · have b3 : (qg == pg + 1) = false := by simp [h3]
        have H : Hid (folG ⟨pc, pg⟩ ⟨qc, qg⟩ = false) := by show _ = _; simp [folG, h3]
        clear h1 h3
        go_enter Tryd.func67, Tryd.ntmps67
        go_wp2
        go_ret
        rw [H.out]
        exact ⟨rfl, HB.out⟩
    · have H : Hid (folG ⟨pc, pg⟩ ⟨qc, qg⟩ = false) := by show _ = _; simp [folG]; intro _; omega
      clear h1
      go_enter Tryd.func67, Tryd.ntmps67
      go_wp2
      go_ret
      rw [H.out]
      exact ⟨rfl, HB.out⟩
  · have b1 : (qc == pc + 1) = false := by simp [h1]
    have H : Hid (folG ⟨pc, pg⟩ ⟨qc, qg⟩ = false) := by show _ = _; simp [folG, h1]
    clear h1
    go_enter Tryd.func67, Tryd.ntmps67
    go_wp2
    go_ret
    rw [H.out]
    exact ⟨rfl, HB.out⟩

set_option maxRecDepth 100000 in
set_option maxHeartbeats 1000000 in
theorem sfol_any (p q : Pr) (w : World) (c0 : -1 ≤ p.code) (c1 : p.code ≤ 2000000000) (g0 : 0 ≤ p.glyph) (g1 : p.glyph ≤ 65535) (k0 : 0 ≤ q.glyph) (k1 : q.glyph ≤ 65535) :
    Calls Tryd.prog 60 #[pV p, pV q] w (Ret w (.bool (folS p q))) := by
  have HB := Lib.hid (((Below.refl w.heap.size w).alloc (Nat.le_refl _) (.cells #[.int .i32 p.code, .int .u16 p.glyph] 45)).alloc (by simp) (.cells #[.int .i32 q.code, .int .u16 q.glyph] 45))
  obtain ⟨pc, pg⟩ := p
  obtain ⟨qc, qg⟩ := q
  simp only [pV] at *
  by_cases h1 : qc = pc + 1
  · have b1 : (qc == pc + 1) = true := by simp [h1]
    by_cases h2 : pg < 65535
    · by_cases h3 : qg = pg + 1
      · have b3 : (qg == pg + 1) = true := by simp [h3]
        have H : Hid (folS ⟨pc, pg⟩ ⟨qc, qg⟩ = true) := by show _ = _; simp [folS, h1]; omega
        clear h1 h3
        go_enter Tryd.func60, Tryd.ntmps60
        go_wp2
        go_ret
        rw [H.out]
        exact ⟨rfl, HB.out⟩
      · have b3 : (qg == pg + 1) = false := by simp [h3]
        have H : Hid (folS ⟨pc, pg⟩ ⟨qc, qg⟩ = false) := by show _ = _; simp [folS, h1]; omega
        clear h1 h3
        go_enter Tryd.func60, Tryd.ntmps60
        go_wp2
        go_ret
        rw [H.out]
        exact ⟨rfl, HB.out⟩
    · have h4 : pg = 65535 := by omega
      by_cases h3 : qg = 0
      · have b3 : (qg == IntKind.u16.wrap 65536) = true := by rw [show IntKind.u16.wrap 65536 = 0 from by decide]; simp [h3]
        have H : Hid (folS ⟨pc, pg⟩ ⟨qc, qg⟩ = true) := by show _ = _; simp [folS, h1]; omega
        clear h1 h3
        subst h4
        go_enter Tryd.func60, Tryd.ntmps60
        go_wp2
        go_ret
        rw [H.out]
        exact ⟨rfl, HB.out⟩
      · have b3 : (qg == IntKind.u16.wrap 65536) = false := by rw [show IntKind.u16.wrap 65536 = 0 from by decide]; simp [h3]
        have H : Hid (folS ⟨pc, pg⟩ ⟨qc, qg⟩ = false) := by show _ = _; simp [folS, h1]; omega
        clear h1 h3
        subst h4
        go_enter Tryd.func60, Tryd.ntmps60
        go_wp2
        go_ret
        rw [H.out]
        exact ⟨rfl, HB.out⟩
  · have b1 : (qc == pc + 1) = false := by simp [h1]
    have H : Hid (folS ⟨pc, pg⟩ ⟨qc, qg⟩ = false) := by show _ = _; simp [folS, h1]
    clear h1
    go_enter Tryd.func60, Tryd.ntmps60
    go_wp2
    go_ret
    rw [H.out]
    exact ⟨rfl, HB.out⟩

/-- What a search leaves: the first place, as far as it has looked. -/
def RetSe (w : World) (n : Nat) (p : Nat → Bool) (e : Ending) (w' : World) : Prop :=
  ∃ r : Nat, r ≤ n ∧ e = .returned (.int .i64 r) ∧ (0 < r → p (r - 1) = false) ∧ (r < n → p r = true) ∧ Below w.heap.size w w'

set_option maxRecDepth 100000 in
set_option maxHeartbeats 1000000 in
theorem search_any (g : Nat) (cb : Array Value) (n : Nat) (p : Nat → Bool) (w : World) (eg : ∀ args w, (callFunc g args).run Tryd.prog w = .ok (.enter g args) w) (hn : n ≤ 1000000)
    (hf : ∀ (W : World) (i : Nat), i < n → Below w.heap.size w W → Calls Tryd.prog g (#[.int .i64 i] ++ cb) W (Ret W (.bool (p i)))) :
    Calls Tryd.prog 54 #[.int .i64 n, .func (.func g) #[] cb] w (RetSe w n p) := by
  have HF := Lib.hid hf
  clear hf
  go_enter Tryd.func54, Tryd.ntmps54
  go_wp2
  go_loopw [5, 6] (fun s5 s6 wr => ∃ lo hi : Nat, s5 = .int .i64 lo ∧ s6 = .int .i64 hi ∧ lo ≤ hi ∧ hi ≤ n ∧ Hid ((0 < lo → p (lo - 1) = false) ∧ (hi < n → p hi = true)) ∧ Below w.heap.size w wr) (fun s5 s6 _ => (intOf s6).toNat - (intOf s5).toNat)
  case atStart => exact ⟨0, n, rfl, rfl, Nat.zero_le _, Nat.le_refl _, Lib.hid ⟨fun h => absurd h (by omega), fun h => absurd h (by omega)⟩, Below.refl _ _⟩
  case round =>
    obtain ⟨lo, hi, rfl, rfl, hlh, hin, I, hb⟩ := hrel
    by_cases hlt : lo < hi
    · have hc := HF.out wr ((lo + hi) / 2) (by omega) hb
      rw [show (((lo + hi) / 2 : Nat) : Int) = ((lo : Int) + (hi : Int)) / 2 by omega] at hc
      have HC := Lib.hid hc
      clear hc
      go_wp2_with fail
      refine HC.out.mono ?_
      rintro e w1 ⟨rfl, hb1⟩
      have hbf := hb.trans (hb1.mono hb.size)
      clear hb1 HC hb
      generalize hq : p ((lo + hi) / 2) = q at *
      have HQ := Lib.hid hq
      clear hq
      cases q with
      | false =>
        go_wp2
        go_roundw
        case rel => exact ⟨(lo + hi) / 2 + 1, hi, by go_num, rfl, by omega, hin, Lib.hid ⟨fun _ => by rw [Nat.add_sub_cancel]; exact HQ.out, I.out.2⟩, hbf⟩
        case measure => simp [intOf]; omega
      | true =>
        go_wp2
        go_roundw
        case rel => exact ⟨lo, (lo + hi) / 2, rfl, by go_num, by omega, by omega, Lib.hid ⟨I.out.1, fun _ => HQ.out⟩, hbf⟩
        case measure => simp [intOf]; omega
    · go_wp2
      go_ret
      exact ⟨lo, by omega, rfl, I.out.1, fun h => by have := I.out.2; rw [show hi = lo by omega] at this; exact this h, hb⟩

end Go.Proofs.YthkaeimpflggjaaDoor
