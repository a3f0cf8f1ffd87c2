/- seg.write and Build, as contracts over this seat's translation. -/
import Derived.Test.YthkaeimpflggjaaDoorSegB
import Derived.Test.YthkaeimpflggjaaDoorWrBox
namespace Go.Proofs.YthkaeimpflggjaaDoor
open Go.RowKit
set_option linter.unusedVariables false

def sgV (x : Sg) : Value := .agg #[.int .u16 x.a, .int .u16 x.b, .int .u16 x.d, .slice x.A x.n x.n]

theorem send_any (x : Sg) (w : World) : Calls Tryd.prog 63 #[sgV x] w (Ret w (.int .u16 x.b)) := by
  have hA := (Below.refl w.heap.size w).alloc (Nat.le_refl _) (.cells #[.int .u16 x.a, .int .u16 x.b, .int .u16 x.d, .slice x.A x.n x.n] 90)
  unfold sgV
  go_enter Tryd.func63, Tryd.ntmps63
  go_wp2
  go_ret
  exact ⟨rfl, hA⟩
theorem sstart_any (x : Sg) (w : World) : Calls Tryd.prog 64 #[sgV x] w (Ret w (.int .u16 x.a)) := by
  have hA := (Below.refl w.heap.size w).alloc (Nat.le_refl _) (.cells #[.int .u16 x.a, .int .u16 x.b, .int .u16 x.d, .slice x.A x.n x.n] 90)
  unfold sgV
  go_enter Tryd.func64, Tryd.ntmps64
  go_wp2
  go_ret
  exact ⟨rfl, hA⟩
theorem sdelta_any (x : Sg) (w : World) : Calls Tryd.prog 65 #[sgV x] w (Ret w (.int .u16 x.d)) := by
  have hA := (Below.refl w.heap.size w).alloc (Nat.le_refl _) (.cells #[.int .u16 x.a, .int .u16 x.b, .int .u16 x.d, .slice x.A x.n x.n] 90)
  unfold sgV
  go_enter Tryd.func65, Tryd.ntmps65
  go_wp2
  go_ret
  exact ⟨rfl, hA⟩
theorem szero_any (x : Sg) (w : World) : Calls Tryd.prog 66 #[sgV x] w (Ret w (.int .u16 0)) := by
  have hA := (Below.refl w.heap.size w).alloc (Nat.le_refl _) (.cells #[.int .u16 x.a, .int .u16 x.b, .int .u16 x.d, .slice x.A x.n x.n] 90)
  unfold sgV
  go_enter Tryd.func66, Tryd.ntmps66
  go_wp2
  go_ret
  exact ⟨rfl, hA⟩

/-- A Writer that is younger than w0. -/
structure WS (w0 wr : World) (bw : Nat) (zs : List Int) : Prop where
  wr_ : Wr wr w0.heap.size bw zs
  bel : Below w0.heap.size w0 wr
theorem WS.below {w0 wr w' : World} {bw : Nat} {zs : List Int} (h : WS w0 wr bw zs) (hb : Below wr.heap.size wr w') : WS w0 w' bw zs := ⟨h.wr_.below hb, h.bel.trans (hb.mono h.bel.size)⟩
theorem WS.turned {w0 wr w' : World} {bw : Nat} {zs ys : List Int} (h : WS w0 wr bw zs) (h1 : Wr w' w0.heap.size bw ys) (ht : Turned wr w' (WrS wr bw)) : WS w0 w' bw ys := ⟨h1, h.wr_.older h.bel (Nat.le_refl _) ht⟩

def colB (val : Sg → Int) (l : List Sg) : List Int := l.flatMap fun x => b2 (val x)
theorem colB_len (val : Sg → Int) : ∀ l : List Sg, (colB val l).length = 2 * l.length
  | [] => rfl
  | x :: r => by unfold colB; rw [List.flatMap_cons, List.length_append]; have := colB_len val r; unfold colB at this; rw [this]; simp [b2]; omega
theorem colB_snoc (val : Sg → Int) {l : List Sg} {k : Nat} {x : Sg} (h : l[k]? = some x) : colB val (l.take (k + 1)) = colB val (l.take k) ++ b2 (val x) := by
  unfold colB
  rw [List.take_add_one, h]
  simp

set_option maxRecDepth 100000 in
set_option maxHeartbeats 4000000 in
theorem scol_any (f : Nat) (val : Sg → Int) (eg : ∀ args w, (callFunc f args).run Tryd.prog w = .ok (.enter f args) w) (hf : ∀ x W, Calls Tryd.prog f #[sgV x] W (Ret W (.int .u16 (val x)))) (bs bw : Nat) (A : Option Addr) (n c : Nat) (l : List Sg) (zs : List Int) (w0 w : World) (hs : WS w0 w bw zs) (hr : RowS encS 4 w0 A n l) (hk : w0.cell? ⟨bs, 0, none⟩ = some (.slice A n c)) (hn : n ≤ 10000) (hv : ∀ x ∈ l, 0 ≤ val x ∧ val x < 65536) (hz : zs.length ≤ 1000000) :
    Calls Tryd.prog 62 #[.func (.func f) #[] #[], .pointer (some ⟨bs, 0, none⟩), .pointer (some ⟨bw, 0, none⟩)] w (fun e w' => e = .returned (.tuple #[]) ∧ WS w0 w' bw (zs ++ colB val l)) := by
  have Hn := Lib.hid hr.len
  have HF := Lib.hid hf
  have HV := Lib.hid hv
  have hbs := World.block_lt_of_cell? _ _ hk
  have kc : w.cell? ⟨bs, 0, none⟩ = some (.slice A n c) := (hs.bel.cell (p := ⟨bs, 0, none⟩) hbs).trans hk
  clear hf hv
  go_enter Tryd.func62, Tryd.ntmps62
  go_wp2
  go_loopw [8] (fun i wr => ∃ k : Nat, k ≤ n ∧ i = .int .i64 k ∧ WS w0 wr bw (zs ++ colB val (l.take k))) (fun i _ => n - (intOf i).toNat)
  case atStart => exact ⟨0, Nat.zero_le _, rfl, by simpa [colB] using hs⟩
  case round =>
    clear hs kc
    obtain ⟨k, hkn, rfl, hs⟩ := hrel
    have hzl : (zs ++ colB val (l.take k)).length ≤ 1000000 + 2 * n := by rw [List.length_append, colB_len, List.length_take]; omega
    by_cases hlt : k < n
    · obtain ⟨x, hx⟩ := getP (l := l) (j := k) (by have := Hn.out; omega)
      obtain ⟨g, off, rfl, hg, q0, q1, q2, q3⟩ := atS (hr.below hs.bel) hx
      have hvx := HV.out x (List.mem_of_getElem? hx)
      have HX := Lib.hid (colB_snoc val hx)
      have HC := Lib.hid (HF.out x)
      clear hx
      unfold sgV at HC
      generalize val x = vx at *
      obtain ⟨xa, xb, xd, xA, xn⟩ := x
      simp only at *
      have hal : Below wr.heap.size wr (wr.alloc (.cells #[.int .u16 xa, .int .u16 xb, .int .u16 xd, .slice xA xn xn] 90)) := (Below.refl _ _).alloc (Nat.le_refl _) _
      have hs1 := hs.below hal
      clear hs hal
      go_wp2_with fail
      refine (HC.out _).mono ?_
      rintro e w1 ⟨rfl, hb1⟩
      have hs2 := hs1.below hb1
      clear hs1 hb1 HC
      go_wp2_with fail
      with_reducible refine (wu16_any _ _ _ vx _ hs2.wr_ (by omega) (by omega) (by omega)).mono ?_
      rintro e w2 ⟨rfl, hw2, ht2⟩
      have hs3 := hs2.turned hw2 ht2
      rw [List.append_assoc, ← HX.out] at hs3
      clear hs2 hw2 ht2
      go_wp2
      go_roundw
      case rel => exact ⟨k + 1, by omega, by go_num, hs3⟩
      case measure => simp [intOf]; omega
    · have HE : Hid (l.take k = l) := List.take_of_length_le (by have := Hn.out; omega)
      rw [HE.out] at hs
      go_wp2
      go_end0
      exact ⟨rfl, hs⟩

end Go.Proofs.YthkaeimpflggjaaDoor
