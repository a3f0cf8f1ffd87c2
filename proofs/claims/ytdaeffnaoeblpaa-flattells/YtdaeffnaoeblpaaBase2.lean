/- What the laws of this seat lean on: Word2 Word3 RdBox Law01 Writer Writes Win SimM ComM Grow Dot DotRef Reg Cells. -/
import Derived.Laws.BitsAllLaws
import Derived.BigQuiet
import Derived.Shelf.SlSortCmp.QuietGrown
import Derived.StillTailTactics
import Derived.Deep.RegionHeld
import Derived.Test.YtdaeffnaoeblpaaBase1

/- A Reader's numbers, as contracts over this seat's translation. -/
namespace Go.Proofs.Ytdaeffnaoeblpaa
open Go.RowKit
set_option linter.unusedVariables false

/-- Bytes as a number, the highest first. -/
def be (l : List Int) : Int := l.foldl (fun n b => n * 256 + b) 0

theorem be_snoc (l : List Int) (x : Int) : be (l ++ [x]) = be l * 256 + x := by simp [be]

theorem be_le_from (l : List Int) : ∀ (acc : Int) (n : Nat), Bytes l → 0 ≤ acc → acc < 256 ^ n → 0 ≤ l.foldl (fun n b => n * 256 + b) acc ∧ l.foldl (fun n b => n * 256 + b) acc < 256 ^ (n + l.length) := by
  induction l with
  | nil => intro acc n _ h0 h1; exact ⟨h0, h1⟩
  | cons x l ih =>
    intro acc n h h0 h1
    have hx := h x (by simp)
    have := ih (acc * 256 + x) (n + 1) (fun y hy => h y (List.mem_cons_of_mem _ hy)) (by omega) (by rw [Int.pow_succ]; omega)
    rw [List.foldl_cons, List.length_cons]
    rw [show n + 1 + l.length = n + (l.length + 1) by omega] at this
    exact this

theorem be_le (l : List Int) (h : Bytes l) : 0 ≤ be l ∧ be l < 256 ^ l.length := by
  have := be_le_from l 0 0 h (by omega) (by simp)
  rwa [Nat.zero_add] at this

/-- The next byte behind a number. -/
theorem or_byte (v x : Int) (h0 : 0 ≤ v) (h1 : v < 16777216) (x0 : 0 ≤ x) (x1 : x ≤ 255) : bits .or .u32 (v * 256) x = v * 256 + x := by
  rw [u32_or _ _ (by omega) (by omega) x0 (by omega)]
  obtain ⟨v, rfl⟩ := Int.eq_ofNat_of_zero_le h0
  obtain ⟨x, rfl⟩ := Int.eq_ofNat_of_zero_le x0
  rw [show ((v : Int) * 256).toNat = v <<< 8 by rw [Nat.shiftLeft_eq]; omega, Int.toNat_natCast, ← Nat.shiftLeft_add_eq_or_of_lt (by omega), Nat.shiftLeft_eq]
  omega

/-- What asking a Reader for a number leaves. -/
def RetNum (w : World) (B b : Nat) (v : Value) (zs : List Int) (a : Int) (bad : Bool) (e : Ending) (w' : World) : Prop :=
  e = .returned v ∧ Rd w' B b zs a bad ∧ w.grownBy w' (some b)

set_option maxHeartbeats 400000 in
theorem number_ok (B b m : Nat) (zs : List Int) (a : Int) (bad : Bool) (w : World) (h : Rd w B b zs a bad) (hB : Bytes zs) (hm : m ≤ zs.length) (hm4 : m ≤ 4) (hl : zs.length ≤ 140737488351232) (ha0 : 0 ≤ a) (ha1 : a ≤ 1000000000000000) :
    Calls Try.prog 174 #[.pointer (some ⟨b, 0, none⟩), .int .i64 m] w (RetNum w B b (.int .u32 (be (zs.take m))) (zs.drop m) (a + m) bad) := by
  go_enter Try.func174, Try.ntmps174
  go_wp2_with fail
  refine (next_ok B b m zs a bad w h hm hl ha0 ha1).mono ?_
  rintro e w1 ⟨A, n, c, rfl, hrow, hblk, hrd, hg⟩
  have Hn : Hid (n = m) := by have := hrow.len; rw [List.length_take] at this; exact (by omega : n = m)
  have hn4 : n ≤ 4 := by have := Hn.out; omega
  have HB : Hid (Bytes (zs.take m)) := fun x hx => hB x (List.mem_of_mem_take hx)
  clear hm hl hB hblk h
  generalize hys : zs.take m = ys at *
  have Hys := Lib.hid hys
  clear hys
  have Hlen := Lib.hid hrow.len
  go_wp2
  go_loop [5, 12] (fun v i => ∃ k : Nat, k ≤ n ∧ i = .int .i64 k ∧ v = .int .u32 (be (ys.take k))) (fun _ i => n - (intOf i).toNat)
  case atStart => exact ⟨0, Nat.zero_le _, rfl, rfl⟩
  case round =>
    obtain ⟨k, hk, rfl, rfl⟩ := hrel
    by_cases hlt : k < n
    · obtain ⟨x, ex⟩ := get_some (zs := ys) (k := k) (by have := Hlen.out; omega)
      obtain ⟨g, off, rfl, hg', hc⟩ := hrow.at (cellsOf_get (k := .u8) ex)
      have hx := HB.out x (List.mem_of_getElem? ex)
      obtain ⟨x0, x1⟩ := hx
      have HS : Hid (be (ys.take (k + 1)) = be (ys.take k) * 256 + x) := by rw [List.take_add_one, ex]; exact be_snoc _ _
      have hb := be_le (ys.take k) (fun y hy => HB.out y (List.mem_of_mem_take hy))
      have hv1 : be (ys.take k) < 16777216 := by
        refine Int.lt_of_lt_of_le hb.2 ?_
        have : (ys.take k).length ≤ 3 := by rw [List.length_take]; omega
        rcases h3 : (ys.take k).length with _ | _ | _ | _ | q <;> simp_all <;> omega
      have hv0 := hb.1
      clear ex hb
      have HO : Hid (bits .or .u32 (be (ys.take k) * 256) x = be (ys.take (k + 1))) := by rw [HS.out]; exact or_byte _ _ hv0 hv1 x0 x1
      go_wp2
      go_round
      case rel => exact ⟨k + 1, by omega, by go_num, by rw [HO.out]⟩
      case measure => simp [intOf]; omega
    · have HE : Hid (ys.take k = ys) := List.take_of_length_le (by have := Hlen.out; omega)
      go_wp2
      go_ret
      refine ⟨?_, hrd, hg⟩
      rw [HE.out]
      rfl

set_option maxHeartbeats 400000 in
theorem number_bad (B b : Nat) (m : Int) (zs : List Int) (a : Int) (bad : Bool) (w : World) (h : Rd w B b zs a bad) (hm : m < 0 ∨ (zs.length : Int) < m) :
    Calls Try.prog 174 #[.pointer (some ⟨b, 0, none⟩), .int .i64 m] w (RetNum w B b (.int .u32 0) [] a true) := by
  go_enter Try.func174, Try.ntmps174
  go_wp2_with fail
  refine (next_bad B b m zs a bad w h hm).mono ?_
  rintro e w1 ⟨A, n, c, rfl, hrow, hblk, hrd, hg⟩
  have hn : n = 0 := hrow.1.symm
  subst hn
  clear hblk h hrow hm
  go_wp2
  refine wp_loop_rounds 1 ?_
  rw [rounds_succ]
  go_wp2
  go_ret
  exact ⟨rfl, hrd, hg⟩

end Go.Proofs.Ytdaeffnaoeblpaa

/- A Reader's calls, each by one contract for every state: asked for m bytes it tells them, or it is bad from then on. -/
namespace Go.Proofs.Ytdaeffnaoeblpaa
open Go.RowKit
set_option linter.unusedVariables false

/-- What is told of m bytes that are asked for; what is left behind them; how many were gone through; whether it is bad. -/
def told (zs : List Int) (m : Nat) : List Int := if m ≤ zs.length then zs.take m else []
def rest (zs : List Int) (m : Nat) : List Int := if m ≤ zs.length then zs.drop m else []
def gone (zs : List Int) (a : Int) (m : Nat) : Int := if m ≤ zs.length then a + m else a
def badn (zs : List Int) (bad : Bool) (m : Nat) : Bool := if m ≤ zs.length then bad else true
def num (zs : List Int) (m : Nat) : Int := be (told zs m)
def sgn (n : Int) : Int := if 32767 < n then n - 65536 else n

theorem told_len (zs : List Int) (m : Nat) : (told zs m).length ≤ m := by unfold told; split <;> simp; omega
theorem told_bytes {zs : List Int} (h : Bytes zs) (m : Nat) : Bytes (told zs m) := by
  unfold told
  split
  · exact fun x hx => h x (List.mem_of_mem_take hx)
  · intro x hx; cases hx
theorem rest_bytes {zs : List Int} (h : Bytes zs) (m : Nat) : Bytes (rest zs m) := by
  unfold rest
  split
  · exact fun x hx => h x (List.mem_of_mem_drop hx)
  · intro x hx; cases hx
theorem rest_len (zs : List Int) (m : Nat) : (rest zs m).length ≤ zs.length := by unfold rest; split <;> simp
theorem num_lt {zs : List Int} (h : Bytes zs) (m k : Nat) (hk : m ≤ k) : 0 ≤ num zs m ∧ num zs m < 256 ^ k := by
  have h1 := be_le (told zs m) (told_bytes h m)
  have h2 : (256 : Int) ^ (told zs m).length ≤ 256 ^ k := by
    have : 256 ^ (told zs m).length ≤ 256 ^ k := Nat.pow_le_pow_right (by omega) (Nat.le_trans (told_len zs m) hk)
    rw [show (256 : Int) = ((256 : Nat) : Int) from rfl, ← Int.natCast_pow, ← Int.natCast_pow]
    exact Int.ofNat_le.2 this
  exact ⟨h1.1, Int.lt_of_lt_of_le h1.2 h2⟩

section
variable (B b : Nat) (zs : List Int) (a : Int) (bad : Bool) (w : World) (h : Rd w B b zs a bad) (hB : Bytes zs) (hl : zs.length ≤ 140737488351232) (ha0 : 0 ≤ a) (ha1 : a ≤ 1000000000000000)
include h hB hl ha0 ha1

theorem number_any (m : Nat) (hm4 : m ≤ 4) :
    Calls Try.prog 174 #[.pointer (some ⟨b, 0, none⟩), .int .i64 m] w (RetNum w B b (.int .u32 (num zs m)) (rest zs m) (gone zs a m) (badn zs bad m)) := by
  by_cases hm : m ≤ zs.length
  · have := number_ok B b m zs a bad w h hB hm hm4 hl ha0 ha1
    simpa only [num, told, rest, gone, badn, if_pos hm] using this
  · have := number_bad B b m zs a bad w h (.inr (by omega))
    simpa only [num, told, rest, gone, badn, if_neg hm, show be [] = 0 from rfl] using this

omit hB in
theorem take_any (m : Nat) : Calls Try.prog 138 #[.pointer (some ⟨b, 0, none⟩), .int .i64 m] w (RetNext w B b (told zs m) (rest zs m) (gone zs a m) (badn zs bad m)) := by
  have hn : Calls Try.prog 175 #[.pointer (some ⟨b, 0, none⟩), .int .i64 m] w (RetNext w B b (told zs m) (rest zs m) (gone zs a m) (badn zs bad m)) := by
    by_cases hm : m ≤ zs.length
    · have := next_ok B b m zs a bad w h hm hl ha0 ha1
      simpa only [told, rest, gone, badn, if_pos hm] using this
    · have := next_bad B b m zs a bad w h (.inr (by omega))
      simpa only [told, rest, gone, badn, if_neg hm] using this
  have H := Lib.hid hn
  clear hn h hl ha0 ha1
  go_enter Try.func138, Try.ntmps138
  go_wp2_with fail
  refine H.out.mono ?_
  rintro e w1 ⟨A, n, c, rfl, hr⟩
  go_wp2
  go_ret
  exact ⟨A, n, c, rfl, hr⟩

theorem u8_any : Calls Try.prog 188 #[.pointer (some ⟨b, 0, none⟩)] w (RetNum w B b (.int .u8 (num zs 1)) (rest zs 1) (gone zs a 1) (badn zs bad 1)) := by
  have H := Lib.hid (number_any B b zs a bad w h hB hl ha0 ha1 1 (by omega))
  obtain ⟨n0, n1⟩ := num_lt hB 1 1 (by omega)
  clear h hB hl ha0 ha1
  simp only [Int.pow_succ, Int.pow_zero, Int.one_mul] at n1
  go_enter Try.func188, Try.ntmps188
  go_wp2_with fail
  refine H.out.mono ?_
  rintro e w1 ⟨rfl, hr⟩
  go_wp2
  go_ret
  exact ⟨rfl, hr⟩

theorem u16_any : Calls Try.prog 137 #[.pointer (some ⟨b, 0, none⟩)] w (RetNum w B b (.int .u16 (num zs 2)) (rest zs 2) (gone zs a 2) (badn zs bad 2)) := by
  have H := Lib.hid (number_any B b zs a bad w h hB hl ha0 ha1 2 (by omega))
  obtain ⟨n0, n1⟩ := num_lt hB 2 2 (by omega)
  clear h hB hl ha0 ha1
  simp only [Int.pow_succ, Int.pow_zero, Int.one_mul, Int.reduceMul] at n1
  go_enter Try.func137, Try.ntmps137
  go_wp2_with fail
  refine H.out.mono ?_
  rintro e w1 ⟨rfl, hr⟩
  go_wp2
  go_ret
  exact ⟨rfl, hr⟩

theorem u32_any : Calls Try.prog 136 #[.pointer (some ⟨b, 0, none⟩)] w (RetNum w B b (.int .u32 (num zs 4)) (rest zs 4) (gone zs a 4) (badn zs bad 4)) := by
  have H := Lib.hid (number_any B b zs a bad w h hB hl ha0 ha1 4 (by omega))
  clear h hB hl ha0 ha1
  go_enter Try.func136, Try.ntmps136
  go_wp2_with fail
  refine H.out.mono ?_
  rintro e w1 ⟨rfl, hr⟩
  go_wp2
  go_ret
  exact ⟨rfl, hr⟩

theorem i16_any : Calls Try.prog 154 #[.pointer (some ⟨b, 0, none⟩)] w (RetNum w B b (.int .i16 (sgn (num zs 2))) (rest zs 2) (gone zs a 2) (badn zs bad 2)) := by
  have H := Lib.hid (u16_any B b zs a bad w h hB hl ha0 ha1)
  obtain ⟨n0, n1⟩ := num_lt hB 2 2 (by omega)
  clear h hB hl ha0 ha1
  simp only [Int.pow_succ, Int.pow_zero, Int.one_mul, Int.reduceMul] at n1
  have HS : Hid (IntKind.i16.wrap (num zs 2) = sgn (num zs 2)) := by
    show _ = _
    unfold sgn
    simp only [IntKind.wrap, IntKind.signed, IntKind.bits, Bool.true_and, ge_iff_le, decide_eq_true_eq, Int.reducePow, Nat.reduceSub]
    split <;> split <;> omega
  go_enter Try.func154, Try.ntmps154
  go_wp2_with fail
  refine H.out.mono ?_
  rintro e w1 ⟨rfl, hr⟩
  go_wp2
  go_ret
  rw [HS.out]
  exact ⟨rfl, hr⟩

omit hB ha0 ha1 hl in
theorem left_any : Calls Try.prog 144 #[.pointer (some ⟨b, 0, none⟩)] w fun e w' => e = .returned (.int .i64 zs.length) ∧ w = w' := by
  obtain ⟨A, n, c, hb, h1, h2, h3, h4⟩ := h
  have Hn := Lib.hid h2.len
  have c0 : w.cell? ⟨b, 0, none⟩ = some (.slice A n c) := cell_of_row w b 0 _ 235 (0, 0) hb
  clear h2 h3 h4 hb
  go_enter Try.func144, Try.ntmps144
  go_wp2
  go_ret
  rw [Hn.out]
  exact ⟨rfl, rfl⟩

omit hB ha0 ha1 hl in
theorem at_any : Calls Try.prog 156 #[.pointer (some ⟨b, 0, none⟩)] w fun e w' => e = .returned (.int .i64 a) ∧ w = w' := by
  obtain ⟨A, n, c, hb, h1, h2, h3, h4⟩ := h
  have c0 : w.cell? ⟨b, 1, none⟩ = some (.int .i64 a) := cell_of_row w b 1 _ 235 (0, 0) hb
  clear h2 h3 h4 hb
  go_enter Try.func156, Try.ntmps156
  go_wp2
  go_ret
  exact ⟨rfl, rfl⟩

omit hB ha0 ha1 hl in
theorem bad_any : Calls Try.prog 139 #[.pointer (some ⟨b, 0, none⟩)] w fun e w' => e = .returned (.bool bad) ∧ w = w' := by
  obtain ⟨A, n, c, hb, h1, h2, h3, h4⟩ := h
  have c0 : w.cell? ⟨b, 2, none⟩ = some (.bool bad) := cell_of_row w b 2 _ 235 (0, 0) hb
  clear h2 h3 h4 hb
  go_enter Try.func139, Try.ntmps139
  go_wp2
  go_ret
  exact ⟨rfl, rfl⟩

end

end Go.Proofs.Ytdaeffnaoeblpaa

/- A Reader beside two structs in blocks of their own: what asking it, and storing into one of them, leaves. -/
namespace Go.Proofs.Ytdaeffnaoeblpaa
open Go.RowKit
set_option linter.unusedVariables false

/-- The number of two bytes, of four, from a place on. -/
def n2at (zs : List Int) (i : Nat) : Int := num (zs.drop i) 2
def n4at (zs : List Int) (i : Nat) : Int := num (zs.drop i) 4

theorem rest_at (zs : List Int) (i m : Nat) (h : i + m ≤ zs.length) : rest (zs.drop i) m = zs.drop (i + m) := by
  unfold rest
  rw [if_pos (by rw [List.length_drop]; omega), List.drop_drop]
theorem gone_at (zs : List Int) (a : Int) (i m : Nat) (h : i + m ≤ zs.length) : gone (zs.drop i) a m = a + m := by
  unfold gone
  rw [if_pos (by rw [List.length_drop]; omega)]
theorem badn_at (zs : List Int) (bad : Bool) (i m : Nat) (h : i + m ≤ zs.length) : badn (zs.drop i) bad m = bad := by
  unfold badn
  rw [if_pos (by rw [List.length_drop]; omega)]
theorem drop_bytes {zs : List Int} (h : Bytes zs) (i : Nat) : Bytes (zs.drop i) := fun x hx => h x (List.mem_of_mem_drop hx)

/-- A Reader in block b of which i bytes of zs are gone through, and two structs that are younger than w. -/
structure RS (w wr : World) (B b : Nat) (zs : List Int) (i b1 : Nat) (c1 : Array Value) (b2 : Nat) (c2 : Array Value) (t : TypeId) : Prop where
  rd : Rd wr B b (zs.drop i) i false
  gr : w.grownBy wr (some b)
  k1 : wr.heap[b1]? = some (.cells c1 t (0, 0))
  k2 : wr.heap[b2]? = some (.cells c2 t (0, 0))
  lt : b < w.heap.size
  l1 : w.heap.size ≤ b1
  l2 : w.heap.size ≤ b2
  ne : b1 ≠ b2
  n8 : t ≠ 5

section
variable {w wr w' : World} {B b : Nat} {zs : List Int} {i b1 b2 : Nat} {c1 c2 : Array Value} {t : TypeId}
theorem RS.ask (h : RS w wr B b zs i b1 c1 b2 c2 t) {m : Nat} (hm : i + m ≤ zs.length) (hr : Rd w' B b (rest (zs.drop i) m) (gone (zs.drop i) i m) (badn (zs.drop i) false m)) (hg : wr.grownBy w' (some b)) : RS w w' B b zs (i + m) b1 c1 b2 c2 t := by
  rw [rest_at zs i m hm, gone_at zs i i m hm, badn_at zs false i m hm] at hr
  have h1 := h.l1
  have h2 := h.l2
  have h3 := h.lt
  refine ⟨by simpa using hr, grown_trans h.gr hg, ?_, ?_, h.lt, h.l1, h.l2, h.ne, h.n8⟩
  · rw [hg.block b1 (lt_of_block h.k1) (by intro e; cases e; omega)]; exact h.k1
  · rw [hg.block b2 (lt_of_block h.k2) (by intro e; cases e; omega)]; exact h.k2
theorem RS.set2 (h : RS w wr B b zs i b1 c1 b2 c2 t) (j : Nat) (v : Value) : RS w (wr.setCell ⟨b2, j, none⟩ v) B b zs i b1 c1 b2 (c2.setIfInBounds j v) t := by
  have h2 := h.l2
  have h3 := h.lt
  refine ⟨h.rd.keep (by simp [World.setCell]) (fun g hg _ ho => Below.heap_setCell wr _ v g (by
      rintro rfl
      rcases ho with e | ⟨cur, hc⟩
      · omega
      · have := h.k2
        rw [hc] at this
        simp at this
        exact h.n8 this.2.symm)), ?_, ?_, set_block h.k2 j v, h.lt, h.l1, h.l2, h.ne, h.n8⟩
  · refine ⟨h.gr.os, h.gr.tape, h.gr.output, by simpa [World.setCell] using h.gr.size, fun k hk hne => (Below.heap_setCell wr _ v k (by rintro rfl; omega)).trans (h.gr.block k hk hne)⟩
  · rw [Below.heap_setCell wr _ v b1 h.ne]; exact h.k1
theorem RS.cell1 (h : RS w wr B b zs i b1 c1 b2 c2 t) (j : Nat) (v : Value) (hj : c1[j]? = some v) : wr.cell? ⟨b1, j, none⟩ = some v := (cell_of_row wr _ j _ _ _ h.k1).trans hj
theorem RS.cell2 (h : RS w wr B b zs i b1 c1 b2 c2 t) (j : Nat) (v : Value) (hj : c2[j]? = some v) : wr.cell? ⟨b2, j, none⟩ = some v := (cell_of_row wr _ j _ _ _ h.k2).trans hj
theorem RS.thaw1 (h : RS w wr B b zs i b1 c1 b2 c2 t) (o : Nat) : wr.frozen? ⟨b1, o, none⟩ = false := by simp [World.frozen?, h.k1]
theorem RS.thaw2 (h : RS w wr B b zs i b1 c1 b2 c2 t) (o : Nat) : wr.frozen? ⟨b2, o, none⟩ = false := by simp [World.frozen?, h.k2]
end

/-- A store into what is younger. -/
theorem grown_new {w wr : World} {row : Option Nat} {g : Nat} (hg : w.heap.size ≤ g) (j : Nat) (v : Value) (h : w.grownBy wr row) : w.grownBy (wr.setCell ⟨g, j, none⟩ v) row :=
  ⟨h.os, h.tape, h.output, by simpa [World.setCell] using h.size, fun k hk hne => (Below.heap_setCell wr _ v k (by rintro rfl; omega)).trans (h.block k hk hne)⟩

theorem below_set {w0 w : World} {B g : Nat} (hg : B ≤ g) (j : Nat) (v : Value) (h : Below B w0 w) : Below B w0 (w.setCell ⟨g, j, none⟩ v) := h.setCell (p := ⟨g, j, none⟩) hg v

/-- Two structs made one behind the other, beside a Reader. -/
theorem rs_new (w : World) (c1 c2 : Array Value) (t : TypeId) (B b : Nat) (zs : List Int) (h : Rd w B b zs 0 false) (h8 : t ≠ 5) :
    RS w ((w.alloc (.cells c1 t)).alloc (.cells c2 t)) B b zs 0 w.heap.size c1 (w.heap.size + 1) c2 t := by
  have hA : Below w.heap.size w ((w.alloc (.cells c1 t)).alloc (.cells c2 t)) := ((Below.refl _ _).alloc (Nat.le_refl _) _).alloc (by simp) _
  refine ⟨by simpa using h.below hA, grown_of_below hA _, ?_, ?_, h.lt, Nat.le_refl _, by omega, by omega, h8⟩
  · rw [Below.heap_alloc _ _ _ (by simp)]
    exact heap_alloc_new w _
  · have := heap_alloc_new (w.alloc (.cells c1 t)) (.cells c2 t)
    simpa using this

end Go.Proofs.Ytdaeffnaoeblpaa

/- The laws of layer 1: each returns true and turns nothing that was there. -/
namespace Go.Proofs.Ytdaeffnaoeblpaa
open Go.RowKit
set_option linter.unusedVariables false

/-- What a law leaves. -/
abbrev True_ (w : World) (e : Ending) (w' : World) : Prop := e = .returned (.bool true) ∧ Below w.heap.size w w'

/-- Numbers written out in a block of their own. -/
theorem row_lit (w : World) (k : IntKind) (t : TypeId) (zs : List Int) (n : Nat) (hn : zs.length = n) : Row (w.alloc (.cells (cellsOf k zs).toArray t)) (some ⟨w.heap.size, 0, none⟩) n (cellsOf k zs) :=
  ⟨by rw [cellsOf_length]; exact hn, fun _ => ⟨w.heap.size, 0, rfl, by simp, fun j u hu => by
    rw [Nat.zero_add, cell_of_row _ _ j _ t (0, 0) (heap_alloc_new w _)]
    simpa using hu⟩⟩

theorem drop_cons {zs : List Int} {k : Nat} {x : Int} (h : zs[k]? = some x) : zs.drop k = x :: zs.drop (k + 1) := by
  obtain ⟨hk, rfl⟩ := List.getElem?_eq_some_iff.1 h
  exact List.drop_eq_getElem_cons hk

theorem ask_one {zs : List Int} {k : Nat} {x : Int} (h : zs[k]? = some x) : num (zs.drop k) 1 = x ∧ rest (zs.drop k) 1 = zs.drop (k + 1) ∧ gone (zs.drop k) k 1 = ((k + 1 : Nat) : Int) ∧ badn (zs.drop k) false 1 = false := by
  rw [drop_cons h]
  refine ⟨?_, ?_, ?_, ?_⟩ <;> simp [num, told, rest, gone, badn, be]

theorem cut_bytes {zs : List Int} (h : Bytes zs) (m : Nat) : Bytes (zs.take m) := fun x hx => h x (List.mem_of_mem_take hx)

end Go.Proofs.Ytdaeffnaoeblpaa

/- What a Writer's calls answer, as contracts over this seat's translation. -/
namespace Go.Proofs.Ytdaeffnaoeblpaa
open Go.RowKit
set_option linter.unusedVariables false

/-- Of what was there only blocks of S have turned. -/
structure Turned (w w' : World) (S : Nat → Prop) : Prop where
  os : w'.os = w.os
  tape : w'.tape = w.tape
  output : w'.output = w.output
  size : w.heap.size ≤ w'.heap.size
  block : ∀ k, k < w.heap.size → ¬ S k → w'.heap[k]? = w.heap[k]?

theorem Turned.below {w0 w w' : World} {S : Nat → Prop} {B : Nat} (h : Turned w w' S) (hb : Below B w0 w) (hB : B ≤ w.heap.size) (hS : ∀ k, S k → B ≤ k) : Below B w0 w' :=
  hb.trans ⟨h.os, h.tape, h.output, h.size, fun k hk => h.block k (by omega) (fun hs => by have := hS k hs; omega)⟩

theorem Row.turned {w w' : World} {A : Option Addr} {n : Nat} {xs : List Value} {S : Nat → Prop} (h : Row w A n xs) (ht : Turned w w' S) (hA : ∀ g, blockOf A = some g → ¬ S g) : Row w' A n xs :=
  h.keep ht.size fun g e hg => ht.block g hg (hA g e)

/-- A Writer in block b that has the bytes zs; it and they lie from block B on. -/
def Wr (w : World) (B b : Nat) (zs : List Int) : Prop := ∃ A n c, w.heap[b]? = some (.cells #[.slice A n c] 114 (0, 0)) ∧ B ≤ b ∧ OwnB w B A n c zs

/-- The block of a Writer's bytes. -/
def WrOwns (w : World) (b k : Nat) : Prop := ∃ A n c, w.heap[b]? = some (.cells #[.slice A n c] 114 (0, 0)) ∧ blockOf A = some k

/-- What a Writer's call may turn. -/
def WrS (w : World) (b : Nat) (k : Nat) : Prop := k = b ∨ WrOwns w b k

section
variable {w w' : World} {B b : Nat} {zs : List Int}

theorem Wr.from_ (h : Wr w B b zs) : B ≤ b ∧ b < w.heap.size := by
  obtain ⟨A, n, c, hb, h1, _⟩ := h
  exact ⟨h1, lt_of_block hb⟩

theorem Wr.owns (h : Wr w B b zs) : ∀ k, WrS w b k → B ≤ k ∧ k < w.heap.size := by
  obtain ⟨A, n, c, hb, h1, h2⟩ := h
  rintro k (rfl | ⟨A', n', c', hb', hk⟩)
  · exact ⟨h1, lt_of_block hb⟩
  · rw [hb] at hb'
    simp at hb'
    obtain ⟨rfl, rfl, rfl⟩ := hb'
    exact h2.from_ k hk

theorem Wr.keep (h : Wr w B b zs) (hk : ∀ k, WrS w b k → w'.heap[k]? = w.heap[k]?) : Wr w' B b zs := by
  obtain ⟨A, n, c, hb, h1, h2⟩ := h
  exact ⟨A, n, c, by rw [hk b (.inl rfl)]; exact hb, h1, h2.keep fun g e => hk g (.inr ⟨A, n, c, hb, e⟩)⟩

theorem Wr.below (h : Wr w B b zs) (hb : Below w.heap.size w w') : Wr w' B b zs := h.keep fun k hk => hb.block k (h.owns k hk).2

theorem Wr.drewN (h : Wr w B b zs) (q : Nat) : Wr (w.drewN q) B b zs := h

theorem Wr.mono {B' : Nat} (h : Wr w B b zs) (hB : B' ≤ B) : Wr w B' b zs := by
  obtain ⟨A, n, c, hb, h1, h2⟩ := h
  exact ⟨A, n, c, hb, by omega, h2.mono hB⟩
end

/-- What a Writer's call leaves. -/
def RetWr (w : World) (B b : Nat) (zs : List Int) (e : Ending) (w' : World) : Prop := e = .returned (.pointer (some ⟨b, 0, none⟩)) ∧ Wr w' B b zs ∧ Turned w w' (WrS w b)

theorem u8_ne_wr {w : World} {g b : Nat} {cur cs : Array Value} (h1 : w.heap[g]? = some (.cells cur 5 (0, 0))) (h2 : w.heap[b]? = some (.cells cs 114 (0, 0))) : g ≠ b := by
  rintro rfl
  rw [h1] at h2
  simp at h2

set_option maxHeartbeats 400000 in
theorem add_any (B b : Nat) (zs : List Int) (A' : Option Addr) (n' c' : Nat) (ys : List Int) (w : World) (h : Wr w B b zs) (hr : Row w A' n' (cellsOf .u8 ys)) (hl : zs.length + n' ≤ 140737488355328) :
    Calls Try.prog 113 #[.pointer (some ⟨b, 0, none⟩), .slice A' n' c'] w (RetWr w B b (zs ++ ys)) := by
  obtain ⟨i0, hi, hz0, hz1, hz2⟩ := info_parts Try.u8info
  obtain ⟨A, n, c, hb, h1, h2⟩ := h
  have hlt : b < w.heap.size := lt_of_block hb
  have hBw : B ≤ w.heap.size := by omega
  have hn : n + n' ≤ 140737488355328 := by have := h2.len; omega
  have hne : ∀ g, blockOf A = some g → some b ≠ blockOf A := fun g e => by
    rcases h2.shape with ⟨rfl, _⟩ | ⟨g', cur, rfl, _, _, hh, _⟩
    · simp [blockOf]
    · simp only [blockOf, Option.map_some]
      intro he
      cases he
      exact u8_ne_wr hh hb rfl
  have hne' : some b ≠ blockOf A := by
    cases hA : blockOf A with
    | none => simp
    | some g => rw [← hA]; exact hne g hA
  have c0 : w.cell? ⟨b, 0, none⟩ = some (.slice A n c) := cell_of_row w b 0 _ 114 (0, 0) hb
  have Hb := Lib.hid hb
  have Hne := Lib.hid hne'
  clear hb hne hne'
  go_enter Try.func113, Try.ntmps113
  go_wp2_with (at_builtin; refine wpList_append_row rfl (.tmp 11) (.tmp 12) _ rfl 5 .u8 B i0 1 Try.underlying42 hi hz0 hz1 hz2 A n c zs rfl h2 A' n' c' ys rfl hr (by omega) (by omega) hBw ?_)
  intro A2 c2 w1 hown1 hg1
  have hb1 : w1.heap[b]? = some (.cells #[.slice A n c] 114 (0, 0)) := by rw [hg1.block b hlt Hne.out]; exact Hb.out
  have c1 : w1.cell? ⟨b, 0, none⟩ = some (.slice A n c) := cell_of_row w1 b 0 _ 114 (0, 0) hb1
  have f1 : w1.frozen? ⟨b, 0, none⟩ = false := by simp [World.frozen?, hb1]
  have hb2 := Lib.hid (set_block hb1 0 (.slice A2 (n + n') c2))
  have hown2 : Hid (OwnB (w1.setCell ⟨b, 0, none⟩ (.slice A2 (n + n') c2)) B A2 (n + n') c2 (zs ++ ys)) := hown1.keep fun g e => Below.heap_setCell _ _ _ _ (by
    rcases hown1.shape with ⟨rfl, _⟩ | ⟨g', cur, rfl, _, _, hh, _⟩
    · simp [blockOf] at e
    · simp [blockOf] at e
      subst e
      exact u8_ne_wr hh hb1)
  have ht : Hid (Turned w (w1.setCell ⟨b, 0, none⟩ (.slice A2 (n + n') c2)) (WrS w b)) := ⟨hg1.os, hg1.tape, hg1.output, by simpa [World.setCell] using hg1.size, fun k hk hs =>
    (Below.heap_setCell w1 _ _ k (fun e => hs (.inl e))).trans (hg1.block k hk (fun e => hs (.inr ⟨A, n, c, Hb.out, e.symm⟩)))⟩
  clear hb1 hown1 hg1 c0
  go_wp2
  go_ret
  exact ⟨rfl, ⟨A2, n + n', c2, hb2.out, h1, hown2.out⟩, ht.out⟩

theorem wput_any (B b : Nat) (zs : List Int) (A' : Option Addr) (n' c' : Nat) (ys : List Int) (w : World) (h : Wr w B b zs) (hr : Row w A' n' (cellsOf .u8 ys)) (hl : zs.length + n' ≤ 140737488355328) :
    Calls Try.prog 59 #[.pointer (some ⟨b, 0, none⟩), .slice A' n' c'] w (RetWr w B b (zs ++ ys)) := by
  go_enter Try.func59, Try.ntmps59
  go_wp2_with fail
  refine (add_any B b zs A' n' c' ys w h hr hl).mono ?_
  rintro e w1 ⟨rfl, h1⟩
  go_wp2
  go_ret
  exact ⟨rfl, h1⟩

/-- A Writer's call behind a new block. -/
theorem RetWr.alloc {w w' : World} {B b : Nat} {zs : List Int} {o : Obj} {e : Ending} (h0 : Wr w B b zs) {ys : List Int} (h : RetWr (w.alloc o) B b ys e w') : RetWr w B b ys e w' := by
  obtain ⟨rfl, h1, h2⟩ := h
  have hal : ∀ k, k < w.heap.size → (w.alloc o).heap[k]? = w.heap[k]? := fun k hk => Below.heap_alloc w o k hk
  refine ⟨rfl, h1, ⟨h2.os, h2.tape, h2.output, Nat.le_trans (by simp) h2.size, fun k hk hs => (h2.block k (by simp; omega) (fun hs' => hs ?_)).trans (hal k hk)⟩⟩
  rcases hs' with rfl | ⟨A, n, c, hb, e⟩
  · exact .inl rfl
  · exact .inr ⟨A, n, c, by rw [← hal b h0.from_.2]; exact hb, e⟩

theorem wu8_any (B b : Nat) (zs : List Int) (x : Int) (w : World) (h : Wr w B b zs) (hl : zs.length ≤ 140737488351232) :
    Calls Try.prog 114 #[.pointer (some ⟨b, 0, none⟩), .int .u8 x] w (RetWr w B b (zs ++ [x])) := by
  have ha := h.below ((Below.refl w.heap.size w).alloc (Nat.le_refl _) (.cells #[.int .u8 x] 5))
  go_enter Try.func114, Try.ntmps114
  go_wp2_with fail
  refine (add_any B b zs _ _ _ [x] _ ha (row_one _ _ _ _) (by omega)).mono ?_
  rintro e w1 hr
  obtain ⟨rfl, h1⟩ := RetWr.alloc h hr
  go_wp2
  go_ret
  exact ⟨rfl, h1⟩

theorem b2_small (x : Int) (x0 : 0 ≤ x) (x1 : x < 65536) : b2 x = [x / 256, x % 256] := by unfold b2; rw [show x / 256 % 256 = x / 256 by omega]

theorem wu16_any (B b : Nat) (zs : List Int) (x : Int) (w : World) (h : Wr w B b zs) (hl : zs.length ≤ 140737488351232) (x0 : 0 ≤ x) (x1 : x < 65536) :
    Calls Try.prog 55 #[.pointer (some ⟨b, 0, none⟩), .int .u16 x] w (RetWr w B b (zs ++ b2 x)) := by
  have ha := h.below ((Below.refl w.heap.size w).alloc (Nat.le_refl _) (.cells #[.int .u8 (x / 256), .int .u8 (x % 256)] 5))
  rw [b2_small x x0 x1]
  go_enter Try.func55, Try.ntmps55
  go_wp2_with fail
  refine (add_any B b zs _ _ _ [x / 256, x % 256] _ ha (row_lit w .u8 5 [x / 256, x % 256] 2 rfl) (by omega)).mono ?_
  rintro e w1 hr
  obtain ⟨rfl, h1⟩ := RetWr.alloc h hr
  go_wp2
  go_ret
  exact ⟨rfl, h1⟩

theorem wi16_any (B b : Nat) (zs : List Int) (x : Int) (w : World) (h : Wr w B b zs) (hl : zs.length ≤ 140737488351232) :
    Calls Try.prog 56 #[.pointer (some ⟨b, 0, none⟩), .int .i16 x] w (RetWr w B b (zs ++ b2 (x % 65536))) := by
  go_enter Try.func56, Try.ntmps56
  go_wp2_with fail
  refine (wu16_any B b zs (x % 65536) _ h hl (by omega) (by omega)).mono ?_
  rintro e w1 ⟨rfl, h1⟩
  go_wp2
  go_ret
  exact ⟨rfl, h1⟩

theorem b4_small (x : Int) (x0 : 0 ≤ x) (x1 : x < 4294967296) : b4 x = [x / 16777216, x / 65536 % 256, x / 256 % 256, x % 256] := by
  unfold b4 b2
  simp only [List.cons_append, List.nil_append]
  rw [show x / 65536 / 256 % 256 = x / 16777216 by omega, show x % 65536 / 256 % 256 = x / 256 % 256 by omega, show x % 65536 % 256 = x % 256 by omega]

theorem wu32_any (B b : Nat) (zs : List Int) (x : Int) (w : World) (h : Wr w B b zs) (hl : zs.length ≤ 140737488351232) (x0 : 0 ≤ x) (x1 : x < 4294967296) :
    Calls Try.prog 84 #[.pointer (some ⟨b, 0, none⟩), .int .u32 x] w (RetWr w B b (zs ++ b4 x)) := by
  have ha := h.below ((Below.refl w.heap.size w).alloc (Nat.le_refl _) (.cells #[.int .u8 (x / 16777216), .int .u8 (x / 65536 % 256), .int .u8 (x / 256 % 256), .int .u8 (x % 256)] 5))
  rw [b4_small x x0 x1]
  go_enter Try.func84, Try.ntmps84
  go_wp2_with fail
  refine (add_any B b zs _ _ _ [x / 16777216, x / 65536 % 256, x / 256 % 256, x % 256] _ ha (row_lit w .u8 5 [x / 16777216, x / 65536 % 256, x / 256 % 256, x % 256] 4 rfl) (by omega)).mono ?_
  rintro e w1 hr
  obtain ⟨rfl, h1⟩ := RetWr.alloc h hr
  go_wp2
  go_ret
  exact ⟨rfl, h1⟩

theorem done_any (B b : Nat) (zs : List Int) (w : World) (h : Wr w B b zs) (hl : zs.length ≤ 140737488351232) :
    Calls Try.prog 60 #[.pointer (some ⟨b, 0, none⟩)] w (RetB w zs) := by
  obtain ⟨A, n, c, hb, h1, h2⟩ := h
  have c0 : w.cell? ⟨b, 0, none⟩ = some (.slice A n c) := cell_of_row w b 0 _ 114 (0, 0) hb
  have hn : n ≤ 140737488351232 := by have := h2.len; omega
  clear hb hl
  go_enter Try.func60, Try.ntmps60
  go_wp2_with fail
  refine (clone_any _ _ _ _ _ h2.row hn).mono ?_
  rintro e w1 ⟨A1, n1, c1, rfl, hr⟩
  go_wp2
  go_ret
  exact ⟨A1, n1, c1, rfl, hr⟩

/-- What is older than a Writer stands as it was. -/
theorem Wr.older {w1 wa wb : World} {B0 B b : Nat} {zs : List Int} (h : Wr wa B b zs) (hk : Below B0 w1 wa) (hB : B0 ≤ B) (ht : Turned wa wb (WrS wa b)) : Below B0 w1 wb :=
  ht.below hk (by have := h.from_; omega) (fun k hs => by have := (h.owns k hs).1; omega)

/-- A new Writer. -/
theorem wr_new (w : World) : Wr (w.alloc (.cells #[.slice none 0 0] 114)) w.heap.size w.heap.size [] :=
  ⟨none, 0, 0, heap_alloc_new _ _, Nat.le_refl _, Own.nil _ _ _ _⟩

end Go.Proofs.Ytdaeffnaoeblpaa

/- The law WordWrites. -/
namespace Go.Proofs.Ytdaeffnaoeblpaa
open Go.RowKit
set_option linter.unusedVariables false

/-- Asked for as many bytes as a known beginning has. -/
theorem ask_front (l r : List Int) (a : Int) (bad : Bool) (m : Nat) (hm : l.length = m) : told (l ++ r) m = l ∧ rest (l ++ r) m = r ∧ gone (l ++ r) a m = a + m ∧ badn (l ++ r) bad m = bad := by
  subst hm
  have h : l.length ≤ (l ++ r).length := by simp
  refine ⟨?_, ?_, ?_, ?_⟩ <;> simp [told, rest, gone, badn]

theorem be_b2 (x : Int) (h0 : 0 ≤ x) (h1 : x < 65536) : be (b2 x) = x := by
  simp only [be, b2, List.foldl_cons, List.foldl_nil]
  omega
theorem be_b4 (x : Int) (h0 : 0 ≤ x) (h1 : x < 4294967296) : be (b4 x) = x := by
  simp only [be, b4, b2, List.cons_append, List.nil_append, List.foldl_cons, List.foldl_nil]
  omega
theorem b2_bytes (x : Int) : Bytes (b2 x) := by intro y hy; simp [b2] at hy; omega
theorem b4_bytes (x : Int) : Bytes (b4 x) := by intro y hy; simp [b4, b2] at hy; omega
theorem bytes_append {a b : List Int} (ha : Bytes a) (hb : Bytes b) : Bytes (a ++ b) := fun x hx => (List.mem_append.1 hx).elim (ha x) (hb x)

end Go.Proofs.Ytdaeffnaoeblpaa

/- Numbers at places of a list of bytes, and the bytes that they have: plain lists. -/
namespace Go.Proofs.Ytdaeffnaoeblpaa
set_option linter.unusedVariables false

theorem win_join (zs : List Int) (i m k : Nat) : (zs.drop i).take m ++ (zs.drop (i + m)).take k = (zs.drop i).take (m + k) := by
  rw [List.take_add, List.drop_drop]

theorem drop2 {zs : List Int} {i : Nat} (h : i + 2 ≤ zs.length) : ∃ x y, zs[i]? = some x ∧ zs[i + 1]? = some y ∧ (zs.drop i).take 2 = [x, y] ∧ n2at zs i = x * 256 + y := by
  refine ⟨zs[i], zs[i + 1], List.getElem?_eq_getElem (by omega), List.getElem?_eq_getElem (by omega), ?_, ?_⟩
  · rw [List.drop_eq_getElem_cons (by omega), List.drop_eq_getElem_cons (by omega)]
    rfl
  · unfold n2at num told
    rw [if_pos (by rw [List.length_drop]; omega), List.drop_eq_getElem_cons (by omega), List.drop_eq_getElem_cons (by omega)]
    show (0 * 256 + _) * 256 + _ = _
    omega

theorem b2_win {zs : List Int} (hB : Bytes zs) {i : Nat} (h : i + 2 ≤ zs.length) : b2 (n2at zs i) = (zs.drop i).take 2 := by
  obtain ⟨x, y, hx, hy, e, en⟩ := drop2 h
  have := hB x (List.mem_of_getElem? hx)
  have := hB y (List.mem_of_getElem? hy)
  rw [e, en]
  unfold b2
  rw [show (x * 256 + y) / 256 % 256 = x by omega, show (x * 256 + y) % 256 = y by omega]

theorem n2at_lt {zs : List Int} (hB : Bytes zs) (i : Nat) : 0 ≤ n2at zs i ∧ n2at zs i < 65536 := by
  have := num_lt (drop_bytes hB i) 2 2 (by omega)
  simp only [Int.pow_succ, Int.pow_zero, Int.one_mul, Int.reduceMul] at this
  exact this
theorem n4at_lt {zs : List Int} (hB : Bytes zs) (i : Nat) : 0 ≤ n4at zs i ∧ n4at zs i < 4294967296 := by
  have := num_lt (drop_bytes hB i) 4 4 (by omega)
  simp only [Int.pow_succ, Int.pow_zero, Int.one_mul, Int.reduceMul] at this
  exact this

theorem n4at_two {zs : List Int} {i : Nat} (h : i + 4 ≤ zs.length) : n4at zs i = n2at zs i * 65536 + n2at zs (i + 2) := by
  obtain ⟨x, y, hx, hy, e, en⟩ := drop2 (zs := zs) (i := i) (by omega)
  obtain ⟨x', y', hx', hy', e', en'⟩ := drop2 (zs := zs) (i := i + 2) (by omega)
  rw [en, en']
  unfold n4at num told
  rw [if_pos (by rw [List.length_drop]; omega), show 4 = 2 + 2 from rfl, ← win_join, e, e']
  simp only [be, List.cons_append, List.nil_append, List.foldl_cons, List.foldl_nil]
  omega

theorem b4_win {zs : List Int} (hB : Bytes zs) {i : Nat} (h : i + 4 ≤ zs.length) : b4 (n4at zs i) = (zs.drop i).take 4 := by
  have h1 := n2at_lt hB i
  have h2 := n2at_lt hB (i + 2)
  rw [n4at_two h]
  unfold b4
  rw [show (n2at zs i * 65536 + n2at zs (i + 2)) / 65536 = n2at zs i by omega, show (n2at zs i * 65536 + n2at zs (i + 2)) % 65536 = n2at zs (i + 2) by omega, b2_win hB (by omega), b2_win hB (by omega), win_join]

theorem n2at_of {zs : List Int} {i : Nat} {x : Int} (h : (zs.drop i).take 2 = b2 x) (h0 : 0 ≤ x) (h1 : x < 65536) : n2at zs i = x := by
  have hl := congrArg List.length h
  rw [List.length_take] at hl
  unfold n2at num told
  rw [if_pos (by rw [show (b2 x).length = 2 from rfl] at hl; omega), h]
  exact be_b2 x h0 h1
theorem n4at_of {zs : List Int} {i : Nat} {x : Int} (h : (zs.drop i).take 4 = b4 x) (h0 : 0 ≤ x) (h1 : x < 4294967296) : n4at zs i = x := by
  have hl := congrArg List.length h
  rw [List.length_take] at hl
  unfold n4at num told
  rw [if_pos (by rw [show (b4 x).length = 4 from rfl] at hl; omega), h]
  exact be_b4 x h0 h1

theorem n2v_at (zs : List Int) (i : Nat) : n2v zs i = n2at zs i := by
  by_cases h : i + 2 ≤ zs.length
  · obtain ⟨x, y, hx, hy, e, en⟩ := drop2 h
    unfold n2v
    rw [hx, hy, en]
    show 256 * x + y = _
    omega
  · unfold n2v n2at num told
    rw [if_neg (by rw [List.length_drop]; omega), List.getElem?_eq_none (show zs.length ≤ i + 1 by omega)]
    cases zs[i]? <;> rfl
theorem n4v_at (zs : List Int) (i : Nat) : n4v zs i = n4at zs i := by
  unfold n4v
  by_cases h : i + 4 ≤ zs.length
  · rw [if_pos h, n2v_at, n2v_at, n4at_two h]
    omega
  · rw [if_neg h]
    unfold n4at num told
    rw [if_neg (by rw [List.length_drop]; omega)]
    rfl

end Go.Proofs.Ytdaeffnaoeblpaa

/- simple: outlines of points: plain lists. -/
namespace Go.Proofs.Ytdaeffnaoeblpaa
open Go.RowKit
set_option linter.unusedVariables false

/-- A bit of a byte. -/
def fb (f k : Int) : Bool := decide (f / k % 2 = 1)

theorem fin_of {P : Int → Prop} (h : ∀ n : Fin 256, P (n.val : Int)) {f : Int} (h0 : 0 ≤ f) (h1 : f ≤ 255) : P f := by
  have := h ⟨f.toNat, by omega⟩
  simp only at this
  rwa [show ((f.toNat : Nat) : Int) = f by omega] at this

theorem and1 {f : Int} (h0 : 0 ≤ f) (h1 : f ≤ 255) : (bits .and .u8 f 1 != 0) = fb f 1 := fin_of (P := fun f => (bits .and .u8 f 1 != 0) = fb f 1) (by decide +kernel) h0 h1
theorem and2 {f : Int} (h0 : 0 ≤ f) (h1 : f ≤ 255) : (bits .and .u8 f 2 != 0) = fb f 2 := fin_of (P := fun f => (bits .and .u8 f 2 != 0) = fb f 2) (by decide +kernel) h0 h1
theorem and4 {f : Int} (h0 : 0 ≤ f) (h1 : f ≤ 255) : (bits .and .u8 f 4 != 0) = fb f 4 := fin_of (P := fun f => (bits .and .u8 f 4 != 0) = fb f 4) (by decide +kernel) h0 h1
theorem and8 {f : Int} (h0 : 0 ≤ f) (h1 : f ≤ 255) : (bits .and .u8 f 8 != 0) = fb f 8 := fin_of (P := fun f => (bits .and .u8 f 8 != 0) = fb f 8) (by decide +kernel) h0 h1
theorem and16 {f : Int} (h0 : 0 ≤ f) (h1 : f ≤ 255) : (bits .and .u8 f 16 != 0) = fb f 16 := fin_of (P := fun f => (bits .and .u8 f 16 != 0) = fb f 16) (by decide +kernel) h0 h1
theorem and32 {f : Int} (h0 : 0 ≤ f) (h1 : f ≤ 255) : (bits .and .u8 f 32 != 0) = fb f 32 := fin_of (P := fun f => (bits .and .u8 f 32 != 0) = fb f 32) (by decide +kernel) h0 h1
theorem and128 {f : Int} (h0 : 0 ≤ f) (h1 : f ≤ 255) : (bits .and .u8 f 128 != 0) = fb f 128 := fin_of (P := fun f => (bits .and .u8 f 128 != 0) = fb f 128) (by decide +kernel) h0 h1

/-- A place: X, Y, on the curve? -/
abbrev Sp := Int × Int × Bool

/-- An outline. -/
structure Gl where
  x0 : Int
  x1 : Int
  x2 : Int
  x3 : Int
  es : List Int
  pr : List Int
  ps : List Sp
def Gl.box (g : Gl) : List Int := [g.x0, g.x1, g.x2, g.x3]

/-- Does it fit into two bytes with a sign? -/
def fitsB (n : Int) : Bool := decide (-32768 ≤ n) && decide (n ≤ 32767)
theorem fitsB_true {n : Int} (h : fitsB n = true) : -32768 ≤ n ∧ n ≤ 32767 := by unfold fitsB at h; simpa using h
theorem fitsB_of {n : Int} (h0 : -32768 ≤ n) (h1 : n ≤ 32767) : fitsB n = true := by unfold fitsB; simp [h0, h1]
theorem fitsB_false {n : Int} (h : fitsB n = false) : n < -32768 ∨ 32767 < n := by unfold fitsB at h; simp at h; omega

/-- Do the Ends rise? -/
def riseA (l : List Int) (i : Nat) : Bool := decide (i = 0) || decide (l.getD (i - 1) 0 < l.getD i 0)
def riseN (l : List Int) (k : Nat) : Bool := (List.range k).all (riseA l)
theorem riseN_succ (l : List Int) (k : Nat) : riseN l (k + 1) = (riseN l k && riseA l k) := by simp [riseN, List.range_succ]
theorem riseN_not {l : List Int} {k n : Nat} (h : riseA l k = false) (hn : k < n) : riseN l n = false := by
  unfold riseN
  rw [List.all_eq_false]
  exact ⟨k, List.mem_range.2 hn, by rw [h]; simp⟩
theorem riseN_at {l : List Int} {n k : Nat} (h : riseN l n = true) (hk : k < n) : riseA l k = true := by
  unfold riseN at h
  rw [List.all_eq_true] at h
  exact h k (List.mem_range.2 hk)
theorem riseN_mono {l : List Int} {n k : Nat} (h : riseN l n = true) (hk : k ≤ n) : riseN l k = true := by
  unfold riseN at *
  rw [List.all_eq_true] at *
  exact fun x hx => h x (List.mem_range.2 (by have := List.mem_range.1 hx; omega))

/-- How many points the Ends ask for. -/
def cntE (l : List Int) : Nat := if l.length = 0 then 0 else (l.getD (l.length - 1) 0).toNat + 1

/-- How far a number is from the one ahead. -/
def chA (xs : List Int) (i : Nat) : Int := xs.getD i 0 - (if i = 0 then 0 else xs.getD (i - 1) 0)
def chK (xs : List Int) (k : Nat) : List Int := (List.range k).map (chA xs)
def chs (xs : List Int) : List Int := chK xs xs.length
theorem chK_len (xs : List Int) (k : Nat) : (chK xs k).length = k := by simp [chK]
theorem chs_len (xs : List Int) : (chs xs).length = xs.length := chK_len _ _
theorem chK_get (xs : List Int) {k i : Nat} (h : i < k) : (chK xs k)[i]? = some (chA xs i) := by simp [chK, h]
theorem chs_get (xs : List Int) {i : Nat} (h : i < xs.length) : (chs xs)[i]? = some (chA xs i) := chK_get xs h
theorem chK_succ (xs : List Int) (k : Nat) : chK xs (k + 1) = chK xs k ++ [chA xs k] := by simp [chK, List.range_succ]
theorem chK_set (xs : List Int) (k n : Nat) (h : k < n) : (chK xs k ++ List.replicate (n - k) 0).set k (chA xs k) = chK xs (k + 1) ++ List.replicate (n - (k + 1)) 0 := by
  rw [List.set_append_right _ _ (by rw [chK_len]; exact Nat.le_refl _), chK_len, Nat.sub_self, chK_succ, List.append_assoc, show n - k = (n - (k + 1)) + 1 by omega, List.replicate_succ]
  rfl

def xsOf (l : List Sp) : List Int := l.map (·.1)
def ysOf (l : List Sp) : List Int := l.map (·.2.1)
theorem xsOf_len (l : List Sp) : (xsOf l).length = l.length := by simp [xsOf]
theorem ysOf_len (l : List Sp) : (ysOf l).length = l.length := by simp [ysOf]
theorem xsOf_get {l : List Sp} {i : Nat} {p : Sp} (h : l[i]? = some p) : (xsOf l).getD i 0 = p.1 := by simp [xsOf, h]
theorem ysOf_get {l : List Sp} {i : Nat} {p : Sp} (h : l[i]? = some p) : (ysOf l).getD i 0 = p.2.1 := by simp [ysOf, h]

def fitL (l : List Int) : Bool := l.all fitsB
def oRight (g : Gl) : Bool := decide (g.es.length ≤ 32767) && decide (g.pr.length ≤ 65535) && riseN g.es g.es.length && decide (g.ps.length = cntE g.es) && fitL (chs (xsOf g.ps)) && fitL (chs (ysOf g.ps))

/-- A row of numbers alike, at most so many. -/
def runF (f : Int) : Nat → List Int → Nat
  | 0, _ => 0
  | _ + 1, [] => 0
  | c + 1, x :: r => if x = f then runF f c r + 1 else 0
theorem runF_le (f : Int) : ∀ (c : Nat) (l : List Int), runF f c l ≤ c ∧ runF f c l ≤ l.length
  | 0, _ => ⟨Nat.le_refl _, Nat.zero_le _⟩
  | _ + 1, [] => ⟨Nat.zero_le _, Nat.le_refl _⟩
  | c + 1, x :: r => by
    have := runF_le f c r
    unfold runF
    split
    · simp only [List.length_cons]; omega
    · simp
theorem runF_take (f : Int) : ∀ (c : Nat) (l : List Int), l.take (runF f c l) = List.replicate (runF f c l) f
  | 0, _ => by simp [runF]
  | _ + 1, [] => by simp [runF]
  | c + 1, x :: r => by
    have := runF_take f c r
    unfold runF
    split
    · rename_i h
      rw [List.take_succ_cons, this, List.replicate_succ, h]
    · simp
theorem runF_of (f : Int) : ∀ (c : Nat) (l : List Int) (n : Nat), n ≤ c → n ≤ l.length → (∀ i, i < n → l.getD i 0 = f) → (n = c ∨ n = l.length ∨ l.getD n 0 ≠ f) → runF f c l = n
  | 0, l, n, h1, _, _, _ => by simp [runF]; omega
  | c + 1, [], n, _, h2, _, _ => by simp at h2; simp [runF, h2]
  | c + 1, x :: r, 0, _, _, _, h4 => by
    unfold runF
    rw [if_neg]
    intro hx
    rcases h4 with h | h | h
    · omega
    · simp at h
    · exact h (by simpa using hx)
  | c + 1, x :: r, n + 1, h1, h2, h3, h4 => by
    unfold runF
    have h0 := h3 0 (by omega)
    simp at h0
    rw [if_pos h0, runF_of f c r n (by omega) (by simp at h2; omega) (fun i hi => by have := h3 (i + 1) (by omega); simpa using this) (by simp at h4 ⊢; omega)]

def rowOf (l : List Int) : Nat := runF (l.headD 0) 256 l
theorem rowOf_le (l : List Int) : rowOf l ≤ 256 ∧ rowOf l ≤ l.length := runF_le _ _ _
theorem rowOf_pos {l : List Int} (h : l ≠ []) : 1 ≤ rowOf l := by
  cases l with
  | nil => exact absurd rfl h
  | cons x r => unfold rowOf runF; simp
theorem rowOf_take (l : List Int) : l.take (rowOf l) = List.replicate (rowOf l) (l.headD 0) := runF_take _ _ _
theorem rowOf_of {l : List Int} {n : Nat} (h1 : n ≤ 256) (h2 : n ≤ l.length) (h3 : ∀ i, i < n → l.getD i 0 = l.headD 0) (h4 : n = 256 ∨ n = l.length ∨ l.getD n 0 ≠ l.headD 0) : rowOf l = n := runF_of _ _ _ _ h1 h2 h3 h4

/-- Flags, each row of one alike once. -/
def rleHead (l : List Int) : List Int := if rowOf l = 1 then [l.headD 0] else [l.headD 0 + 8, (rowOf l : Int) - 1]
def rleF : Nat → List Int → List Int
  | 0, _ => []
  | _ + 1, [] => []
  | m + 1, f :: r => rleHead (f :: r) ++ rleF m ((f :: r).drop (rowOf (f :: r)))
def rle (l : List Int) : List Int := rleF l.length l
theorem rleF_fuel : ∀ (m : Nat) (l : List Int), l.length ≤ m → rleF m l = rle l := by
  have key : ∀ (k : Nat) (l : List Int) (m m' : Nat), l.length ≤ k → l.length ≤ m → l.length ≤ m' → rleF m l = rleF m' l := by
    intro k
    induction k with
    | zero =>
      intro l m m' h _ _
      obtain rfl : l = [] := List.eq_nil_of_length_eq_zero (by omega)
      cases m <;> cases m' <;> rfl
    | succ k ih =>
      intro l m m' h h1 h2
      cases l with
      | nil => cases m <;> cases m' <;> rfl
      | cons f r =>
        cases m with
        | zero => simp at h1
        | succ m =>
          cases m' with
          | zero => simp at h2
          | succ m' =>
            have hp := rowOf_pos (l := f :: r) (by simp)
            simp only [List.length_cons] at h h1 h2
            unfold rleF
            rw [ih ((f :: r).drop (rowOf (f :: r))) m m' (by rw [List.length_drop, List.length_cons]; omega) (by rw [List.length_drop, List.length_cons]; omega) (by rw [List.length_drop, List.length_cons]; omega)]
  exact fun m l h => key l.length l m l.length (Nat.le_refl _) h (Nat.le_refl _)
theorem rle_nil : rle [] = [] := rfl
theorem rle_step {l : List Int} (h : l ≠ []) : rle l = rleHead l ++ rle (l.drop (rowOf l)) := by
  cases l with
  | nil => exact absurd rfl h
  | cons f r =>
    have hp := rowOf_pos (l := f :: r) (by simp)
    unfold rle
    rw [List.length_cons]
    conv => lhs; unfold rleF
    rw [rleF_fuel r.length _ (by rw [List.length_drop, List.length_cons]; omega)]
    rfl
theorem rleHead_len (l : List Int) : 1 ≤ (rleHead l).length ∧ (rleHead l).length ≤ 2 := by unfold rleHead; split <;> simp
theorem rleF_len : ∀ (m : Nat) (l : List Int), (rleF m l).length ≤ 2 * m
  | 0, _ => by simp [rleF]
  | _ + 1, [] => by simp [rleF]
  | m + 1, f :: r => by
    have := rleF_len m ((f :: r).drop (rowOf (f :: r)))
    have := rleHead_len (f :: r)
    unfold rleF
    rw [List.length_append]
    omega
theorem rle_len (l : List Int) : (rle l).length ≤ 2 * l.length := rleF_len _ _

/-- The bytes of a change. -/
def cb (d : Int) : List Int := if d = 0 then [] else if -255 ≤ d ∧ d ≤ 255 then [max d (-d)] else b2 (d % 65536)
def cbs (l : List Int) : List Int := l.flatMap cb
theorem cb_len (d : Int) : (cb d).length ≤ 2 := by unfold cb; split; simp; split <;> simp [b2]
theorem cbs_len : ∀ l : List Int, (cbs l).length ≤ 2 * l.length
  | [] => by simp [cbs]
  | d :: r => by
    have := cbs_len r
    have := cb_len d
    unfold cbs at *
    rw [List.flatMap_cons, List.length_append, List.length_cons]
    omega
theorem cbs_snoc {l : List Int} {k : Nat} {d : Int} (h : l[k]? = some d) : cbs (l.take (k + 1)) = cbs (l.take k) ++ cb d := by
  unfold cbs
  rw [List.take_add_one, h]
  simp
theorem cbs_cut (l : List Int) {k : Nat} {d : Int} (h : l[k]? = some d) : cbs l = cbs (l.take k) ++ (cb d ++ cbs (l.drop (k + 1))) := by
  have hk := (List.getElem?_eq_some_iff.1 h)
  obtain ⟨hk, rfl⟩ := hk
  conv => lhs; rw [← List.take_append_drop k l, List.drop_eq_getElem_cons hk]
  unfold cbs
  rw [List.flatMap_append, List.flatMap_cons]

/-- What a flag says of a change. -/
def bitsV (d sh pl : Int) : Int := if d = 0 then pl else if -255 ≤ d ∧ d ≤ 255 then (if 0 < d then sh + pl else sh) else 0
def flagOf (dx dy : Int) (on : Bool) : Int := bitsV dx 2 16 + bitsV dy 4 32 + (if on then 1 else 0)
def flA (l : List Sp) (i : Nat) : Int := flagOf (chA (xsOf l) i) (chA (ysOf l) i) (l.getD i (0, 0, false)).2.2
def flK (l : List Sp) (k : Nat) : List Int := (List.range k).map (flA l)
def fls (l : List Sp) : List Int := flK l l.length
theorem flK_len (l : List Sp) (k : Nat) : (flK l k).length = k := by simp [flK]
theorem flK_succ (l : List Sp) (k : Nat) : flK l (k + 1) = flK l k ++ [flA l k] := by simp [flK, List.range_succ]
theorem flK_get (l : List Sp) {k i : Nat} (h : i < k) : (flK l k)[i]? = some (flA l i) := by simp [flK, h]
theorem flK_set (l : List Sp) (k n : Nat) (h : k < n) : (flK l k ++ List.replicate (n - k) 0).set k (flA l k) = flK l (k + 1) ++ List.replicate (n - (k + 1)) 0 := by
  rw [List.set_append_right _ _ (by rw [flK_len]; exact Nat.le_refl _), flK_len, Nat.sub_self, flK_succ, List.append_assoc, show n - k = (n - (k + 1)) + 1 by omega, List.replicate_succ]
  rfl

/-- Which flags there are: none has 8, 64 or 128. -/
def flagsAll : List Int := [0, 2, 16, 18].flatMap fun a => [0, 4, 32, 36].flatMap fun b => [0, 1].map fun c => a + b + c
theorem bitsV_cases (d sh pl : Int) : bitsV d sh pl = pl ∨ bitsV d sh pl = sh + pl ∨ bitsV d sh pl = sh ∨ bitsV d sh pl = 0 := by unfold bitsV; split; simp; split; split <;> simp; simp
theorem flagOf_in (dx dy : Int) (on : Bool) : flagOf dx dy on ∈ flagsAll := by
  unfold flagOf
  rcases bitsV_cases dx 2 16 with h | h | h | h <;> rcases bitsV_cases dy 4 32 with h' | h' | h' | h' <;> rw [h, h'] <;> cases on <;> decide
theorem flA_in (l : List Sp) (i : Nat) : flA l i ∈ flagsAll := flagOf_in _ _ _
theorem fls_in (l : List Sp) : ∀ f ∈ fls l, f ∈ flagsAll := by
  intro f hf
  simp only [fls, flK, List.mem_map] at hf
  obtain ⟨i, _, rfl⟩ := hf
  exact flA_in l i
theorem flagsAll_lt {f : Int} (h : f ∈ flagsAll) : 0 ≤ f ∧ f < 64 := by
  have : ∀ f ∈ flagsAll, 0 ≤ f ∧ f < 64 := by decide
  exact this f h
theorem flagsAll_or8 {f : Int} (h : f ∈ flagsAll) : bits .or .u8 f 8 = f + 8 := by
  have : ∀ f ∈ flagsAll, bits .or .u8 f 8 = f + 8 := by decide +kernel
  exact this f h
theorem bits_or (dx dy : Int) : bits .or .u8 (bitsV dx 2 16) (bitsV dy 4 32) = bitsV dx 2 16 + bitsV dy 4 32 := by
  rcases bitsV_cases dx 2 16 with h | h | h | h <;> rcases bitsV_cases dy 4 32 with h' | h' | h' | h' <;> rw [h, h'] <;> decide +kernel
theorem bits_or1 (dx dy : Int) : bits .or .u8 (bitsV dx 2 16 + bitsV dy 4 32) 1 = bitsV dx 2 16 + bitsV dy 4 32 + 1 := by
  rcases bitsV_cases dx 2 16 with h | h | h | h <;> rcases bitsV_cases dy 4 32 with h' | h' | h' | h' <;> rw [h, h'] <;> decide +kernel
theorem bitsV_lt (dx dy : Int) : 0 ≤ bitsV dx 2 16 + bitsV dy 4 32 ∧ bitsV dx 2 16 + bitsV dy 4 32 < 63 ∧ 0 ≤ bitsV dx 2 16 ∧ bitsV dx 2 16 < 63 ∧ 0 ≤ bitsV dy 4 32 ∧ bitsV dy 4 32 < 63 := by
  rcases bitsV_cases dx 2 16 with h | h | h | h <;> rcases bitsV_cases dy 4 32 with h' | h' | h' | h' <;> rw [h, h'] <;> decide

/-- The bytes of an outline. -/
def boxB (l : List Int) : List Int := l.flatMap fun x => b2 (x % 65536)
def endB (l : List Int) : List Int := l.flatMap b2
def oFront (g : Gl) : List Int := b2 g.es.length ++ boxB g.box ++ endB g.es ++ b2 g.pr.length ++ g.pr
def oB (g : Gl) : List Int := oFront g ++ rle (fls g.ps) ++ cbs (chs (xsOf g.ps)) ++ cbs (chs (ysOf g.ps))
theorem endB_len : ∀ l : List Int, (endB l).length = 2 * l.length
  | [] => rfl
  | x :: r => by unfold endB; rw [List.flatMap_cons, List.length_append]; have := endB_len r; unfold endB at this; rw [this]; simp [b2]; omega
theorem endB_snoc {l : List Int} {k : Nat} {x : Int} (h : l[k]? = some x) : endB (l.take (k + 1)) = endB (l.take k) ++ b2 x := by
  unfold endB
  rw [List.take_add_one, h]
  simp
theorem boxB_len : ∀ l : List Int, (boxB l).length = 2 * l.length
  | [] => rfl
  | x :: r => by unfold boxB; rw [List.flatMap_cons, List.length_append]; have := boxB_len r; unfold boxB at this; rw [this]; simp [b2]; omega
theorem boxB_snoc {l : List Int} {k : Nat} {x : Int} (h : l[k]? = some x) : boxB (l.take (k + 1)) = boxB (l.take k) ++ b2 (x % 65536) := by
  unfold boxB
  rw [List.take_add_one, h]
  simp
theorem oFront_len (g : Gl) : (oFront g).length = 12 + 2 * g.es.length + g.pr.length := by
  unfold oFront
  simp only [List.length_append, endB_len, boxB_len, Gl.box, List.length_cons, List.length_nil]
  simp [b2]
  omega

/-- A byte at a place; 0 where there is none. -/
def n1at (zs : List Int) (i : Nat) : Int := num (zs.drop i) 1
theorem n1at_get {zs : List Int} {i : Nat} {x : Int} (h : zs[i]? = some x) : n1at zs i = x := by
  obtain ⟨hk, rfl⟩ := List.getElem?_eq_some_iff.1 h
  unfold n1at num told
  rw [if_pos (by rw [List.length_drop]; omega), List.drop_eq_getElem_cons hk]
  show 0 * 256 + _ = _
  omega
theorem n1at_lt {zs : List Int} (hB : Bytes zs) (i : Nat) : 0 ≤ n1at zs i ∧ n1at zs i ≤ 255 := by
  have := num_lt (drop_bytes hB i) 1 1 (by omega)
  simp only [Int.pow_succ, Int.pow_zero, Int.one_mul] at this
  unfold n1at
  omega

/-- The flags that are read: those so far, and the place behind. -/
structure FS where
  fl : List Int
  at_ : Nat
def fMore (zs : List Int) (i : Nat) : Nat := if fb (n1at zs i) 8 then (n1at zs (i + 1)).toNat else 0
def fSize (zs : List Int) (i : Nat) : Nat := if fb (n1at zs i) 8 then 2 else 1
def fOk (zs : List Int) (n : Nat) (s : FS) : Bool := !fb (n1at zs s.at_) 128 && decide (s.fl.length + 1 + fMore zs s.at_ ≤ n)
def fNext (zs : List Int) (s : FS) : FS := ⟨s.fl ++ List.replicate (fMore zs s.at_ + 1) (n1at zs s.at_), s.at_ + fSize zs s.at_⟩
theorem fNext_len (zs : List Int) (s : FS) : (fNext zs s).fl.length = s.fl.length + fMore zs s.at_ + 1 := by simp [fNext]; omega
def fRun (zs : List Int) (n : Nat) : Nat → FS → Option FS
  | 0, s => some s
  | m + 1, s => if s.fl.length < n then (if fOk zs n s then fRun zs n m (fNext zs s) else none) else some s
theorem fRun_fuel (zs : List Int) (n : Nat) : ∀ (k : Nat) (s : FS) (m m' : Nat), n - s.fl.length ≤ k → n - s.fl.length ≤ m → n - s.fl.length ≤ m' → fRun zs n m s = fRun zs n m' s := by
  intro k
  induction k with
  | zero =>
    intro s m m' h _ _
    have : ¬ s.fl.length < n := by omega
    cases m <;> cases m' <;> simp [fRun, this]
  | succ k ih =>
    intro s m m' h h1 h2
    by_cases hl : s.fl.length < n
    · obtain ⟨m, rfl⟩ : ∃ j, m = j + 1 := ⟨m - 1, by omega⟩
      obtain ⟨m', rfl⟩ : ∃ j, m' = j + 1 := ⟨m' - 1, by omega⟩
      unfold fRun
      rw [if_pos hl, if_pos hl]
      have hz := fNext_len zs s
      rw [ih (fNext zs s) m m' (by omega) (by omega) (by omega)]
    · cases m <;> cases m' <;> simp [fRun, hl]
/-- All that is left to read, from a state on. -/
def fAll (zs : List Int) (n : Nat) (s : FS) : Option FS := fRun zs n n s
theorem fAll_done {zs : List Int} {n : Nat} {s : FS} (h : n ≤ s.fl.length) : fAll zs n s = some s := by
  unfold fAll
  cases n <;> simp [fRun]
  omega
theorem fAll_step {zs : List Int} {n : Nat} {s : FS} (h : s.fl.length < n) (hk : fOk zs n s = true) : fAll zs n s = fAll zs n (fNext zs s) := by
  unfold fAll
  obtain ⟨m, rfl⟩ : ∃ j, n = j + 1 := ⟨n - 1, by omega⟩
  have hz := fNext_len zs s
  conv => lhs; unfold fRun
  rw [if_pos h, if_pos hk]
  exact fRun_fuel zs _ (m + 1) _ _ _ (by omega) (by omega) (by omega)
theorem fAll_not {zs : List Int} {n : Nat} {s : FS} (h : s.fl.length < n) (hk : fOk zs n s = false) : fAll zs n s = none := by
  unfold fAll
  obtain ⟨m, rfl⟩ : ∃ j, n = j + 1 := ⟨n - 1, by omega⟩
  unfold fRun
  rw [if_pos h, hk]
  rfl
/-- What is read has just so many, and lies behind. -/
theorem fAll_some {zs : List Int} {n : Nat} : ∀ (k : Nat) (s t : FS), n - s.fl.length ≤ k → s.fl.length ≤ n → fAll zs n s = some t → t.fl.length = n ∧ s.at_ ≤ t.at_ := by
  intro k
  induction k with
  | zero =>
    intro s t h hs ht
    rw [fAll_done (by omega)] at ht
    cases ht
    exact ⟨by omega, Nat.le_refl _⟩
  | succ k ih =>
    intro s t h hs ht
    by_cases hl : s.fl.length < n
    · cases hk : fOk zs n s with
      | false => rw [fAll_not hl hk] at ht; cases ht
      | true =>
        rw [fAll_step hl hk] at ht
        have hz := fNext_len zs s
        have hle : s.fl.length + 1 + fMore zs s.at_ ≤ n := by unfold fOk at hk; simp at hk; omega
        have h1 := ih (fNext zs s) t (by omega) (by omega) ht
        refine ⟨h1.1, Nat.le_trans ?_ h1.2⟩
        show s.at_ ≤ s.at_ + _
        omega
    · rw [fAll_done (by omega)] at ht
      cases ht
      exact ⟨by omega, Nat.le_refl _⟩

/-- A change as a flag tells it: how many bytes it has, and what it is. -/
def cw (sh pl f : Int) : Nat := if fb f sh then 1 else if fb f pl then 0 else 2
def cv (zs : List Int) (sh pl f : Int) (i : Nat) : Int := if fb f sh then (if fb f pl then n1at zs i else - n1at zs i) else if fb f pl then 0 else sgn (n2at zs i)
def pkAt (zs : List Int) (sh pl : Int) (fl : List Int) (a : Nat) : Nat → Nat × Int
  | 0 => (a, 0)
  | k + 1 => ((pkAt zs sh pl fl a k).1 + cw sh pl (fl.getD k 0), (pkAt zs sh pl fl a k).2 + cv zs sh pl (fl.getD k 0) (pkAt zs sh pl fl a k).1)
def pkOk (zs : List Int) (sh pl : Int) (fl : List Int) (a k : Nat) : Bool := (List.range k).all fun i => fitsB (pkAt zs sh pl fl a (i + 1)).2
def pkVs (zs : List Int) (sh pl : Int) (fl : List Int) (a k : Nat) : List Int := (List.range k).map fun i => (pkAt zs sh pl fl a (i + 1)).2
section
variable (zs : List Int) (sh pl : Int) (fl : List Int) (a : Nat)
theorem pkVs_len (k : Nat) : (pkVs zs sh pl fl a k).length = k := by simp [pkVs]
theorem pkVs_succ (k : Nat) : pkVs zs sh pl fl a (k + 1) = pkVs zs sh pl fl a k ++ [(pkAt zs sh pl fl a (k + 1)).2] := by simp [pkVs, List.range_succ]
theorem pkVs_get {k i : Nat} (h : i < k) : (pkVs zs sh pl fl a k)[i]? = some (pkAt zs sh pl fl a (i + 1)).2 := by simp [pkVs, h]
theorem pkVs_set (k n : Nat) (h : k < n) : (pkVs zs sh pl fl a k ++ List.replicate (n - k) 0).set k (pkAt zs sh pl fl a (k + 1)).2 = pkVs zs sh pl fl a (k + 1) ++ List.replicate (n - (k + 1)) 0 := by
  rw [List.set_append_right _ _ (by rw [pkVs_len]; exact Nat.le_refl _), pkVs_len, Nat.sub_self, pkVs_succ, List.append_assoc, show n - k = (n - (k + 1)) + 1 by omega, List.replicate_succ]
  rfl
theorem pkOk_succ (k : Nat) : pkOk zs sh pl fl a (k + 1) = (pkOk zs sh pl fl a k && fitsB (pkAt zs sh pl fl a (k + 1)).2) := by simp [pkOk, List.range_succ]
variable {zs sh pl fl a}
theorem pkOk_not {k n : Nat} (h : fitsB (pkAt zs sh pl fl a (k + 1)).2 = false) (hn : k < n) : pkOk zs sh pl fl a n = false := by
  unfold pkOk
  rw [List.all_eq_false]
  exact ⟨k, List.mem_range.2 hn, by rw [h]; simp⟩
theorem pkOk_at {n k : Nat} (h : pkOk zs sh pl fl a n = true) (hk : k ≤ n) : -32768 ≤ (pkAt zs sh pl fl a k).2 ∧ (pkAt zs sh pl fl a k).2 ≤ 32767 := by
  cases k with
  | zero => simp [pkAt]
  | succ k =>
    unfold pkOk at h
    rw [List.all_eq_true] at h
    exact fitsB_true (h k (List.mem_range.2 (by omega)))
theorem pkAt_mono (k : Nat) : ∀ m, (pkAt zs sh pl fl a k).1 ≤ (pkAt zs sh pl fl a (k + m)).1
  | 0 => Nat.le_refl _
  | m + 1 => Nat.le_trans (pkAt_mono k m) (by rw [show k + (m + 1) = (k + m) + 1 by omega]; show _ ≤ _ + _; omega)
end

/-- What bytes are as an outline. -/
def oEs (zs : List Int) (n : Nat) : List Int := (List.range n).map fun i => n2at zs (10 + 2 * i)
def oSz (zs : List Int) (n : Nat) : Nat := (n2at zs (10 + 2 * n)).toNat
def oA (zs : List Int) (n : Nat) : Nat := 12 + 2 * n + oSz zs n
def oFs (zs : List Int) (n : Nat) : Option FS := fAll zs (cntE (oEs zs n)) ⟨[], oA zs n⟩
def oXe (zs : List Int) (s : FS) : Nat := (pkAt zs 2 16 s.fl s.at_ s.fl.length).1
def oEnd (zs : List Int) (s : FS) : Nat := (pkAt zs 4 32 s.fl (oXe zs s) s.fl.length).1
def oPs (zs : List Int) (s : FS) (k : Nat) : List Sp := (List.range k).map fun i => ((pkAt zs 2 16 s.fl s.at_ (i + 1)).2, (pkAt zs 4 32 s.fl (oXe zs s) (i + 1)).2, fb (s.fl.getD i 0) 1)
def oGl (zs : List Int) (n : Nat) (s : FS) : Gl := ⟨sgn (n2at zs 2), sgn (n2at zs 4), sgn (n2at zs 6), sgn (n2at zs 8), oEs zs n, (zs.drop (12 + 2 * n)).take (oSz zs n), oPs zs s s.fl.length⟩
def oPk (zs : List Int) (s : FS) : Bool := pkOk zs 2 16 s.fl s.at_ s.fl.length && pkOk zs 4 32 s.fl (oXe zs s) s.fl.length
def oPut (zs : List Int) (n : Nat) (s : FS) : Option (Gl × Nat) := if oPk zs s && decide (oEnd zs s ≤ zs.length) then some (oGl zs n s, oEnd zs s) else none
def oTake (zs : List Int) (n : Nat) : Option FS → Option (Gl × Nat)
  | none => none
  | some s => oPut zs n s
def oNum (zs : List Int) (n : Nat) : Option (Gl × Nat) := if riseN (oEs zs n) n then oTake zs n (oFs zs n) else none
def oParse (zs : List Int) : Option (Gl × Nat) := if 32767 < n2at zs 0 then none else oNum zs (n2at zs 0).toNat

theorem oEs_len (zs : List Int) (n : Nat) : (oEs zs n).length = n := by simp [oEs]
theorem oEs_get (zs : List Int) {n i : Nat} (h : i < n) : (oEs zs n)[i]? = some (n2at zs (10 + 2 * i)) := by simp [oEs, h]
theorem oEs_getD (zs : List Int) {n i : Nat} (h : i < n) : (oEs zs n).getD i 0 = n2at zs (10 + 2 * i) := by simp [oEs, h]
theorem oEs_succ (zs : List Int) (n : Nat) : oEs zs (n + 1) = oEs zs n ++ [n2at zs (10 + 2 * n)] := by simp [oEs, List.range_succ]
theorem oEs_set (zs : List Int) (k n : Nat) (h : k < n) : (oEs zs k ++ List.replicate (n - k) 0).set k (n2at zs (10 + 2 * k)) = oEs zs (k + 1) ++ List.replicate (n - (k + 1)) 0 := by
  rw [List.set_append_right _ _ (by rw [oEs_len]; exact Nat.le_refl _), oEs_len, Nat.sub_self, oEs_succ, List.append_assoc, show n - k = (n - (k + 1)) + 1 by omega, List.replicate_succ]
  rfl
theorem oEs_riseA (zs : List Int) {n k : Nat} (h : k < n) : riseA (oEs zs n) k = (decide (k = 0) || decide (n2at zs (10 + 2 * (k - 1)) < n2at zs (10 + 2 * k))) := by
  unfold riseA
  rw [oEs_getD zs h, oEs_getD zs (show k - 1 < n by omega)]
theorem oPs_len (zs : List Int) (s : FS) (k : Nat) : (oPs zs s k).length = k := by simp [oPs]
theorem oPs_succ (zs : List Int) (s : FS) (k : Nat) : oPs zs s (k + 1) = oPs zs s k ++ [((pkAt zs 2 16 s.fl s.at_ (k + 1)).2, (pkAt zs 4 32 s.fl (oXe zs s) (k + 1)).2, fb (s.fl.getD k 0) 1)] := by simp [oPs, List.range_succ]
theorem oPs_set (zs : List Int) (s : FS) (k n : Nat) (h : k < n) : (oPs zs s k ++ List.replicate (n - k) ((0, 0, false) : Sp)).set k ((pkAt zs 2 16 s.fl s.at_ (k + 1)).2, (pkAt zs 4 32 s.fl (oXe zs s) (k + 1)).2, fb (s.fl.getD k 0) 1) = oPs zs s (k + 1) ++ List.replicate (n - (k + 1)) (0, 0, false) := by
  rw [List.set_append_right _ _ (by rw [oPs_len]; exact Nat.le_refl _), oPs_len, Nat.sub_self, oPs_succ, List.append_assoc, show n - k = (n - (k + 1)) + 1 by omega, List.replicate_succ]
  rfl
theorem oXe_le (zs : List Int) (s : FS) : s.at_ ≤ oXe zs s ∧ oXe zs s ≤ oEnd zs s := by
  constructor
  · have := pkAt_mono (zs := zs) (sh := 2) (pl := 16) (fl := s.fl) (a := s.at_) 0 s.fl.length
    rw [Nat.zero_add] at this
    exact this
  · have := pkAt_mono (zs := zs) (sh := 4) (pl := 32) (fl := s.fl) (a := oXe zs s) 0 s.fl.length
    rw [Nat.zero_add] at this
    exact this

end Go.Proofs.Ytdaeffnaoeblpaa

/- compo: glyphs made of parts: plain lists. -/
namespace Go.Proofs.Ytdaeffnaoeblpaa
open Go.RowKit
set_option linter.unusedVariables false

theorem ofInt_w16 (n : Nat) (h : n < 65536) : (BitVec.ofInt 16 (n : Int)).toNat = n := by
  rw [BitVec.toNat_ofInt]
  omega
theorem wrap_w16 (n : Nat) (h : n < 65536) : IntKind.u16.wrap (n : Int) = (n : Int) := by
  have e : (n : Int) % 2 ^ 16 = n := Int.emod_eq_of_lt (by omega) (by omega)
  simp only [IntKind.wrap, IntKind.bits, IntKind.signed, e]
  simp
theorem and_w16 {n m : Nat} (hn : n < 65536) (hm : m < 65536) : bits .and .u16 (n : Int) (m : Int) = ((n &&& m : Nat) : Int) := by
  show IntKind.u16.wrap ((BitVec.ofInt 16 (n : Int) &&& BitVec.ofInt 16 (m : Int)).toNat : Int) = _
  rw [BitVec.toNat_and, ofInt_w16 n hn, ofInt_w16 m hm]
  exact wrap_w16 _ (Nat.lt_of_le_of_lt Nat.and_le_left hn)
theorem andNot_w16 {n m : Nat} (hn : n < 65536) (hm : m < 65536) : bits .andNot .u16 (n : Int) (m : Int) = ((n &&& (65535 - m) : Nat) : Int) := by
  show IntKind.u16.wrap ((BitVec.ofInt 16 (n : Int) &&& ~~~BitVec.ofInt 16 (m : Int)).toNat : Int) = _
  rw [BitVec.toNat_and, BitVec.toNat_not, ofInt_w16 n hn, ofInt_w16 m hm]
  exact wrap_w16 _ (Nat.lt_of_le_of_lt Nat.and_le_left hn)
theorem and_pow (n i : Nat) : n &&& 2 ^ i = if n / 2 ^ i % 2 = 1 then 2 ^ i else 0 := by
  apply Nat.eq_of_testBit_eq
  intro j
  rw [Nat.testBit_and, Nat.testBit_two_pow]
  have ht : n.testBit i = decide (n / 2 ^ i % 2 = 1) := Nat.testBit_eq_decide_div_mod_eq
  by_cases hij : i = j
  · subst hij
    rw [ht]
    split
    · rename_i h; rw [decide_eq_true h, Nat.testBit_two_pow]; rfl
    · rename_i h; rw [decide_eq_false h, Nat.zero_testBit]; rfl
  · rw [decide_eq_false hij, Bool.and_false]
    split
    · rw [Nat.testBit_two_pow, decide_eq_false hij]
    · rw [Nat.zero_testBit]
theorem fb_nat (n k : Nat) : fb (n : Int) (k : Int) = decide (n / k % 2 = 1) := by
  unfold fb
  congr 1
  rw [← Int.natCast_ediv]
  exact propext ⟨fun h => by omega, fun h => by omega⟩
theorem and_bit {n : Nat} (hn : n < 65536) (i : Nat) (hi : i < 16) : (bits .and .u16 (n : Int) ((2 ^ i : Nat) : Int) != 0) = fb (n : Int) ((2 ^ i : Nat) : Int) := by
  have h2 : 2 ^ i < 65536 := by
    have : 2 ^ i < 2 ^ 16 := Nat.pow_lt_pow_right (by omega) hi
    simpa using this
  have hp : 0 < 2 ^ i := Nat.two_pow_pos i
  rw [and_w16 hn h2, fb_nat, and_pow]
  split
  · rename_i h
    rw [decide_eq_true h, bne_iff_ne]
    omega
  · rename_i h; rw [decide_eq_false h]; simp
theorem nat_of {f : Int} (h0 : 0 ≤ f) (h1 : f ≤ 65535) : ∃ n : Nat, f = (n : Int) ∧ n < 65536 := ⟨f.toNat, by omega, by omega⟩
theorem w_and1 {f : Int} (h0 : 0 ≤ f) (h1 : f ≤ 65535) : (bits .and .u16 f 1 != 0) = fb f 1 := by
  obtain ⟨n, rfl, hn⟩ := nat_of h0 h1
  exact and_bit hn 0 (by omega)
theorem w_and2 {f : Int} (h0 : 0 ≤ f) (h1 : f ≤ 65535) : (bits .and .u16 f 2 != 0) = fb f 2 := by
  obtain ⟨n, rfl, hn⟩ := nat_of h0 h1
  exact and_bit hn 1 (by omega)
theorem w_and256 {f : Int} (h0 : 0 ≤ f) (h1 : f ≤ 65535) : (bits .and .u16 f 256 != 0) = fb f 256 := by
  obtain ⟨n, rfl, hn⟩ := nat_of h0 h1
  exact and_bit hn 8 (by omega)
theorem w_and32 {f : Int} (h0 : 0 ≤ f) (h1 : f ≤ 65535) : (bits .and .u16 f 32 != 0) = fb f 32 := by
  obtain ⟨n, rfl, hn⟩ := nat_of h0 h1
  exact and_bit hn 5 (by omega)

/-- The three kinds' bits. -/
def knd (f : Int) : Int := (if fb f 8 then 8 else 0) + (if fb f 64 then 64 else 0) + (if fb f 128 then 128 else 0)
theorem w_and200 {f : Int} (h0 : 0 ≤ f) (h1 : f ≤ 65535) : bits .and .u16 f 200 = knd f := by
  obtain ⟨n, rfl, hn⟩ := nat_of h0 h1
  have e := and_w16 hn (show 200 < 65536 by omega)
  rw [show (200 : Nat) = 2 ^ 3 ||| (2 ^ 6 ||| 2 ^ 7) by decide, Nat.and_or_distrib_left, Nat.and_or_distrib_left, and_pow, and_pow, and_pow] at e
  unfold knd
  rw [show (8 : Int) = ((8 : Nat) : Int) by rfl, show (64 : Int) = ((64 : Nat) : Int) by rfl, show (128 : Int) = ((128 : Nat) : Int) by rfl, fb_nat, fb_nat, fb_nat]
  refine Eq.trans e ?_
  by_cases a : n / 8 % 2 = 1 <;> by_cases b : n / 64 % 2 = 1 <;> by_cases c : n / 128 % 2 = 1 <;> simp [a, b, c]
theorem w_known {f : Int} (h0 : 0 ≤ f) (h1 : f ≤ 65535) : (bits .andNot .u16 f 6095 != 0) = (fb f 16 || fb f 32 || fb f 2048 || decide (8192 ≤ f)) := by
  obtain ⟨n, rfl, hn⟩ := nat_of h0 h1
  have e := andNot_w16 hn (show 6095 < 65536 by omega)
  rw [show (65535 - 6095 : Nat) = 2 ^ 4 ||| (2 ^ 5 ||| (2 ^ 11 ||| (2 ^ 13 ||| (2 ^ 14 ||| 2 ^ 15)))) by decide] at e
  simp only [Nat.and_or_distrib_left, and_pow] at e
  have e' : bits .andNot .u16 (n : Int) 6095 = _ := e
  rw [e', show (16 : Int) = ((16 : Nat) : Int) by rfl, show (32 : Int) = ((32 : Nat) : Int) by rfl, show (2048 : Int) = ((2048 : Nat) : Int) by rfl, fb_nat, fb_nat, fb_nat]
  have hd : decide ((8192 : Int) ≤ (n : Int)) = (decide (n / 2 ^ 13 % 2 = 1) || decide (n / 2 ^ 14 % 2 = 1) || decide (n / 2 ^ 15 % 2 = 1)) := by
    rw [Bool.eq_iff_iff]
    simp only [Bool.or_eq_true, decide_eq_true_eq]
    omega
  rw [hd]
  by_cases a : n / 2 ^ 4 % 2 = 1 <;> by_cases b : n / 2 ^ 5 % 2 = 1 <;> by_cases c : n / 2 ^ 11 % 2 = 1 <;> by_cases d : n / 2 ^ 13 % 2 = 1 <;> by_cases g : n / 2 ^ 14 % 2 = 1 <;> by_cases h : n / 2 ^ 15 % 2 = 1 <;> simp_all
theorem w_or32 {f : Int} (h0 : 0 ≤ f) (h1 : f ≤ 65535) (hb : fb f 32 = false) : bits .or .u16 f 32 = f + 32 := by
  obtain ⟨n, rfl, hn⟩ := nat_of h0 h1
  show IntKind.u16.wrap ((BitVec.ofInt 16 (n : Int) ||| BitVec.ofInt 16 ((32 : Nat) : Int)).toNat : Int) = _
  rw [BitVec.toNat_or, ofInt_w16 n hn, ofInt_w16 32 (by omega)]
  have hz : n &&& 32 = 0 := by
    have := and_pow n 5
    rw [show (32 : Int) = ((32 : Nat) : Int) by rfl, fb_nat] at hb
    simp only [decide_eq_false_iff_not] at hb
    rw [if_neg (by simpa using hb)] at this
    simpa using this
  have ho : n ||| 32 = n + 32 := by
    have h := BitVec.add_eq_or_of_and_eq_zero (BitVec.ofNat 32 n) (BitVec.ofNat 32 32) (by
      apply BitVec.eq_of_toNat_eq
      rw [BitVec.toNat_and, BitVec.toNat_ofNat, BitVec.toNat_ofNat, Nat.mod_eq_of_lt (by omega), Nat.mod_eq_of_lt (by omega), hz]
      rfl)
    have h2 := congrArg BitVec.toNat h
    rw [BitVec.toNat_add, BitVec.toNat_or, BitVec.toNat_ofNat, BitVec.toNat_ofNat, Nat.mod_eq_of_lt (by omega), Nat.mod_eq_of_lt (by omega), Nat.mod_eq_of_lt (by omega)] at h2
    exact h2.symm
  rw [ho, wrap_w16 _ (by
    have := and_pow n 5
    rw [show (2 : Nat) ^ 5 = 32 by rfl, hz] at this
    split at this
    · omega
    · omega)]
  rfl

/-- A part: which flags, which glyph, where, how. -/
structure Pt where
  f : Int
  i : Int
  x : Int
  y : Int
  xx : Int
  xy : Int
  yx : Int
  yy : Int
/-- A glyph that is made of others. -/
structure Cg where
  x0 : Int
  x1 : Int
  x2 : Int
  x3 : Int
  ps : List Pt
  pr : List Int
def byteB (n : Int) : Bool := decide (-128 ≤ n) && decide (n ≤ 127)
def straight (p : Pt) : Bool := decide (p.xy = 0) && decide (p.yx = 0)
def unitB (p : Pt) : Bool := decide ([p.xx, p.xy, p.yx, p.yy] = [16384, 0, 0, 16384])
/-- Do the numbers fit the kind? -/
def matB (k : Int) (p : Pt) : Bool := if k = 8 then straight p && decide (p.xx = p.yy) else if k = 64 then straight p else if k = 128 then true else unitB p
def twoK (f : Int) : Bool := (fb f 8 && fb f 64) || (fb f 8 && fb f 128) || (fb f 64 && fb f 128)
def strange (f : Int) : Bool := fb f 16 || fb f 32 || fb f 2048 || decide (8192 ≤ f)
def ptRight (p : Pt) : Bool := !strange p.f && fb p.f 2 && !twoK p.f && matB (knd p.f) p && (fb p.f 1 || (byteB p.x && byteB p.y))
structure Pt.ok (p : Pt) : Prop where
  f : 0 ≤ p.f ∧ p.f ≤ 65535
  i : 0 ≤ p.i ∧ p.i ≤ 65535
  x : -32768 ≤ p.x ∧ p.x ≤ 32767
  y : -32768 ≤ p.y ∧ p.y ≤ 32767
  xx : -32768 ≤ p.xx ∧ p.xx ≤ 32767
  xy : -32768 ≤ p.xy ∧ p.xy ≤ 32767
  yx : -32768 ≤ p.yx ∧ p.yx ≤ 32767
  yy : -32768 ≤ p.yy ∧ p.yy ≤ 32767
structure Cg.ok (g : Cg) : Prop where
  bx : ∀ x ∈ [g.x0, g.x1, g.x2, g.x3], -32768 ≤ x ∧ x ≤ 32767
  ps : ∀ p ∈ g.ps, p.ok
  pr : Bytes g.pr
theorem knd_in (f : Int) : knd f ∈ ([0, 8, 64, 72, 128, 136, 192, 200] : List Int) := by
  unfold knd
  cases fb f 8 <;> cases fb f 64 <;> cases fb f 128 <;> decide
/-- How many bits of 200 are set. -/
def onesK (k : Int) : Int := if k = 0 then 0 else if k = 8 ∨ k = 64 ∨ k = 128 then 1 else if k = 200 then 3 else 2
theorem twoK_ones (f : Int) : decide (1 < onesK (knd f)) = twoK f := by
  unfold knd twoK
  cases fb f 8 <;> cases fb f 64 <;> cases fb f 128 <;> decide

/-- Has the last one a program? -/
def codeB (ps : List Pt) : Bool := match ps.getLast? with
  | some p => fb p.f 256
  | none => false
def partsOk (ps : List Pt) (k : Nat) : Bool := (List.range k).all fun i => match ps[i]? with
  | some p => ptRight p && !(decide (i + 1 < ps.length) && fb p.f 256)
  | none => false
def cRight (g : Cg) : Bool := decide (1 ≤ g.ps.length) && decide (g.ps.length ≤ 200) && decide (g.pr.length ≤ 65535) && partsOk g.ps g.ps.length && (codeB g.ps || decide (g.pr.length = 0))
theorem partsOk_succ (ps : List Pt) (k : Nat) : partsOk ps (k + 1) = (partsOk ps k && match ps[k]? with
  | some p => ptRight p && !(decide (k + 1 < ps.length) && fb p.f 256)
  | none => false) := by simp [partsOk, List.range_succ]
theorem partsOk_not {ps : List Pt} {k n : Nat} {p : Pt} (hp : ps[k]? = some p) (h : (ptRight p && !(decide (k + 1 < ps.length) && fb p.f 256)) = false) (hn : k < n) : partsOk ps n = false := by
  unfold partsOk
  rw [List.all_eq_false]
  refine ⟨k, List.mem_range.2 hn, ?_⟩
  rw [hp]
  simp only [h]
  decide
end Go.Proofs.Ytdaeffnaoeblpaa

/- A region that draws its order, whose operations read and whose calls make memory of their own and answer values: walked once. -/
namespace Go.Proofs.Ytdaeffnaoeblpaa
open Go.RowKit
set_option linter.unusedVariables false

/-- w with blocks behind it, at another place of the tape. -/
def gw (w : World) (n : Nat) (os : Array Obj) : World := { w with heap := w.heap ++ os, drawn := n }

theorem gw_size (w : World) (n : Nat) (os : Array Obj) : w.heap.size ≤ (gw w n os).heap.size := by simp [gw]

theorem gw_below (w : World) (n : Nat) (os : Array Obj) : Below w.heap.size w (gw w n os) :=
  ⟨rfl, rfl, rfl, gw_size w n os, fun k hk => by simp [gw, Array.getElem?_append, hk]⟩

theorem below_gw {w w' : World} (h : Below w.heap.size w w') : ∃ p : GrownBy, w' = gw w p.n p.os := by
  refine ⟨⟨w'.drawn, w'.heap.extract w.heap.size w'.heap.size⟩, ?_⟩
  obtain ⟨h1, h2, h3, h4, h5⟩ := h
  cases w'
  cases w
  simp only [gw, World.mk.injEq] at *
  subst h1 h2 h3
  simp only [and_true]
  rename_i heap' _ heap _ _ _ _
  apply Array.ext_getElem?
  intro i
  rw [Array.getElem?_append]
  split
  · rename_i hi; exact h5 i hi
  · rename_i hi
    rw [Array.getElem?_extract]
    split
    · congr 1; omega
    · rw [Array.getElem?_eq_none (by omega)]

theorem gw_cell {w : World} {a : Addr} {v : Value} (h : w.cell? a = some v) (n : Nat) (os : Array Obj) : (gw w n os).cell? a = some v := by
  have hb : a.block < w.heap.size := World.block_lt_of_cell? w _ h
  exact (World.cell?_of_block (w := w) ((gw_below w n os).block _ hb)).trans h

theorem gw_frozen {w : World} {a : Addr} (hb : a.block < w.heap.size) (n : Nat) (os : Array Obj) : (gw w n os).frozen? a = w.frozen? a := (gw_below w n os).frozen hb

theorem region_below {P : Program} {id : Nat} {Q : Exit → Act → World → Prop} {a : Act} {w : World} {l : List Oper} (hm : P.follows .mixedOrders = true) (hB : Region.lexB .any l.toArray = true)
    (h : wpQuiet P l.toArray (fun w' => ∃ p : GrownBy, w' = gw w p.n p.os) (fun a' => ∀ w', (∃ p : GrownBy, w' = gw w p.n p.os) → Q .normal a' w') l a) : (Code.region id l.toArray true).wp P Q a w :=
  wp_region_quiet (C := fun w' => ∃ p : GrownBy, w' = gw w p.n p.os) hm hB ⟨⟨w.drawn + 1, #[]⟩, by simp [gw]⟩ (by simpa using h)

theorem calls_gw {P : Program} {f : FuncId} {args : Array Value} {w : World} {n : Nat} {os : Array Obj} {v : Value}
    (h : Calls P f args (gw w n os) fun e w' => e = .returned v ∧ Below (gw w n os).heap.size (gw w n os) w') : Calls P f args (gw w n os) fun e w'' => e = .returned v ∧ ∃ p : GrownBy, w'' = gw w p.n p.os :=
  h.mono fun _ _ ⟨he, hb⟩ => ⟨he, below_gw ((gw_below w n os).trans (hb.mono (gw_size w n os)))⟩

theorem calls_gw_same {P : Program} {f : FuncId} {args : Array Value} {w : World} {n : Nat} {os : Array Obj} {v : Value}
    (h : Calls P f args (gw w n os) fun e w' => e = .returned v ∧ w' = gw w n os) : Calls P f args (gw w n os) fun e w'' => e = .returned v ∧ ∃ p : GrownBy, w'' = gw w p.n p.os :=
  h.mono fun _ _ ⟨he, hb⟩ => ⟨he, ⟨n, os⟩, hb⟩

end Go.Proofs.Ytdaeffnaoeblpaa

/- What package dot answers (Round, Apply, Move, Scale, Unit), and the document's own answers, as contracts over this seat's translation. -/
namespace Go.Proofs.Ytdaeffnaoeblpaa
open Go.RowKit
set_option linter.unusedVariables false

/-- To the nearest of 16384ths, the half up. -/
def rnd (n : Int) : Int := (n + 8192) / 16384

theorem round_any (n : Int) (w : World) (h0 : -4611686018427387904 ≤ n) (h1 : n ≤ 4611686018427387904) :
    Calls Try.prog 178 #[.int .i64 n] w fun e w' => e = .returned (.int .i64 (rnd n)) ∧ w' = w := by
  go_enter Try.func178, Try.ntmps178
  go_wp2
  go_ret
  exact ⟨rfl, rfl⟩

/-- A point as a value. -/
abbrev ptV (x y : Int) (on : Bool) : Value := .agg #[.int .i64 x, .int .i64 y, .bool on]
abbrev mxV (a b c d : Int) : Value := .agg #[.int .i16 a, .int .i16 b, .int .i16 c, .int .i16 d]

theorem move_any (x y : Int) (on : Bool) (dx dy : Int) (w : World) (hx : -1000000000000000000 ≤ x) (hx' : x ≤ 1000000000000000000) (hy : -1000000000000000000 ≤ y) (hy' : y ≤ 1000000000000000000)
    (hdx : -1000000000000000000 ≤ dx) (hdx' : dx ≤ 1000000000000000000) (hdy : -1000000000000000000 ≤ dy) (hdy' : dy ≤ 1000000000000000000) :
    Calls Try.prog 147 #[ptV x y on, .int .i64 dx, .int .i64 dy] w fun e w' => e = .returned (ptV (x + dx) (y + dy) on) ∧ Below w.heap.size w w' := by
  go_enter Try.func147, Try.ntmps147
  go_wp2
  refine bodyPost_ret (v := ptV (x + dx) (y + dy) on) (by simp [results, Try.results147, go_sem]) rfl ⟨rfl, ?_⟩
  exact ((Below.refl _ _).alloc (Nat.le_refl _) _).alloc (by simp) _

/-- A region that draws its order, all of which only reads and asks but for its end. -/
theorem region_tail {P : Program} {id : Nat} {Q : Exit → Act → World → Prop} {a : Act} {w : World} {l : List Oper} (n : Nat) (hm : P.follows .mixedOrders = true) (hB : Region.lexTailB .any l.toArray n = true)
    (h : wpStill P l.toArray w.drew (fun a' => wpList P l.toArray Q (l.drop n) a' w.drew) (l.take n) a) : (Code.region id l.toArray true).wp P Q a w := wp_region_still_tail n hm hB h

theorem mul_bd (a x : Int) (a0 : -32768 ≤ a) (a1 : a ≤ 32767) (x0 : -70368744177664 ≤ x) (x1 : x ≤ 70368744177664) : -2305843009213693952 ≤ a * x ∧ a * x ≤ 2305843009213693952 := by
  have h1 : a.natAbs ≤ 32768 := by omega
  have h2 : x.natAbs ≤ 70368744177664 := by omega
  have h3 : (a * x).natAbs ≤ 2305843009213693952 := by
    rw [Int.natAbs_mul]
    exact Nat.mul_le_mul h1 h2
  omega

set_option maxHeartbeats 1000000 in
set_option maxRecDepth 100000 in
theorem apply_any (a b c d x y : Int) (on : Bool) (w : World) (a0 : -32768 ≤ a) (a1 : a ≤ 32767) (b0 : -32768 ≤ b) (b1 : b ≤ 32767) (c0 : -32768 ≤ c) (c1 : c ≤ 32767) (d0 : -32768 ≤ d) (d1 : d ≤ 32767)
    (x0 : -70368744177664 ≤ x) (x1 : x ≤ 70368744177664) (y0 : -70368744177664 ≤ y) (y1 : y ≤ 70368744177664) :
    Calls Try.prog 146 #[mxV a b c d, ptV x y on] w fun e w' => e = .returned (ptV (rnd (a * x + c * y)) (rnd (b * x + d * y)) on) ∧ Below w.heap.size w w' := by
  obtain ⟨p0, p1⟩ := mul_bd a x a0 a1 x0 x1
  obtain ⟨q0, q1⟩ := mul_bd c y c0 c1 y0 y1
  obtain ⟨r0, r1⟩ := mul_bd b x b0 b1 x0 x1
  obtain ⟨s0, s1⟩ := mul_bd d y d0 d1 y0 y1
  have e1 : IntKind.i64.wrap (a * x) = a * x := IntWalk.i64_in _ (by omega)
  have e2 : IntKind.i64.wrap (c * y) = c * y := IntWalk.i64_in _ (by omega)
  have e3 : IntKind.i64.wrap (b * x) = b * x := IntWalk.i64_in _ (by omega)
  have e4 : IntKind.i64.wrap (d * y) = d * y := IntWalk.i64_in _ (by omega)
  have e5 : IntKind.i64.wrap (a * x + c * y) = a * x + c * y := IntWalk.i64_in _ (by omega)
  have e6 : IntKind.i64.wrap (b * x + d * y) = b * x + d * y := IntWalk.i64_in _ (by omega)
  have f1 : IntKind.i64.wrap a = a := IntWalk.i64_in _ (by omega)
  have f2 : IntKind.i64.wrap b = b := IntWalk.i64_in _ (by omega)
  have f3 : IntKind.i64.wrap c = c := IntWalk.i64_in _ (by omega)
  have f4 : IntKind.i64.wrap d = d := IntWalk.i64_in _ (by omega)
  have k1 := fun W => round_any (a * x + c * y) W (by omega) (by omega)
  have k2 := fun W => round_any (b * x + d * y) W (by omega) (by omega)
  have K1 := Lib.hid k1
  have K2 := Lib.hid k2
  clear k1 k2
  go_enter Try.func146, Try.ntmps146
  go_wp2_with fail
  refine region_tail 31 (by kernel_rfl) (by kernel_rfl) ?_
  simp only [List.take_succ_cons, List.take_zero, List.drop_succ_cons, List.drop_zero]
  repeat still_step
  still_call (K1.out _)
  repeat still_step
  still_call (K2.out _)
  repeat still_step
  refine wpStill_nil ?_
  go_wp2
  refine bodyPost_ret (v := ptV (rnd (a * x + c * y)) (rnd (b * x + d * y)) on) (by simp [results, Try.results146, go_sem]) rfl ⟨rfl, ?_⟩
  exact ((((Below.refl _ _).alloc (Nat.le_refl _) _).alloc (by simp) _).alloc (by simp; omega) _).drew

end Go.Proofs.Ytdaeffnaoeblpaa

/- What the rest of package dot answers (Scale, Unit), and the document's own answers of layer 4, as contracts over this seat's translation. -/
namespace Go.Proofs.Ytdaeffnaoeblpaa
open Go.RowKit
set_option linter.unusedVariables false

theorem kept_new {w w1 : World} {o : Obj} (hb : Below (w.alloc o).heap.size (w.alloc o) w1) : w1.heap[w.heap.size]? = some o := (hb.block _ (by simp)).trans (heap_alloc_new w o)

theorem scale_any (n : Int) (w : World) : Calls Try.prog 69 #[.int .i16 n] w fun e w' => e = .returned (mxV n 0 0 n) ∧ Below w.heap.size w w' := by
  go_enter Try.func69, Try.ntmps69
  go_wp2
  refine bodyPost_ret (v := mxV n 0 0 n) (by simp [results, Try.results69, go_sem]) rfl ⟨rfl, ?_⟩
  exact (Below.refl _ _).alloc (Nat.le_refl _) _

theorem unit_any (w : World) : Calls Try.prog 26 #[] w fun e w' => e = .returned (mxV 16384 0 0 16384) ∧ Below w.heap.size w w' := by
  go_enter Try.func26, Try.ntmps26
  go_wp2_with fail
  refine (scale_any _ _).mono ?_
  rintro e w1 ⟨rfl, hb⟩
  have hk := kept_new hb
  have c0 : w1.cell? ⟨w.heap.size, 0, none⟩ = some (.int .i16 0) := cell_of_row w1 _ 0 _ _ _ hk
  have c1 : w1.cell? ⟨w.heap.size, 1, none⟩ = some (.int .i16 0) := cell_of_row w1 _ 1 _ _ _ hk
  have c2 : w1.cell? ⟨w.heap.size, 2, none⟩ = some (.int .i16 0) := cell_of_row w1 _ 2 _ _ _ hk
  have c3 : w1.cell? ⟨w.heap.size, 3, none⟩ = some (.int .i16 0) := cell_of_row w1 _ 3 _ _ _ hk
  have f0 : ∀ o, w1.frozen? ⟨w.heap.size, o, none⟩ = false := fun o => by simp [World.frozen?, hk]
  have Hk := Lib.hid hk
  clear hk
  go_wp2
  refine bodyPost_ret (v := mxV 16384 0 0 16384) (by simp [results, Try.results26, go_sem, c0, c1, c2, c3]) rfl ⟨rfl, ?_⟩
  exact (((((((Below.refl _ _).alloc (Nat.le_refl _) _).trans (hb.mono (by simp))).setCell (Nat.le_refl _) _).setCell (Nat.le_refl _) _).setCell (Nat.le_refl _) _).setCell (Nat.le_refl _) _)

theorem w64 (x : Int) (h : -9223372036854775808 ≤ x ∧ x ≤ 9223372036854775807) : wrap64 x = x := IntWalk.wrap64_in x h
theorem ret_i64 {a b : Int} (h : a = b) : Ending.returned (.int .i64 a) = .returned (.int .i64 b) := by rw [h]

theorem tm_spec (m : Int) : ∃ q r : Int, m = 16384 * q + r ∧ m.tmod 16384 = r ∧ -16384 < r ∧ r < 16384 ∧ (r < 0 → m < 0) ∧ (0 < r → 0 < m) := by
  refine ⟨m.tdiv 16384, m.tmod 16384, ?_, rfl, ?_⟩
  · have := Int.mul_tdiv_add_tmod m 16384; omega
  · rcases Int.le_total 0 m with h | h
    · rw [Int.tmod_eq_emod_of_nonneg h]; omega
    · have e : m.tmod 16384 = -((-m).tmod 16384) := by rw [Int.neg_tmod]; omega
      rw [e, Int.tmod_eq_emod_of_nonneg (by omega)]; omega

theorem rround_any (n : Int) (w : World) (h0 : -4611686018427387904 ≤ n) (h1 : n ≤ 4611686018427387904) :
    Calls Try.prog 65 #[.int .i64 n] w fun e w' => e = .returned (.int .i64 (rnd n)) ∧ w' = w := by
  obtain ⟨q, r, hq, hr, r0, r1, r2, r3⟩ := tm_spec (n + 8192)
  have Hq := Lib.hid hq
  have Hr := Lib.hid hr
  clear hq hr
  by_cases h : (n + 8192).tmod 16384 < 0
  · have hn : r < 0 := by have := Hr.out; omega
    have e1 : Hid (rnd n = wrap64 ((wrap64 (n + 8192 - wrap64 ((n + 8192).tmod 16384 + 16384))).tdiv 16384)) := by
      show _ = _
      have := Hq.out
      rw [Hr.out, w64 (r + 16384) (by omega), w64 (n + 8192 - (r + 16384)) (by omega), show n + 8192 - (r + 16384) = 16384 * (q - 1) by omega, Int.mul_tdiv_cancel_left _ (by omega), w64 _ (by omega)]
      unfold rnd; omega
    clear r2 r3
    go_enter Try.func65, Try.ntmps65
    go_wp2
    go_ret
    exact ⟨ret_i64 e1.out.symm, rfl⟩
  · have hn : 0 ≤ r := by have := Hr.out; omega
    have e1 : Hid (rnd n = wrap64 ((wrap64 (n + 8192 - (n + 8192).tmod 16384)).tdiv 16384)) := by
      show _ = _
      have := Hq.out
      rw [Hr.out, w64 (n + 8192 - r) (by omega), show n + 8192 - r = 16384 * q by omega, Int.mul_tdiv_cancel_left _ (by omega), w64 _ (by omega)]
      unfold rnd; omega
    clear r2 r3
    go_enter Try.func65, Try.ntmps65
    go_wp2
    go_ret
    exact ⟨ret_i64 e1.out.symm, rfl⟩

end Go.Proofs.Ytdaeffnaoeblpaa

/- A region that draws its order, in which memory only grows: whatever yields its value in every world that goes on from the one at hand is taken first; the rest one by one, each from the world that it meets. -/
namespace Go.Proofs.Ytdaeffnaoeblpaa
open Go.RowKit
set_option linter.unusedVariables false

/-- w' goes on from w: what lay in w is unturned. -/
def Ext (w w' : World) : Prop := Below w.heap.size w w'
theorem Ext.refl (w : World) : Ext w w := Below.refl _ _
theorem Ext.trans {a b c : World} (h : Ext a b) (k : Ext b c) : Ext a c := Below.trans h (Below.mono k (Below.size h))
theorem Ext.cell {w w' : World} (h : Ext w w') {a : Addr} {v : Value} (hc : w.cell? a = some v) : w'.cell? a = some v := (Below.cell h (World.block_lt_of_cell? w _ hc)).trans hc
theorem Ext.alloc (w : World) (o : Obj) : Ext w (w.alloc o) := (Below.refl _ _).alloc (Nat.le_refl _) o

section
variable {P : Program} {ops : Array Oper} {Q : Exit → Act → World → Prop} {md : Region.Mode}

theorem held_mono {S1 S2 : World → Prop} (h : ∀ w, S2 w → S1 w) : ∀ (fuel : Nat) (listed : Array Bool) (a : Act) (w : World), wpAnyH P md ops Q S2 fuel listed a w → wpAnyH P md ops Q S1 fuel listed a w
  | 0, _, _, _, hh => hh
  | fuel + 1, _, _, _, hh => ⟨hh.1, fun i hi => wpOp_mono (fun a' w' h' => ⟨h w' h'.1, held_mono h fuel _ a' w' h'.2⟩) (hh.2 i hi)⟩

theorem reg_start {id : Nat} {a : Act} {w : World} (hm : P.follows .mixedOrders = true) (h : wpAnyH P .any ops Q (Ext w.drew) ops.size (Array.replicate ops.size false) a w.drew) : (Code.region id ops true).wp P Q a w := wp_region_held hm h

theorem reg_take {i : Nat} {d : Option Tmp} {oi : Oper} {v : Value} {fuel : Nat} {listed : Array Bool} {a : Act} {w : World} (hi : ops[i]? = some oi) (hd : oi.dst = d) (hs : Region.noSelect ops = true) (hf : Region.free md ops listed i = true) (hr : (Region.ready md ops listed).contains i = true)
    (hQ : ∀ c a w, Q (.panic c) (a.put oi.dst v) w → Q (.panic c) a w) (hy : YieldsIf P ops (Ext w) oi v a) (h : wpAnyH P md ops Q (Ext w) fuel (listed.setIfInBounds i true) (a.put d v) w) : wpAnyH P md ops Q (Ext w) (fuel + 1) listed a w := by
  subst hd
  exact wpAnyH_take hi hs hf hr hQ hy (Ext.refl w) h

/-- One of those that may come up. -/
def OneR (P : Program) (md : Region.Mode) (ops : Array Oper) (Q : Exit → Act → World → Prop) (fuel : Nat) (listed : Array Bool) (a : Act) (w : World) (i : Nat) (o : Oper) : Prop :=
  ∀ K : Act → World → Prop, Shut (∀ a' w', Ext w w' → wpAnyH P md ops Q (Ext w') fuel (listed.setIfInBounds i true) a' w' → K a' w') → if Region.wanted o (yielded ops a.tmps) = true then Oper.wp P o a w K Q else K (a.put o.dst undef) w

theorem oneR_op {fuel : Nat} {listed : Array Bool} {a : Act} {w : World} {i : Nat} {o : Oper} (ho : ops[i]? = some o) (h : OneR P md ops Q fuel listed a w i o) : wpOp P ops Q i (fun a' w' => Ext w w' ∧ wpAnyH P md ops Q (Ext w) fuel (listed.setIfInBounds i true) a' w') a w :=
  wpOp_step ho fun K hK => h K fun a' w' hx hw => hK a' w' ⟨hx, held_mono (fun _ hy => hx.trans hy) _ _ _ _ hw⟩

theorem reg_one {fuel : Nat} {listed : Array Bool} {a : Act} {w : World} (i : Nat) (o : Oper) (hr : Region.ready md ops listed = [i]) (ho : ops[i]? = some o) (h : OneR P md ops Q fuel listed a w i o) : wpAnyH P md ops Q (Ext w) (fuel + 1) listed a w :=
  wpAnyH_all hr (by simp) fun j hj => by simp at hj; subst hj; exact oneR_op ho h

theorem reg_two {fuel : Nat} {listed : Array Bool} {a : Act} {w : World} (i j : Nat) (o p : Oper) (hr : Region.ready md ops listed = [i, j]) (ho : ops[i]? = some o) (hp : ops[j]? = some p) (h : OneR P md ops Q fuel listed a w i o) (k : OneR P md ops Q fuel listed a w j p) : wpAnyH P md ops Q (Ext w) (fuel + 1) listed a w :=
  wpAnyH_all hr (by simp) fun q hq => by
    simp at hq
    rcases hq with rfl | rfl
    · exact oneR_op ho h
    · exact oneR_op hp k
end

end Go.Proofs.Ytdaeffnaoeblpaa

/- All cells of a block of fourteen at once. -/
namespace Go.Proofs.Ytdaeffnaoeblpaa
open Go.RowKit
set_option linter.unusedVariables false

theorem cells14 {w : World} {b t : Nat} {v0 v1 v2 v3 v4 v5 v6 v7 v8 v9 v10 v11 v12 v13 : Value} (h : w.heap[b]? = some (.cells #[v0, v1, v2, v3, v4, v5, v6, v7, v8, v9, v10, v11, v12, v13] t (0, 0))) :
    w.cell? ⟨b, 0, none⟩ = some v0 ∧ w.cell? ⟨b, 1, none⟩ = some v1 ∧ w.cell? ⟨b, 2, none⟩ = some v2 ∧ w.cell? ⟨b, 3, none⟩ = some v3 ∧ w.cell? ⟨b, 4, none⟩ = some v4 ∧ w.cell? ⟨b, 5, none⟩ = some v5 ∧ w.cell? ⟨b, 6, none⟩ = some v6 ∧ w.cell? ⟨b, 7, none⟩ = some v7 ∧ w.cell? ⟨b, 8, none⟩ = some v8 ∧ w.cell? ⟨b, 9, none⟩ = some v9 ∧ w.cell? ⟨b, 10, none⟩ = some v10 ∧ w.cell? ⟨b, 11, none⟩ = some v11 ∧ w.cell? ⟨b, 12, none⟩ = some v12 ∧ w.cell? ⟨b, 13, none⟩ = some v13 :=
  ⟨cell_of_row w b 0 _ t (0, 0) h, cell_of_row w b 1 _ t (0, 0) h, cell_of_row w b 2 _ t (0, 0) h, cell_of_row w b 3 _ t (0, 0) h, cell_of_row w b 4 _ t (0, 0) h, cell_of_row w b 5 _ t (0, 0) h, cell_of_row w b 6 _ t (0, 0) h, cell_of_row w b 7 _ t (0, 0) h, cell_of_row w b 8 _ t (0, 0) h, cell_of_row w b 9 _ t (0, 0) h, cell_of_row w b 10 _ t (0, 0) h, cell_of_row w b 11 _ t (0, 0) h, cell_of_row w b 12 _ t (0, 0) h, cell_of_row w b 13 _ t (0, 0) h⟩

/-- What stands behind a call that turns nothing old. -/
theorem kept_block {w w' : World} {b : Nat} {o : Obj} (h : w.heap[b]? = some o) (hb : Below w.heap.size w w') : w'.heap[b]? = some o := (hb.block _ (lt_of_block h)).trans h

theorem kept_alloc {w : World} {b : Nat} {o : Obj} (h : w.heap[b]? = some o) (o' : Obj) : (w.alloc o').heap[b]? = some o := kept_block h ((Below.refl _ _).alloc (Nat.le_refl _) o')

theorem thawed {w : World} {b t : Nat} {cs : Array Value} (h : w.heap[b]? = some (.cells cs t (0, 0))) (o : Nat) : w.frozen? ⟨b, o, none⟩ = false := by simp [World.frozen?, h]

end Go.Proofs.Ytdaeffnaoeblpaa
