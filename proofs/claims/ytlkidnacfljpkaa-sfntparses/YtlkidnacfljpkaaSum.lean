/- What tally.Sum answers: the iterator over words, and its caller, as contracts over this seat's translation. -/
import Derived.Test.YtlkidnacfljpkaaTally
import Derived.Test.YtlkidnacfljpkaaWrites
namespace Go.Proofs.Ytlkidnacfljpkaa
open Go.RowKit Go.Shelf
set_option linter.unusedVariables false
attribute [local go_sem] Oper.semAt_some

/-- Words of four bytes, one behind the other. -/
def wordsOf : List Int → List Int
  | a :: b :: c :: d :: r => be [a, b, c, d] :: wordsOf r
  | _ => []

theorem words_any (A : Option Addr) (n c : Nat) (w : World) : Calls Try.prog 45 #[.slice A n c] w fun e w' => e = .returned (.func (.func 70) #[] #[.pointer (some ⟨w.heap.size, 0, none⟩)]) ∧ w.alloc (.cells #[.slice A n c] 27) = w' := by
  go_enter Try.func45, Try.ntmps45
  go_wp2
  go_ret
  exact ⟨rfl, rfl⟩

/-- How many bytes the Reader in block b has left, read off the world. -/
def leftW (b : Nat) (w : World) : Nat := match w.cell? ⟨b, 0, none⟩ with | some (.slice _ n _) => n | _ => 0

theorem leftW_eq {w : World} {B b : Nat} {zs : List Int} {a : Int} {bad : Bool} (h : Rd w B b zs a bad) : leftW b w = zs.length := by
  obtain ⟨A, n, c, hb, _, h2, _⟩ := h
  unfold leftW
  rw [cell_of_row w b 0 _ _ _ hb]
  exact h2.len.symm

set_option maxRecDepth 100000 in
set_option maxHeartbeats 2000000 in
theorem iter_yields (bp : Nat) (A : Option Addr) (n c : Nat) (zs : List Int) (W : World) (hc : W.cell? ⟨bp, 0, none⟩ = some (.slice A n c)) (hr : Row W A n (cellsOf .u8 zs)) (hB : Bytes zs) (hn : n ≤ 140737488351000) :
    Yields Try.prog 70 #[.pointer (some ⟨bp, 0, none⟩)] (Value.int .u32) (wordsOf (pad zs)) W := by
  intro l J hJ hY h0
  refine callsIn_of_wp Try.func70 rfl trivial ?_ rfl
  simp only [Try.ntmps70, List.size_toArray, List.length_cons, List.length_nil, Nat.reduceAdd, Nat.reduceSub, Array.replicate_succ, Array.replicate_zero, List.push_toArray, List.append_toArray, List.nil_append, List.cons_append]
  gi_wp2_with fail
  refine ⟨trivial, (callsIn_wide.2 (pad_any A n c zs W hr hn)).mono ?_⟩
  rintro e w1 ⟨A1, n1, c1, rfl, hown1, hb1⟩
  have hn1 : n1 ≤ 140737488351232 := by have := hown1.len; simp only [pad, List.length_append, List.length_replicate, padN, hr.len] at this; omega
  gi_wp2_with fail
  refine ⟨trivial, (callsIn_wide.2 (new_any A1 n1 c1 _ w1 hown1.row hn1)).mono ?_⟩
  rintro e w2 ⟨r, rfl, hrd, hb2'⟩
  have hs1 := hb1.size
  have hb2 : Below W.heap.size W w2 := hb1.trans (hb2'.mono hs1)
  have hrd2 := hrd.mono hs1
  have hpl : (pad zs).length % 4 = 0 := by rw [pad, List.length_append, List.length_replicate]; unfold padN; omega
  have hpn : (pad zs).length ≤ 140737488351232 := by have := hown1.len; omega
  have hpB : Bytes (pad zs) := bytes_append hB (fun x hx => by have := List.eq_of_mem_replicate hx; omega)
  have hJ2 := hJ [] W w2 h0 hb2
  have HJ := Lib.hid hJ
  have HY := Lib.hid hY
  clear hJ hY h0 hb2' hb1 hrd hown1 hb2
  generalize hps : pad zs = ps at *
  have HP := Lib.hid hps
  clear hps
  have hst : Hid (∃ (pre L : List Int) (a : Nat), wordsOf ps = pre ++ wordsOf L ∧ L.length % 4 = 0 ∧ L.length + a ≤ 140737488351232 ∧ Bytes L ∧ Rd w2 W.heap.size r L a false ∧ J pre w2) := ⟨[], ps, 0, rfl, hpl, by omega, hpB, by simpa using hrd2, hJ2⟩
  have hfrom := hrd2.from_
  clear hpl hpn hpB hrd2 hJ2
  gi_wp2
  gi_loopw [7] (fun _ wr => ∃ (pre L : List Int) (a : Nat), wordsOf ps = pre ++ wordsOf L ∧ L.length % 4 = 0 ∧ L.length + a ≤ 140737488351232 ∧ Bytes L ∧ Rd wr W.heap.size r L a false ∧ J pre wr) (fun _ wr => leftW r wr)
  case atStart => exact hst.out
  case round =>
    clear hst
    obtain ⟨pre, L, a, hx, hL4, hLa, hLB, hrd, hj⟩ := hrel
    have Hx := Lib.hid hx
    clear hx
    match L, hL4, hLa, hLB, hrd, Hx with
    | [], _, _, _, hrd, Hx =>
      gi_wp2_with fail
      refine ⟨trivial, (callsIn_wide.2 (left_any _ r _ _ _ _ hrd)).mono ?_⟩
      rintro e w' ⟨rfl, rfl⟩
      gi_wp2
      go_end0
      refine ⟨⟨_, rfl⟩, ?_⟩
      rw [HP.out, Hx.out]
      simpa [wordsOf] using hj
    | [_], h, _, _, _, _ => simp at h
    | [_, _], h, _, _, _, _ => simp at h
    | [_, _, _], h, _, _, _, _ => simp at h
    | x0 :: x1 :: x2 :: x3 :: L', hL4, hLa, hLB, hrd, Hx =>
      have hq := ask_front [x0, x1, x2, x3] L' a false 4 rfl
      simp only [List.cons_append, List.nil_append] at hq
      have Hq := Lib.hid hq
      clear hq
      have hLB' : Bytes L' := fun x hx => hLB x (by simp [hx])
      have hlen : (x0 :: x1 :: x2 :: x3 :: L').length = L'.length + 4 := by simp
      have hpos : 0 < L'.length + 4 := by omega
      have hla : L'.length + 4 + a ≤ 140737488351232 := by rw [← hlen]; exact hLa
      have hl4 : L'.length % 4 = 0 := by simp at hL4; omega
      have hlw := leftW_eq hrd
      have Hlw := Lib.hid hlw
      have Hlen := Lib.hid hlen
      clear hL4 hLa hlw hlen
      gi_wp2_with fail
      refine ⟨trivial, (callsIn_wide.2 (left_any _ r _ _ _ _ hrd)).mono ?_⟩
      rintro e w' ⟨rfl, rfl⟩
      rw [Hlen.out]
      gi_wp2_with fail
      refine ⟨trivial, (callsIn_wide.2 (u32_any _ r _ _ _ _ hrd hLB (by rw [Hlen.out]; omega) (by omega) (by omega))).mono ?_⟩
      rintro e w3 ⟨rfl, hrd3, hg3⟩
      rw [Hq.out.2.1, Hq.out.2.2.1, Hq.out.2.2.2] at hrd3
      rw [show num (x0 :: x1 :: x2 :: x3 :: L') 4 = be [x0, x1, x2, x3] by unfold num; rw [Hq.out.1]]
      have hj3 := HJ.out pre wr w3 hj (below_of_grown hg3 (by have := hrd.lt; omega) (fun k e => by cases e; exact hfrom))
      obtain ⟨fn, tmps, assign, body, hy, hR⟩ := HY.out pre (be [x0, x1, x2, x3]) (wordsOf L') w3 (by rw [Hx.out]; rfl) hj3
      clear hg3 hj hrd hLB
      gi_wp2
      refine hR.mono ?_
      rintro e W4 ⟨rfl, hj4, hk4⟩
      have hrd4 := hrd3.keep hk4.size (fun g h1 h2 _ => hk4.block g h2 h1)
      clear hy hR hj3 hrd3 hk4
      gi_wp2
      go_roundw
      case rel => exact ⟨pre ++ [be [x0, x1, x2, x3]], L', a + 4, by rw [Hx.out]; simp [wordsOf], hl4, by omega, hLB', by simpa using hrd4, hj4⟩
      case measure => rw [leftW_eq hrd4, Hlw.out]; simp; omega

/-- Numbers of 32 bits, added up. -/
def sum32 (l : List Int) : Int := l.foldl (fun s x => (s + x) % 4294967296) 0
theorem sum32_snoc (l : List Int) (x : Int) : sum32 (l ++ [x]) = (sum32 l + x) % 4294967296 := by simp [sum32]
theorem sum32_le (l : List Int) : 0 ≤ sum32 l ∧ sum32 l < 4294967296 := by
  unfold sum32
  have : ∀ (l : List Int) (s : Int), 0 ≤ s → s < 4294967296 → 0 ≤ l.foldl (fun s x => (s + x) % 4294967296) s ∧ l.foldl (fun s x => (s + x) % 4294967296) s < 4294967296 := by
    intro l
    induction l with
    | nil => intro s h0 h1; exact ⟨h0, h1⟩
    | cons x l ih => intro s h0 h1; rw [List.foldl_cons]; exact ih _ (Int.emod_nonneg _ (by omega)) (Int.emod_lt_of_pos _ (by omega))
  exact this l 0 (by omega) (by omega)

theorem wordsOf_le : ∀ (l : List Int), Bytes l → ∀ x ∈ wordsOf l, 0 ≤ x ∧ x < 4294967296
  | a :: b :: c :: d :: r, h, x, hx => by
    simp only [wordsOf, List.mem_cons] at hx
    rcases hx with rfl | hx
    · have := be_le [a, b, c, d] (fun y hy => h y (by simp at hy ⊢; rcases hy with h | h | h | h <;> simp [h]))
      simpa using this
    · exact wordsOf_le r (fun y hy => h y (by simp [hy])) x hx
  | [], _, x, hx => by simp [wordsOf] at hx
  | [_], _, x, hx => by simp [wordsOf] at hx
  | [_, _], _, x, hx => by simp [wordsOf] at hx
  | [_, _, _], _, x, hx => by simp [wordsOf] at hx

theorem pad_bytes {zs : List Int} (h : Bytes zs) : Bytes (pad zs) := bytes_append h (fun x hx => by have := List.eq_of_mem_replicate hx; omega)

set_option maxRecDepth 100000 in
set_option maxHeartbeats 2000000 in
theorem sum_any (A : Option Addr) (n c : Nat) (zs : List Int) (w : World) (hr : Row w A n (cellsOf .u8 zs)) (hB : Bytes zs) (hn : n ≤ 140737488351000) :
    Calls Try.prog 13 #[.slice A n c] w (Ret w (.int .u32 (sum32 (wordsOf (pad zs))))) := by
  refine (callsIn_wide (n := 3)).1 ?_
  refine callsIn_of_wp_marks Try.func13 rfl trivial ?_ rfl
  simp only [Try.ntmps13, List.size_toArray, List.length_cons, List.length_nil, Nat.reduceAdd, Nat.reduceSub, Array.replicate_succ, Array.replicate_zero, List.push_toArray, List.append_toArray, List.nil_append, List.cons_append]
  gi_wp2_with fail
  refine ⟨trivial, (callsIn_wide.2 (words_any A n c _)).mono ?_⟩
  rintro e w' ⟨rfl, rfl⟩
  gi_wp2_with fail
  have hw0 : (w.alloc (.cells #[.int .u32 0] 38)).heap.size = w.heap.size + 1 := by simp
  have hB0 : Below w.heap.size w ((w.alloc (.cells #[.int .u32 0] 38)).alloc (.cells #[.slice A n c] 27)) := ((Below.refl _ w).alloc (Nat.le_refl _) _).alloc (by simp) _
  have hbox : ((w.alloc (.cells #[.int .u32 0] 38)).alloc (.cells #[.slice A n c] 27)).heap[w.heap.size + 1]? = some (.cells #[.slice A n c] 27 (0, 0)) := by
    have := heap_alloc_new (w.alloc (.cells #[.int .u32 0] 38)) (.cells #[.slice A n c] 27)
    rwa [hw0] at this
  have hsum : ((w.alloc (.cells #[.int .u32 0] 38)).alloc (.cells #[.slice A n c] 27)).heap[w.heap.size]? = some (.cells #[.int .u32 0] 38 (0, 0)) := by
    rw [Below.heap_alloc _ _ _ (by simp)]
    exact heap_alloc_new w _
  have hsz : ((w.alloc (.cells #[.int .u32 0] 38)).alloc (.cells #[.slice A n c] 27)).heap.size = w.heap.size + 2 := by simp
  generalize ((w.alloc (.cells #[.int .u32 0] 38)).alloc (.cells #[.slice A n c] 27)) = W0 at *
  clear hw0
  have hr0 := hr.below hB0
  have hseq : ∀ o1 o2, Yields Try.prog 70 #[.pointer (some ⟨w.heap.size + 1, 0, none⟩)] (Value.int .u32) (wordsOf (pad zs)) ((W0.alloc o1).alloc o2) := fun o1 o2 => by
    have hb : Below W0.heap.size W0 ((W0.alloc o1).alloc o2) := ((Below.refl _ W0).alloc (Nat.le_refl _) _).alloc (by simp) _
    refine iter_yields (w.heap.size + 1) A n c zs _ ?_ (hr0.below hb) hB hn
    exact cell_of_row _ _ 0 #[.slice A n c] 27 (0, 0) ((hb.block _ (by omega)).trans hbox)
  have hW := wordsOf_le (pad zs) (pad_bytes hB)
  refine wpIn_rangeFunc_all (gf := 70) (lb := #[.pointer (some ⟨w.heap.size + 1, 0, none⟩)]) rfl (enters_of Try.func70 (by kernel_rfl) rfl) hseq
    (fun pre W => W.heap[w.heap.size]? = some (.cells #[.int .u32 (sum32 pre)] 38 (0, 0)) ∧ Below w.heap.size w W) ?inv ⟨hsum, hB0⟩
    (fun x => { tmps := #[.slice A n c, undef, .int .u32 0, .pointer (some ⟨w.heap.size, 0, none⟩), .int .u32 x, .slice A n c, .func (.func 70) #[] #[.pointer (some ⟨w.heap.size + 1, 0, none⟩)], .int .u32 x, undef, undef, undef, undef], defers := [] }) ?assign ?body ?done
  case inv =>
    rintro pre X Y ⟨h1, h2⟩ hb
    exact ⟨(hb.block _ (by omega)).trans h1, h2.trans (hb.mono (by omega))⟩
  case assign =>
    intro l x W K hK
    gi_wp2
    exact hK
  case body =>
    rintro l pre x rest W hxs ⟨h1, h2⟩ hle
    have hc1 : W.cell? ⟨w.heap.size, 0, none⟩ = some (.int .u32 (sum32 pre)) := cell_of_row W _ 0 _ 38 (0, 0) h1
    have hf1 : W.frozen? ⟨w.heap.size, 0, none⟩ = false := by simp [World.frozen?, h1]
    obtain ⟨x0, x1⟩ := hW x (by rw [hxs]; simp)
    obtain ⟨s0, s1⟩ := sum32_le pre
    have HS := Lib.hid (sum32_snoc pre x)
    have H1 := Lib.hid h1
    have Hs := Lib.hid hsz
    clear hxs h1 hsz hseq hbox hsum hr0 hB0 hW
    gi_wp2
    refine ⟨⟨?_, h2.setCell (p := ⟨w.heap.size, 0, none⟩) (Nat.le_refl _) _⟩, (Kept.refl _ _).setCell (by have := Hs.out; simp; omega) _⟩
    rw [HS.out]
    exact set_block H1.out 0 _
  case done =>
    rintro W ⟨h1, h2⟩ hK
    have hc1 : W.cell? ⟨w.heap.size, 0, none⟩ = some (.int .u32 (sum32 (wordsOf (pad zs)))) := cell_of_row W _ 0 _ 38 (0, 0) h1
    have hle : w.heap.size ≤ W0.heap.size := by omega
    clear hseq hbox hsum hr0 hB0 hW h1 hsz
    gi_wp2
    refine ⟨by simp, .inl ⟨_, _, rfl, run_takeDeferred hK, ?_⟩⟩
    exact ⟨_, results_tmp rfl _ _ _, rfl, h2.trans (below_putObj _ _ hle)⟩

theorem adjust_any (A : Option Addr) (n c : Nat) (zs : List Int) (w : World) (hr : Row w A n (cellsOf .u8 zs)) (hB : Bytes zs) (hn : n ≤ 140737488351000) :
    Calls Try.prog 32 #[.slice A n c] w (Ret w (.int .u32 ((2981146554 - sum32 (wordsOf (pad zs))) % 4294967296))) := by
  obtain ⟨s0, s1⟩ := sum32_le (wordsOf (pad zs))
  go_enter Try.func32, Try.ntmps32
  go_wp2_with fail
  refine (sum_any _ _ _ zs _ hr hB hn).mono ?_
  rintro e w1 ⟨rfl, hb⟩
  go_wp2
  go_ret
  exact ⟨rfl, hb⟩

end Go.Proofs.Ytlkidnacfljpkaa
