/- What package loca's Parse answers, as a contract over this seat's translation. -/
import Derived.Test.YtmbncdhpfhlobaaLocaMath
import Derived.Test.YtmbncdhpfhlobaaRdQ
import Derived.Test.YtmbncdhpfhlobaaInts
namespace Go.Proofs.Ytmbncdhpfhlobaa
open Go.RowKit
set_option linter.unusedVariables false

theorem placeSize_any (long : Bool) (w : World) : Calls Try.prog 49 #[.bool long] w fun e w' => e = .returned (.int .i64 (eachB long)) ∧ w = w' := by
  cases long
  all_goals
    go_enter Try.func49, Try.ntmps49
    go_wp2
    go_ret
    exact ⟨rfl, rfl⟩

theorem readPlace_any (long : Bool) {w : World} {B b : Nat} {zs : List Int} {i : Nat} (h : RdQ w B b zs (eachB long * i)) (hB : Bytes zs) (hl : zs.length ≤ 140737488351232) :
    Calls Try.prog 50 #[.pointer (some ⟨b, 0, none⟩), .bool long] w (RetQ w B b (.int .i64 (plc long zs i)) zs (eachB long * (i + 1))) := by
  cases long
  · have hq := Lib.hid (rdq_u16 h hB hl)
    obtain ⟨h1, h2⟩ := n2at_lt hB (2 * i)
    clear h hB hl
    go_enter Try.func50, Try.ntmps50
    go_wp2_with fail
    refine hq.out.mono ?_
    rintro e w1 ⟨rfl, h3, h4⟩
    change 0 ≤ n2at zs (eachB false * i) at h1
    change n2at zs (eachB false * i) < 65536 at h2
    go_wp2
    go_ret
    exact ⟨rfl, h3, h4⟩
  · have hq := Lib.hid (rdq_u32 h hB hl)
    obtain ⟨h1, h2⟩ := n4at_lt hB (4 * i)
    clear h hB hl
    go_enter Try.func50, Try.ntmps50
    go_wp2_with fail
    refine hq.out.mono ?_
    rintro e w1 ⟨rfl, h3, h4⟩
    change 0 ≤ n4at zs (eachB true * i) at h1
    change n4at zs (eachB true * i) < 4294967296 at h2
    go_wp2
    go_ret
    exact ⟨rfl, h3, h4⟩

/-- A Reader, and a fresh row of numbers beside it. -/
structure LP (w wr : World) (b : Nat) (zs : List Int) (i gp n : Nat) (xs : List Int) : Prop where
  rd : RdQ wr w.heap.size b zs i
  own : Own 3 .i64 wr w.heap.size (some ⟨gp, 0, none⟩) n n xs
  ne : gp ≠ b
  bel : Below w.heap.size w wr

section
variable {w wr w' : World} {b : Nat} {zs : List Int} {i j gp n : Nat} {xs : List Int}
theorem LP.ask (h : LP w wr b zs i gp n xs) (hr : RdQ w' w.heap.size b zs j) (hg : wr.grownBy w' (some b)) : LP w w' b zs j gp n xs :=
  ⟨hr, h.own.grown hg (fun g e => by simp [blockOf] at e; subst e; intro e; cases e; exact h.ne rfl), h.ne, h.bel.grown hg h.bel.size (fun k e => by cases e; exact h.rd.from_)⟩
theorem LP.set (h : LP w wr b zs i gp n xs) (k : Nat) (x : Int) : LP w (wr.setCell ⟨gp, k, none⟩ (.int .i64 x)) b zs i gp n (xs.set k x) := by
  obtain ⟨cur, hc⟩ := h.own.block
  refine ⟨h.rd.keep (by simp [World.setCell]) (fun g hg _ ho => Below.heap_setCell wr _ _ g (by
      rintro rfl
      rcases ho with e | ⟨cur', hc'⟩
      · exact h.ne e
      · rw [hc] at hc'
        simp at hc')), h.own.set k x, h.ne, h.bel.setCell (p := ⟨gp, k, none⟩) (h.own.from_ gp rfl).1 _⟩
end

set_option maxRecDepth 100000 in
set_option maxHeartbeats 1000000 in
theorem locaParse_false (A : Option Addr) (n c : Nat) (zs : List Int) (g : Nat) (size : Int) (w : World) (hr : Row w A n (cellsOf .u8 zs)) (hB : Bytes zs) (hn : n ≤ 140737488351232) (hg : g < 65536) :
    Calls Try.prog 30 #[.slice A n c, .bool false, .int .u16 g, .int .i64 size] w (RetPl w (placesB false zs g size) (pls false zs (g + 1)) (.int .i64 2) (.int .i64 0)) := by
  obtain ⟨i0, hi, hz0, hz1, hz2⟩ := info_parts Try.i64info
  have Hn := Lib.hid hr.len
  have HB := Lib.hid hB
  clear hB
  by_cases hlen : n = (g + 1) * 2
  · subst hlen
    have hne : (((((g + 1) * 2 : Nat) : Int)) != ((g : Int) + 1) * 2) = false := by simp
    go_enter Try.func30, Try.ntmps30
    go_wp2_with fail
    refine (placeSize_any false _).mono ?_
    rintro e w' ⟨rfl, rfl⟩
    rw [show ((eachB false : Nat) : Int) = 2 from rfl]
    go_wp2_with fail
    refine (new_any _ _ _ zs _ hr (by omega)).mono ?_
    rintro e w1 ⟨b, rfl, hrd, hb⟩
    clear hne hr
    have hlt1 := hrd.lt
    go_wp2_with (at_make; refine wpList_make_ints rfl (.tmp 28) (.tmp 28) _ rfl 3 .i64 w.heap.size i0 8 Try.underlying62 hi hz0 hz1 hz2 _ _ (g + 1) (g + 1) rfl rfl (by omega) (by omega) (Nat.le_refl _) (by omega) (by omega) hb.size ?_; intro w2 hown2 hg2)
    have hs : LP w w2 b zs (2 * 0) w1.heap.size (g + 1) (pls false zs 0 ++ List.replicate (g + 1 - 0) 0) :=
      ⟨(RdQ.new hrd).keep hg2.size (fun q hq _ _ => hg2.block q hq (by simp)), hown2, by omega, hb.grown hg2 hb.size (fun k e => by cases e)⟩
    clear hown2 hg2 hrd hb
    generalize w1.heap.size = gp at *
    go_loopw [13, 31] (fun l i wr => ∃ k : Nat, k ≤ g + 1 ∧ i = .int .i64 k ∧ l = .int .i64 (prv false zs k) ∧ okPls false zs size k = true ∧ LP w wr b zs (2 * k) gp (g + 1) (pls false zs k ++ List.replicate (g + 1 - k) 0)) (fun _ i _ => g + 1 - (intOf i).toNat)
    case atStart => exact ⟨0, Nat.zero_le _, rfl, rfl, rfl, hs⟩
    case round =>
      clear hs hlt1
      obtain ⟨k, hk, rfl, rfl, hok, hs⟩ := hrel
      have Hok := Lib.hid hok
      clear hok
      obtain ⟨p0, p1⟩ := prv_bd (long := false) HB.out k
      obtain ⟨q0, q1⟩ := plc_bd (long := false) HB.out k
      by_cases hlt : k < g + 1
      · go_wp2_with fail
        refine (readPlace_any false (i := k) hs.rd HB.out (by have := Hn.out; omega)).mono ?_
        rintro e w3 ⟨rfl, hr3, hg3⟩
        have hs3 := hs.ask hr3 hg3
        clear hs hr3 hg3
        by_cases h1 : plc false zs k < prv false zs k
        · go_wp2
          go_ret2
          refine ⟨hs3.bel, .inl ⟨?_, rfl⟩⟩
          unfold placesB
          rw [okPls_mono (k + 1) (g + 1) (by rw [okPls, decide_eq_false (by omega)]; simp) (by omega)]
          simp
        · by_cases h2 : size < plc false zs k
          · go_wp2
            go_ret2
            refine ⟨hs3.bel, .inl ⟨?_, rfl⟩⟩
            unfold placesB
            rw [okPls_mono (k + 1) (g + 1) (by rw [okPls, decide_eq_false (by omega)]; simp) (by omega)]
            simp
          · have hok' : okPls false zs size (k + 1) = true := by rw [okPls, Hok.out, decide_eq_true (by omega)]; rfl
            have Hok' := Lib.hid hok'
            have hs4 := hs3.set k (plc false zs k)
            rw [pls_set (g + 1) k hlt] at hs4
            have H4 := Lib.hid hs4
            obtain ⟨z, hz⟩ : ∃ z, (pls false zs k ++ List.replicate (g + 1 - k) 0)[k]? = some z := ⟨_, List.getElem?_eq_getElem (by simp [pls_len]; omega)⟩
            obtain ⟨gg, off, e', _, hc⟩ := hs3.own.row.at (cellsOf_get (k := .i64) hz)
            simp only [Option.some.injEq, Addr.mk.injEq, and_true] at e'
            obtain ⟨rfl, rfl⟩ := e'
            have f0 := hs3.own.thaw k
            rw [Nat.zero_add] at hc
            clear hok' hs4 hs3 hz
            go_wp2
            go_roundw
            case rel => exact ⟨k + 1, by omega, by go_num, rfl, Hok'.out, H4.out⟩
            case measure => simp [intOf]; omega
      · obtain rfl : k = g + 1 := by omega
        go_wp2
        go_ret2
        refine ⟨hs.bel, .inr ⟨?_, _, _, _, rfl, ?_⟩⟩
        · unfold placesB
          rw [Hok.out, decide_eq_true (by rw [Hn.out]; rfl)]
          rfl
        · have := hs.own
          rw [Nat.sub_self, List.replicate_zero, List.append_nil] at this
          exact this
  · have hne : (((n : Nat) : Int) != ((g : Int) + 1) * 2) = true := by
      rw [bne_iff_ne]
      omega
    go_enter Try.func30, Try.ntmps30
    go_wp2_with fail
    refine (placeSize_any false _).mono ?_
    rintro e w' ⟨rfl, rfl⟩
    rw [show ((eachB false : Nat) : Int) = 2 from rfl]
    go_wp2
    go_ret2
    refine ⟨Below.refl _ _, .inl ⟨?_, rfl⟩⟩
    unfold placesB
    rw [decide_eq_false (by rw [Hn.out]; exact hlen)]
    rfl

set_option maxRecDepth 100000 in
set_option maxHeartbeats 1000000 in
theorem locaParse_true (A : Option Addr) (n c : Nat) (zs : List Int) (g : Nat) (size : Int) (w : World) (hr : Row w A n (cellsOf .u8 zs)) (hB : Bytes zs) (hn : n ≤ 140737488351232) (hg : g < 65536) :
    Calls Try.prog 30 #[.slice A n c, .bool true, .int .u16 g, .int .i64 size] w (RetPl w (placesB true zs g size) (pls true zs (g + 1)) (.int .i64 2) (.int .i64 0)) := by
  obtain ⟨i0, hi, hz0, hz1, hz2⟩ := info_parts Try.i64info
  have Hn := Lib.hid hr.len
  have HB := Lib.hid hB
  clear hB
  by_cases hlen : n = (g + 1) * 4
  · subst hlen
    have hne : (((((g + 1) * 4 : Nat) : Int)) != ((g : Int) + 1) * 4) = false := by simp
    go_enter Try.func30, Try.ntmps30
    go_wp2_with fail
    refine (placeSize_any true _).mono ?_
    rintro e w' ⟨rfl, rfl⟩
    rw [show ((eachB true : Nat) : Int) = 4 from rfl]
    go_wp2_with fail
    refine (new_any _ _ _ zs _ hr (by omega)).mono ?_
    rintro e w1 ⟨b, rfl, hrd, hb⟩
    clear hne hr
    have hlt1 := hrd.lt
    go_wp2_with (at_make; refine wpList_make_ints rfl (.tmp 28) (.tmp 28) _ rfl 3 .i64 w.heap.size i0 8 Try.underlying62 hi hz0 hz1 hz2 _ _ (g + 1) (g + 1) rfl rfl (by omega) (by omega) (Nat.le_refl _) (by omega) (by omega) hb.size ?_; intro w2 hown2 hg2)
    have hs : LP w w2 b zs (4 * 0) w1.heap.size (g + 1) (pls true zs 0 ++ List.replicate (g + 1 - 0) 0) :=
      ⟨(RdQ.new hrd).keep hg2.size (fun q hq _ _ => hg2.block q hq (by simp)), hown2, by omega, hb.grown hg2 hb.size (fun k e => by cases e)⟩
    clear hown2 hg2 hrd hb
    generalize w1.heap.size = gp at *
    go_loopw [13, 31] (fun l i wr => ∃ k : Nat, k ≤ g + 1 ∧ i = .int .i64 k ∧ l = .int .i64 (prv true zs k) ∧ okPls true zs size k = true ∧ LP w wr b zs (4 * k) gp (g + 1) (pls true zs k ++ List.replicate (g + 1 - k) 0)) (fun _ i _ => g + 1 - (intOf i).toNat)
    case atStart => exact ⟨0, Nat.zero_le _, rfl, rfl, rfl, hs⟩
    case round =>
      clear hs hlt1
      obtain ⟨k, hk, rfl, rfl, hok, hs⟩ := hrel
      have Hok := Lib.hid hok
      clear hok
      obtain ⟨p0, p1⟩ := prv_bd (long := true) HB.out k
      obtain ⟨q0, q1⟩ := plc_bd (long := true) HB.out k
      by_cases hlt : k < g + 1
      · go_wp2_with fail
        refine (readPlace_any true (i := k) hs.rd HB.out (by have := Hn.out; omega)).mono ?_
        rintro e w3 ⟨rfl, hr3, hg3⟩
        have hs3 := hs.ask hr3 hg3
        clear hs hr3 hg3
        by_cases h1 : plc true zs k < prv true zs k
        · go_wp2
          go_ret2
          refine ⟨hs3.bel, .inl ⟨?_, rfl⟩⟩
          unfold placesB
          rw [okPls_mono (k + 1) (g + 1) (by rw [okPls, decide_eq_false (by omega)]; simp) (by omega)]
          simp
        · by_cases h2 : size < plc true zs k
          · go_wp2
            go_ret2
            refine ⟨hs3.bel, .inl ⟨?_, rfl⟩⟩
            unfold placesB
            rw [okPls_mono (k + 1) (g + 1) (by rw [okPls, decide_eq_false (by omega)]; simp) (by omega)]
            simp
          · have hok' : okPls true zs size (k + 1) = true := by rw [okPls, Hok.out, decide_eq_true (by omega)]; rfl
            have Hok' := Lib.hid hok'
            have hs4 := hs3.set k (plc true zs k)
            rw [pls_set (g + 1) k hlt] at hs4
            have H4 := Lib.hid hs4
            obtain ⟨z, hz⟩ : ∃ z, (pls true zs k ++ List.replicate (g + 1 - k) 0)[k]? = some z := ⟨_, List.getElem?_eq_getElem (by simp [pls_len]; omega)⟩
            obtain ⟨gg, off, e', _, hc⟩ := hs3.own.row.at (cellsOf_get (k := .i64) hz)
            simp only [Option.some.injEq, Addr.mk.injEq, and_true] at e'
            obtain ⟨rfl, rfl⟩ := e'
            have f0 := hs3.own.thaw k
            rw [Nat.zero_add] at hc
            clear hok' hs4 hs3 hz
            go_wp2
            go_roundw
            case rel => exact ⟨k + 1, by omega, by go_num, rfl, Hok'.out, H4.out⟩
            case measure => simp [intOf]; omega
      · obtain rfl : k = g + 1 := by omega
        go_wp2
        go_ret2
        refine ⟨hs.bel, .inr ⟨?_, _, _, _, rfl, ?_⟩⟩
        · unfold placesB
          rw [Hok.out, decide_eq_true (by rw [Hn.out]; rfl)]
          rfl
        · have := hs.own
          rw [Nat.sub_self, List.replicate_zero, List.append_nil] at this
          exact this
  · have hne : (((n : Nat) : Int) != ((g : Int) + 1) * 4) = true := by
      rw [bne_iff_ne]
      omega
    go_enter Try.func30, Try.ntmps30
    go_wp2_with fail
    refine (placeSize_any true _).mono ?_
    rintro e w' ⟨rfl, rfl⟩
    rw [show ((eachB true : Nat) : Int) = 4 from rfl]
    go_wp2
    go_ret2
    refine ⟨Below.refl _ _, .inl ⟨?_, rfl⟩⟩
    unfold placesB
    rw [decide_eq_false (by rw [Hn.out]; exact hlen)]
    rfl

theorem locaParse_any (A : Option Addr) (n c : Nat) (zs : List Int) (long : Bool) (g : Nat) (size : Int) (w : World) (hr : Row w A n (cellsOf .u8 zs)) (hB : Bytes zs) (hn : n ≤ 140737488351232) (hg : g < 65536) :
    Calls Try.prog 30 #[.slice A n c, .bool long, .int .u16 g, .int .i64 size] w (RetPl w (placesB long zs g size) (pls long zs (g + 1)) (.int .i64 2) (.int .i64 0)) := by
  cases long
  · exact locaParse_false A n c zs g size w hr hB hn hg
  · exact locaParse_true A n c zs g size w hr hB hn hg

end Go.Proofs.Ytmbncdhpfhlobaa
