/- The laws HmtxBuilds and HmtxParses. -/
import Derived.Test.YtmbncdhpfhlobaaHmtxFew
import Derived.Test.YtmbncdhpfhlobaaHmtxRP
namespace Go.Proofs.Ytmbncdhpfhlobaa
open Go.RowKit
set_option linter.unusedVariables false

/-- Metrics, the program's and the document's. -/
structure FS (w wr : World) (A : Option Addr) (n : Nat) (A' : Option Addr) (l : List Mt) : Prop where
  rm : RowS encM 2 wr A n l
  rr : RowS encR 2 wr A' n l
  bel : Below w.heap.size w wr

section
variable {w wr w' : World} {A A' : Option Addr} {n : Nat} {l : List Mt}
theorem FS.below (h : FS w wr A n A' l) (hb : Below wr.heap.size wr w') : FS w w' A n A' l := ⟨h.rm.below hb, h.rr.below hb, h.bel.trans (hb.mono h.bel.size)⟩
theorem FS.drewN (h : FS w wr A n A' l) (q : Nat) : FS w (wr.drewN q) A n A' l := ⟨h.rm, h.rr, below_drewN h.bel q⟩
end

/-- Reading what was built. -/
theorem hparse_back (A : Option Addr) (n c : Nat) (l : List Mt) (L m : Nat) (w : World) (hr : Row w A n (cellsOf .u8 (bytesK l L m))) (hm : l.length = m) (hback : mets (bytesK l L m) L m = l) (h0 : 0 < L) (hL : L ≤ m) (hg : m < 65536) :
    Calls Try.prog 20 #[.slice A n c, .int .u16 L, .int .u16 m] w (RetMs 41 encM w m l (.int .i64 0)) := by
  have h := hparse_ok A n c (bytesK l L m) L m w hr (bytesK_bytes l L m) h0 hL hg (by rw [← hr.len, bytesK_len, posM_all L m hL]; omega)
  rw [hback] at h
  exact h

set_option maxRecDepth 100000 in
set_option maxHeartbeats 2000000 in
theorem law_HmtxBuilds (A : Option Addr) (n0 c : Nat) (l0 : List Mt) (w : World) (hr : RowS encM 2 w A n0 l0) (hok : OkM l0) (hn : n0 ≤ 9223372036854775807) (hcap : n0 ≤ c) :
    Calls Try.prog 3 #[.slice A n0 c] w (True_ w) := by
  have Hok := Lib.hid (okM_take hok 60)
  go_enter Try.func3, Try.ntmps3
  go_wp2_with fail
  refine (awake7_any w).mono ?_
  rintro e w0 ⟨rfl, hb0⟩
  go_wp2_with fail
  refine (few7_any _ _ _ l0 _ (hr.below hb0) hok hn hcap).mono ?_
  rintro e w1 ⟨A1, n, c1, A2, c2, rfl, om, or_, hb1⟩
  have hs : FS w w1 A1 n A2 (l0.take 60) := ⟨om.row encM_len, or_.row encR_len, hb0.trans (hb1.mono hb0.size)⟩
  have hc1 := om.cap
  have hc2 := or_.cap
  have hn60 : n ≤ 60 := by have := om.len; rw [List.length_take] at this; omega
  have Hn := Lib.hid om.len
  clear om or_ hb1 hb0 hr hok hn hcap
  generalize l0.take 60 = l at *
  have hL := longL_le l
  rw [Hn.out] at hL
  have HB := Lib.hid (fun h => mets_long l Hok.out h)
  have HW := Lib.hid (fun h => mets_whole l Hok.out h)
  have HP := Lib.hid (longL_pos l)
  rw [Hn.out] at HB HW HP
  have hbu := Lib.hid (hbuild_any A1 n c1 l w1 hs.rm (by omega) Hok.out)
  have hlo := Lib.hid (fun V => fun (h : RowS encM 2 V A1 n l) => hlong_any A1 n c1 l V h (by omega))
  have hrl := Lib.hid (fun V => fun (h : RowS encR 2 V A2 n l) => rlong_any A2 n c2 l V h (by omega) hc2)
  go_wp2_with fail
  refine hbu.out.mono ?_
  rintro e w2 ⟨A3, n3, c3, rfl, o3, hb2⟩
  have hs2 := hs.below hb2
  have rp := o3.row
  have hz0 : n = 0 → longL l = 0 := fun h => by have := longL_le l; have := Hn.out; omega
  have HZ := Lib.hid hz0
  rw [Hn.out] at rp
  generalize hLL : longL l = L at *
  have HLL := Lib.hid hLL
  have hn3 : n3 ≤ 300 := by have h := rp.len; rw [bytesK_len] at h; have := posM_le L n; omega
  clear hs o3 hb2 hbu hLL hz0
  go_wp2_with fail
  refine (hrl.out _ hs2.rr).mono ?_
  rintro e w3 ⟨rfl, hb3⟩
  have hs3 := hs2.below hb3
  have rp3 := rp.below hb3
  clear hs2 rp hb3
  go_wp2_with fail
  refine (hlo.out _ hs3.rm).mono ?_
  rintro e w4 ⟨rfl, q, rfl⟩
  have hs4 := hs3.drewN q
  have rp4 := rp3.drewN q
  generalize w3.drewN q = w4 at *
  clear hs3 rp3
  go_wp2_with fail
  with_reducible refine (rbytes7_any _ _ _ l L _ hs4.rr (by omega) Hok.out).mono ?_
  rintro e w5 ⟨A5, n5, c5, rfl, o5, hb5⟩
  rw [Hn.out] at o5
  have hs5 := hs4.below hb5
  have rp5 := rp4.below hb5
  have r5 := o5.row
  have hn5 : n5 ≤ 300 := by have h1 := r5.len; have h2 := rp5.len; omega
  clear hs4 rp4 o5 hb5
  go_wp2_with fail
  with_reducible refine (same_any _ _ _ _ _ _ _ _ _ rp5 r5 (by omega) (by omega)).mono ?_
  rintro e w6 ⟨rfl, q, rfl⟩
  rw [sameB_refl]
  have hs6 := hs5.drewN q
  have rp6 := rp5.drewN q
  generalize w5.drewN q = w6 at *
  clear hs5 rp5 r5
  by_cases hz : n = 0
  · have hL0 : L = 0 := HZ.out hz
    subst hz hL0
    go_wp2
    go_ret
    exact ⟨rfl, hs6.bel⟩
  · have hz' : ((n : Int) == 0) = false := by simp [hz]
    have hLp : 0 < L := HP.out (by omega)
    go_wp2_with fail
    with_reducible refine (hparse_back _ _ _ l L n _ rp6 Hn.out (HB.out (by omega)) hLp hL (by omega)).mono ?_
    rintro e w7 ⟨A7, c7, rfl, o7, hb7⟩
    have hs7 := hs6.below hb7
    have r7 := o7.row encM_len
    clear hs6 o7 hb7 rp6
    go_wp2_with fail
    with_reducible refine (rbytes7_any _ _ _ l n _ hs7.rr (by omega) Hok.out).mono ?_
    rintro e w8 ⟨A8, n8, c8, rfl, o8, hb8⟩
    rw [Hn.out] at o8
    have hs8 := hs7.below hb8
    have r78 := r7.below hb8
    have r8 := o8.row
    clear hs7 r7 o8 hb8
    go_wp2_with fail
    with_reducible refine (hparse_back _ _ _ l n n _ r8 Hn.out (HW.out (by omega)) (by omega) (Nat.le_refl _) (by omega)).mono ?_
    rintro e w9 ⟨A9, c9, rfl, o9, hb9⟩
    have hs9 := hs8.below hb9
    have r79 := r78.below hb9
    have r9 := o9.row encM_len
    clear hs8 r78 r8 o9 hb9
    go_wp2_with fail
    with_reducible refine (equalM_any _ _ _ _ _ _ _ _ _ r79 hs9.rm (by omega) (by omega)).mono ?_
    rintro e w10 ⟨rfl, q1, rfl⟩
    rw [sameM_refl]
    have hs10 := hs9.drewN q1
    have r910 := r9.drewN q1
    generalize w9.drewN q1 = w10 at *
    clear hs9 r9 r79
    go_wp2_with fail
    with_reducible refine (equalM_any _ _ _ _ _ _ _ _ _ r910 hs10.rm (by omega) (by omega)).mono ?_
    rintro e w11 ⟨rfl, q2, rfl⟩
    rw [sameM_refl]
    go_wp2
    go_ret
    exact ⟨rfl, below_drewN hs10.bel q2⟩

set_option maxRecDepth 100000 in
set_option maxHeartbeats 2000000 in
theorem law_HmtxParses (A : Option Addr) (n c : Nat) (zs : List Int) (L g : Nat) (w : World) (hr : Row w A n (cellsOf .u8 zs)) (hB : Bytes zs) (hn : n ≤ 9223372036854775807) (hL : L < 65536) (hg : g < 65536) :
    Calls Try.prog 4 #[.slice A n c, .int .u16 L, .int .u16 g] w (True_ w) := by
  have HB : Hid (Bytes (zs.take (100 : Int).toNat)) := fun x hx => hB x (List.mem_of_mem_take hx)
  clear hB
  go_enter Try.func4, Try.ntmps4
  go_wp2_with fail
  refine (awake7_any w).mono ?_
  rintro e w0 ⟨rfl, hb0⟩
  go_wp2_with fail
  refine (cut_any _ _ _ zs 100 _ (hr.below hb0) hn (by omega)).mono ?_
  rintro e w1 ⟨A1, n1, k1, rfl, hown, hb1'⟩
  have hb1 : Below w.heap.size w w1 := hb0.trans (hb1'.mono hb0.size)
  have hl1 : n1 ≤ 100 := by have := hown.len; rw [List.length_take] at this; simp at this; omega
  have hrow1 := hown.row
  clear hb1' hb0 hr hn hown
  generalize zs.take (100 : Int).toNat = ps at *
  by_cases hbad : L = 0 ∨ g < L
  · go_wp2_with fail
    refine (hparse_arg A1 n1 k1 L g _ hbad).mono ?_
    rintro e w' ⟨rfl, rfl⟩
    by_cases h1 : L = 0
    · subst h1
      clear hbad
      go_wp2
      go_ret
      exact ⟨rfl, hb1⟩
    · have e0 : ((L : Int) == 0) = false := by simp; omega
      have h2 : g < L := by omega
      clear hbad h1
      go_wp2
      go_ret
      exact ⟨rfl, hb1⟩
  · have h0 : 0 < L := by omega
    have hLg : L ≤ g := by omega
    have e0 : ((L : Int) == 0) = false := by simp; omega
    clear hbad
    by_cases hlen : n1 = 2 * (L + g)
    · have Hlen := Lib.hid hlen
      have hg50 : g ≤ 50 := by omega
      clear hlen
      go_wp2_with fail
      with_reducible refine (hparse_ok A1 n1 k1 ps L g _ hrow1 HB.out h0 hLg hg Hlen.out).mono ?_
      rintro e w2 ⟨A2, c2, rfl, o2, hb2⟩
      have hrow2 := hrow1.below hb2
      have hbw2 : Below w.heap.size w w2 := hb1.trans (hb2.mono hb1.size)
      have r2 := o2.row encM_len
      have hcap2 := o2.cap
      clear o2 hb2 hb1 hrow1
      have hP := Lib.hid (rparse7_ok A1 n1 k1 ps L g w2 hrow2 HB.out h0 hLg hg (by have := Hlen.out; omega))
      have hOk := Lib.hid (mets_ok HB.out L g)
      have HLn := Lib.hid (mets_len ps L g)
      clear hrow2
      go_wp2_with fail
      refine hP.out.mono ?_
      rintro e w3 ⟨A3, c3, rfl, o3, hb3⟩
      have hbw3 : Below w.heap.size w w3 := hbw2.trans (hb3.mono hbw2.size)
      have r23 := r2.below hb3
      have r3 := o3.row encR_len
      have hcap3 := o3.cap
      clear o3 hb3 hbw2 r2 hP
      generalize mets ps L g = l at *
      go_wp2_with fail
      refine (few7_any _ _ _ l _ r23 hOk.out (by omega) hcap2).mono ?_
      rintro e w4 ⟨A4, n4, c4, A5, c5, rfl, o4, o5, hb4⟩
      have hn4 : n4 = g := by rw [← o4.len, List.take_of_length_le (by have := HLn.out; omega)]; exact HLn.out
      rw [List.take_of_length_le (by have := HLn.out; omega)] at o5
      subst hn4
      have r5 := o5.row encR_len
      have r34 := r3.below hb4
      have hbw4 : Below w.heap.size w w4 := hbw3.trans (hb4.mono hbw3.size)
      clear o4 o5 hb4 hbw3 r23 r3
      have hmin : min (n4 : Int) 60 = (n4 : Int) := by omega
      go_wp2_with fail
      with_reducible refine (equalR_any _ _ _ _ _ _ _ _ _ r5 r34 (by omega) (by omega)).mono ?_
      rintro e w5 ⟨rfl, q, rfl⟩
      rw [sameM_refl]
      go_wp2
      go_ret
      exact ⟨rfl, below_drewN hbw4 q⟩
    · have hF := Lib.hid (hparse_form A1 n1 k1 L g w1 h0 hLg hg (by omega) hlen)
      have hP := Lib.hid (rparse7_no A1 n1 k1 L g w1 hL hg (by omega) (by omega))
      clear hlen
      go_wp2_with fail
      with_reducible refine hF.out.mono ?_
      rintro e w' ⟨rfl, rfl⟩
      go_wp2_with fail
      refine hP.out.mono ?_
      rintro e w' ⟨rfl, rfl⟩
      go_wp2
      go_ret
      exact ⟨rfl, hb1⟩

theorem law_HmtxParsesI (A : Option Addr) (n c : Nat) (zs : List Int) (L g : Int) (w : World) (hr : Row w A n (cellsOf .u8 zs)) (hB : Bytes zs) (hn : n ≤ 9223372036854775807) (l0 : 0 ≤ L) (l1 : L < 65536) (g0 : 0 ≤ g) (g1 : g < 65536) :
    Calls Try.prog 4 #[.slice A n c, .int .u16 L, .int .u16 g] w (True_ w) := by
  obtain ⟨g, rfl⟩ := Int.eq_ofNat_of_zero_le g0
  obtain ⟨L, rfl⟩ := Int.eq_ofNat_of_zero_le l0
  exact law_HmtxParses A n c zs L g w hr hB hn (by omega) (by omega)

end Go.Proofs.Ytmbncdhpfhlobaa
