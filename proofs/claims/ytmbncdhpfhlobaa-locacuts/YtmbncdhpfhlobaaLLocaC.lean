/- The law LocaCuts. -/
import Derived.Test.YtmbncdhpfhlobaaLLocaB
import Derived.Test.YtmbncdhpfhlobaaLocaC
import Derived.Test.YtmbncdhpfhlobaaBssOpen
import Derived.Deep.RegionHeld3
import Derived.Deep.DeepCutAuto
namespace Go.Proofs.Ytmbncdhpfhlobaa
open Go.RowKit
set_option linter.unusedVariables false

/-- The first twelve glyphs, each cut at forty bytes; how long they are. -/
def cuts (gl : List BsV) (k : Nat) : List (List Int) := ((gl.take k).take 12).map fun p => p.ys.take (40 : Int).toNat
def lens (cs : List (List Int)) : List Int := cs.map fun c => (c.length : Int)

theorem cuts_snoc (gl : List BsV) (k : Nat) (p : BsV) (hp : gl[k]? = some p) (hk : k < 12) : cuts gl (k + 1) = cuts gl k ++ [p.ys.take (40 : Int).toNat] := by
  have h : k < gl.length := (List.getElem?_eq_some_iff.1 hp).1
  unfold cuts
  rw [List.take_take, List.take_take, Nat.min_eq_right (by omega), Nat.min_eq_right (by omega), List.take_add_one, hp]
  simp
theorem cuts_same (gl : List BsV) (k : Nat) (hk : 12 ≤ k) : cuts gl (k + 1) = cuts gl k := by
  unfold cuts
  rw [List.take_take, List.take_take, Nat.min_eq_left (by omega), Nat.min_eq_left (by omega)]
theorem cuts_len (gl : List BsV) (k : Nat) : (cuts gl k).length ≤ 12 := by unfold cuts; simp; omega
theorem cuts_mem (gl : List BsV) (k : Nat) : ∀ c ∈ cuts gl k, c.length ≤ 40 := by
  intro c hc
  unfold cuts at hc
  obtain ⟨p, _, rfl⟩ := List.mem_map.1 hc
  rw [List.length_take]
  omega
theorem cuts_get (gl : List BsV) (k j : Nat) (c : List Int) (h : (cuts gl k)[j]? = some c) : ∃ p, gl[j]? = some p ∧ p.ys.take (40 : Int).toNat = c := by
  unfold cuts at h
  rw [List.getElem?_map] at h
  obtain ⟨p, hp, rfl⟩ := Option.map_eq_some_iff.1 h
  rw [List.take_take, List.getElem?_take] at hp
  split at hp
  · exact ⟨p, hp, rfl⟩
  · cases hp
theorem lens_sum (cs : List (List Int)) : sumI (lens cs) = (cs.flatten.length : Int) := by
  induction cs with
  | nil => rfl
  | cons c cs ih => simp only [lens, List.map_cons, sumI_cons, List.flatten_cons, List.length_append] at *; rw [ih]; omega
theorem lens_take (cs : List (List Int)) (k : Nat) : (lens cs).take k = lens (cs.take k) := by simp [lens, List.map_take]
theorem flat_le (cs : List (List Int)) (h : ∀ c ∈ cs, c.length ≤ 40) : cs.flatten.length ≤ 40 * cs.length := by
  induction cs with
  | nil => simp
  | cons c cs ih =>
    have h1 := h c (by simp)
    have h2 := ih (fun d hd => h d (List.mem_cons_of_mem _ hd))
    rw [List.flatten_cons, List.length_append, List.length_cons]
    omega
theorem lens_ok (cs : List (List Int)) (h : ∀ c ∈ cs, c.length ≤ 40) (hl : cs.length ≤ 12) : okS 0 (lens cs) = true := by
  refine okS_of _ 0 (fun x hx => ?_) ?_
  · obtain ⟨c, _, rfl⟩ := List.mem_map.1 hx
    omega
  · rw [lens_sum]
    have := flat_le cs h
    omega
/-- What is cut out is the glyph that was put there. -/
theorem cut_back (cs : List (List Int)) (j : Nat) (c : List Int) (h : cs[j]? = some c) : cutL cs.flatten (scan 0 (lens cs)) j = c := by
  have hj : j < cs.length := (List.getElem?_eq_some_iff.1 h).1
  have hl : (lens cs)[j]? = some (c.length : Int) := by simp [lens, h]
  obtain ⟨a, h1, h2, ha⟩ := scan_step (lens cs) j _ hl
  rw [cutL_at _ _ _ _ _ h1 h2]
  rw [lens_take, lens_sum] at ha
  have hs : cs = cs.take j ++ (c :: cs.drop (j + 1)) := by
    have e : cs[j] = c := by rw [List.getElem?_eq_getElem hj] at h; exact Option.some.inj h
    have := (List.take_append_drop j cs).symm
    rw [List.drop_eq_getElem_cons hj, e] at this
    exact this
  have hf : cs.flatten = (cs.take j).flatten ++ (c ++ (cs.drop (j + 1)).flatten) := by
    conv => lhs; rw [hs]
    simp
  have hlen : cs.flatten.length = (cs.take j).flatten.length + (c.length + ((cs.drop (j + 1)).flatten).length) := by rw [hf]; simp
  rw [if_pos (by omega), ha, Int.toNat_natCast, show ((((cs.take j).flatten.length : Int)) + (c.length : Int)).toNat - (cs.take j).flatten.length = c.length by omega, hf, List.drop_append_of_le_length (Nat.le_refl _), List.drop_length, List.nil_append, List.take_append_of_le_length (Nat.le_refl _), List.take_length]

theorem cut_a (zs : List Int) : cutL zs [5, 3] 0 = [] := by simp [cutL]
theorem cut_b : cutL [] [0, 1099511627776] 0 = [] := by simp [cutL]
theorem cut_c (zs : List Int) : cutL zs [-1, 0] 0 = [] := by simp [cutL]

/-- What stands while glyphs are cut out. -/
structure CS (w wr : World) (Ad : Option Addr) (nd : Nat) (ds : List Int) (Ap : Option Addr) (np : Nat) (ps : List Int) (Ag : Option Addr) (ng : Nat) (gl : List BsV) : Prop where
  dat : Row wr Ad nd (cellsOf .u8 ds)
  pls : Row wr Ap np (cellsOf .i64 ps)
  gly : Row wr Ag ng (gl.map BsV.val)
  oks : ∀ p ∈ gl, p.ok wr
  bel : Below w.heap.size w wr

section
variable {w wr w' : World} {Ad Ap Ag : Option Addr} {nd np ng : Nat} {ds ps : List Int} {gl : List BsV}
theorem CS.below (h : CS w wr Ad nd ds Ap np ps Ag ng gl) (hb : Below wr.heap.size wr w') : CS w w' Ad nd ds Ap np ps Ag ng gl :=
  ⟨h.dat.below hb, h.pls.below hb, h.gly.below hb, fun p hp => Row.below (h.oks p hp) hb, h.bel.trans (hb.mono h.bel.size)⟩
theorem CS.drewN (h : CS w wr Ad nd ds Ap np ps Ag ng gl) (q : Nat) : CS w (wr.drewN q) Ad nd ds Ap np ps Ag ng gl := ⟨h.dat, h.pls, h.gly, h.oks, below_drewN h.bel q⟩
theorem CS.drew (h : CS w wr Ad nd ds Ap np ps Ag ng gl) : CS w wr.drew Ad nd ds Ap np ps Ag ng gl := ⟨h.dat, h.pls, h.gly, h.oks, h.bel.drew⟩
theorem CS.cell {g off : Nat} (h : CS w wr Ad nd ds Ap np ps (some ⟨g, off, none⟩) ng gl) {j : Nat} {p : BsV} (hp : gl[j]? = some p) : wr.cell? ⟨g, off + j, none⟩ = some p.val := by
  obtain ⟨g', off', e, _, hc⟩ := h.gly.at (j := j) (u := p.val) (by simp [hp])
  simp only [Option.some.injEq, Addr.mk.injEq, and_true] at e
  obtain ⟨rfl, rfl⟩ := e
  exact hc
end

set_option maxRecDepth 100000 in
set_option maxHeartbeats 4000000 in
theorem law_LocaCuts (A : Option Addr) (n c : Nat) (gl : List BsV) (i : Int) (w : World) (hP : PartsOf w A n gl) :
    Calls Try.prog 10 #[.slice A n c, .int .i64 i] w (True_ w) := by
  obtain ⟨i0, hi, hz0, hz1, hz2⟩ := info_parts Try.i64info
  obtain ⟨hr, hn, hps⟩ := hP
  have Hn : Hid (gl.length = n) := by have := hr.1; rw [List.length_map] at this; exact this
  have HP := Lib.hid hps
  clear hps
  go_enter Try.func10, Try.ntmps10
  go_wp2_with fail
  refine (awake8_any w).mono ?_
  rintro e w0 ⟨rfl, hb0⟩
  have hr0 := hr.below hb0
  have HP0 : Hid (∀ p ∈ gl, p.ok w0) := fun p hp => Row.below (HP.out p hp).1 hb0
  have HPn : Hid (∀ p ∈ gl, p.n ≤ 9223372036854775807) := fun p hp => (HP.out p hp).2.2
  clear hr HP
  go_wp2
  go_loopw [5, 6, 18] (fun v s i wr => ∃ (k : Nat) (A2 : Option Addr) (n2 c2 : Nat) (A3 : Option Addr) (n3 c3 : Nat), k ≤ n ∧ i = .int .i64 k ∧ v = .slice A2 n2 c2 ∧ s = .slice A3 n3 c3 ∧ OwnB wr w0.heap.size A2 n2 c2 (cuts gl k).flatten ∧ Own 3 .i64 wr w0.heap.size A3 n3 c3 (lens (cuts gl k)) ∧ Below w0.heap.size w0 wr) (fun _ _ i _ => n - (intOf i).toNat)
  case atStart => exact ⟨0, none, 0, 0, none, 0, 0, Nat.zero_le _, rfl, rfl, rfl, Own.nil _ _ _ _, Own.nil _ _ _ _, Below.refl _ _⟩
  case round =>
    obtain ⟨k, A2, n2, c2, A3, n3, c3, hk, rfl, rfl, rfl, hdat, hsz, hbel⟩ := hrel
    have hn3 : n3 ≤ 12 := by have h := hsz.len; unfold lens at h; rw [List.length_map] at h; have := cuts_len gl k; omega
    have hn2 : n2 ≤ 480 := by have h := hdat.len; have := flat_le _ (cuts_mem gl k); have := cuts_len gl k; omega
    by_cases hlt : k < n
    · obtain ⟨p, hp⟩ : ∃ p, gl[k]? = some p := ⟨gl[k]'(by have := Hn.out; omega), List.getElem?_eq_getElem (by have := Hn.out; omega)⟩
      obtain ⟨g, off, rfl, hg, hc⟩ := (hr0.below hbel).at (j := k) (u := p.val) (by simp [hp])
      by_cases hk12 : k < 12
      · have HF := Lib.hid (cuts_snoc gl k p hp hk12)
        have hpr : Row wr p.A p.n (cellsOf .u8 p.ys) := (show Row w0 p.A p.n _ from HP0.out p (List.mem_of_getElem? hp)).below hbel
        have hpn := HPn.out p (List.mem_of_getElem? hp)
        clear hp
        obtain ⟨pA, pn, pc, pys⟩ := p
        simp only [BsV.val] at hc hpr hpn HF
        go_wp2_with fail
        with_reducible refine (cut_any _ _ _ pys 40 _ hpr hpn (by omega)).mono ?_
        rintro e w1 ⟨A4, n4, c4, rfl, hown4, hb4⟩
        have hn4 : n4 ≤ 40 := by have h := hown4.len; rw [List.length_take] at h; simp at h; omega
        have HL4 := Lib.hid hown4.len
        have hdat1 := hdat.below hb4
        have hsz1 := hsz.below hb4
        have hbel1 : Below w0.heap.size w0 w1 := hbel.trans (hb4.mono hbel.size)
        have hrow4 := hown4.row
        have HL2 := Lib.hid hdat1.len
        clear hown4 hb4 hdat hsz hbel hc hpr
        go_wp2_with fail
        with_reducible refine (join2_any w1 _ A2 A4 n2 c2 n4 c4 _ _ rfl hdat1.row hrow4 (by have := HL2.out; have := HL4.out; omega)).mono ?_
        rintro e w2 ⟨A5, n5, c5, rfl, hown5, hb5⟩
        have hsz2 := hsz1.below hb5
        have hbel2 : Below w0.heap.size w0 w2 := hbel1.trans (hb5.mono hbel1.size)
        have hF2 : (cuts gl k).flatten ++ pys.take (40 : Int).toNat = (cuts gl (k + 1)).flatten := by rw [HF.out]; simp
        have hF3 : lens (cuts gl (k + 1)) = lens (cuts gl k) ++ [(n4 : Int)] := by rw [HF.out, ← HL4.out]; simp [lens]
        have HF2 := Lib.hid hF2
        have HF3 := Lib.hid hF3
        clear hF2 hF3
        rw [HF2.out] at hown5
        have hsw : w0.heap.size ≤ w2.heap.size := hbel2.size
        have hs1 := hbel1.size
        have Hne : Hid (∀ q, blockOf A3 = some q → q < w1.heap.size) := fun q e => (hsz1.from_ q e).2
        clear hdat1 hsz1 hrow4 hb5 hbel1
        go_wp2_with (at_builtin; refine wpList_append_row rfl (.tmp 31) (.tmp 34) _ rfl 3 .i64 w0.heap.size i0 8 Try.underlying62 hi hz0 hz1 hz2 A3 n3 c3 _ rfl (hsz2.alloc _) (some ⟨w2.heap.size, 0, none⟩) 1 1 [(n4 : Int)] rfl (row_one _ _ _ _) (by omega) (by omega) (by simp; omega) ?_)
        intro A6 c6 w3 hown6 hg6
        rw [← HF3.out] at hown6
        have hbel3 : Below w0.heap.size w0 w3 := (hbel2.alloc hsw _).grown hg6 (by simp; omega) (fun q e => (hsz2.from_ q e).1)
        have hdat3 : OwnB w3 w0.heap.size A5 n5 c5 (cuts gl (k + 1)).flatten := ((hown5.alloc _).grown hg6 (fun q e h => by have h1 := ((hown5.from_ q e).1); have h2 := Hne.out q h.symm; omega)).mono hs1
        clear hown5 hg6 hsz2 hbel2
        go_wp2
        go_roundw
        case rel => exact ⟨k + 1, A5, n5, c5, A6, n3 + 1, c6, by omega, by go_num, rfl, rfl, hdat3, hown6, hbel3⟩
        case measure => simp [intOf]; omega
      · have HF := Lib.hid (cuts_same gl k (by omega))
        clear hp
        go_wp2
        go_roundw
        case rel => exact ⟨k + 1, A2, n2, c2, A3, n3, c3, by omega, by go_num, rfl, rfl, by rw [HF.out]; exact hdat, by rw [HF.out]; exact hsz, hbel⟩
        case measure => simp [intOf]; omega
    · have HCM := Lib.hid (cuts_mem gl k)
      have HCL := Lib.hid (cuts_len gl k)
      have HCG : Hid (∀ j c, (cuts gl k)[j]? = some c → ∃ p : BsV, gl[j]? = some p ∧ p.ys.take (40 : Int).toNat = c) := fun j c h => cuts_get gl k j c h
      have hbw : Below w.heap.size w wr := hb0.trans (hbel.mono hb0.size)
      have hcs : CS w wr A2 n2 (cuts gl k).flatten A3 n3 (lens (cuts gl k)) A n gl := ⟨hdat.row, hsz.row, hr0.below hbel, fun p hp => Row.below (HP0.out p hp) hbel, hbw⟩
      have hcap := hdat.cap
      have Hl2 := Lib.hid hdat.len
      have Hl3 : Hid (n3 = (cuts gl k).length) := by have := hsz.len; unfold lens at this; rw [List.length_map] at this; exact this.symm
      clear hdat hsz hb0 hr0 hbel hbw HP0
      generalize cuts gl k = cs at *
      have Hok := Lib.hid (lens_ok cs HCM.out HCL.out)
      go_wp2_with fail
      with_reducible refine (locaBuild_ok _ _ _ (lens cs) _ hcs.pls (by omega) Hok.out).mono ?_
      rintro e w3 ⟨A4, n4, c4, rfl, hown4, hb4⟩
      have hcs4 := hcs.below hb4
      have hrow4 := hown4.row
      clear hcs hown4 hb4
      go_wp2_with fail
      with_reducible refine (parse_built _ _ _ n3 (lens cs) n2 _ hrow4 Hok.out (by rw [Hl3.out]; simp [lens]) (by omega) (by rw [lens_sum, Hl2.out]; exact Int.le_refl _)).mono ?_
      rintro e w5 ⟨A5, c5, rfl, hown5, hb5⟩
      have hcs5 := hcs4.below hb5
      have hs : CS w w5 A2 n2 cs.flatten A5 (n3 + 1) (scan 0 (lens cs)) A n gl := ⟨hcs5.dat, hown5.row, hcs5.gly, hcs5.oks, hcs5.bel⟩
      clear hcs4 hcs5 hown5 hb5 hrow4
      go_wp2
      go_loopw [57] (fun i wr => ∃ j : Nat, j ≤ n3 ∧ i = .int .i64 j ∧ CS w wr A2 n2 cs.flatten A5 (n3 + 1) (scan 0 (lens cs)) A n gl) (fun i _ => n3 - (intOf i).toNat)
      case atStart => exact ⟨0, Nat.zero_le _, rfl, hs⟩
      case round =>
        clear hs
        obtain ⟨j, hj, rfl, hs⟩ := hrel
        by_cases hlt : j < n3
        · obtain ⟨cj, hcj⟩ : ∃ c, cs[j]? = some c := ⟨cs[j]'(by have := Hl3.out; omega), List.getElem?_eq_getElem (by have := Hl3.out; omega)⟩
          obtain ⟨p, hp, hpc⟩ := HCG.out j cj hcj
          have hjn : j < n := by have := (List.getElem?_eq_some_iff.1 hp).1; have := Hn.out; omega
          have HB := Lib.hid (cut_back cs j cj hcj)
          have HPC := Lib.hid hpc
          have hpn := HPn.out p (List.mem_of_getElem? hp)
          have Hm := Lib.hid (List.mem_of_getElem? hp)
          have hcl : cj.length ≤ 40 := HCM.out cj (List.mem_of_getElem? hcj)
          obtain ⟨g, off, rfl, hg, hc⟩ := hs.gly.at (j := j) (u := p.val) (by simp [hp])
          have Hp := Lib.hid hp
          clear hp hpc hcj
          obtain ⟨pA, pn, pc, pys⟩ := p
          simp only [BsV.val] at hc hpn HPC
          clear hc
          replace hs := hs.drew
          go_upto_region 19 with fail
          go_region_held3 (fun w' => w'.cell? ⟨g, off + j, none⟩ = some (.slice pA pn pc))
            (first | exact hs.cell Hp.out | exact hs.cell Hp.out)
            (first
              | (go_at_call 35; refine (lcut_any _ _ _ _ _ _ _ _ _ _ hs.dat hcap (by omega) hs.pls (by omega)).mono ?_; rintro e w7 ⟨A7, n7, c7, rfl, o1, hb7⟩; rw [HB.out] at o1; replace hs := hs.below hb7; (try replace o2 := o2.below hb7); clear hb7)
              | (go_at_call 22; refine (cut_any _ _ _ pys 40 _ (hs.oks _ Hm.out) hpn (by omega)).mono ?_; rintro e w8 ⟨A8, n8, c8, rfl, o2, hb8⟩; rw [HPC.out] at o2; replace hs := hs.below hb8; (try replace o1 := o1.below hb8); clear hb8)
              | (go_at_call 18; refine (same_any _ _ _ _ _ _ _ _ _ o1.row o2.row (by have := o1.len; omega) (by have := o2.len; omega)).mono ?_; rintro e w9 ⟨rfl, q, rfl⟩; rw [sameB_refl]; replace hs := hs.drewN q; clear o1 o2))
          all_goals
            go_wp2
            go_roundw
            case rel => exact ⟨j + 1, by omega, by go_num, hs⟩
            case measure => simp [intOf]; omega
        · have HFar : Hid ((n3 : Int) ≤ i → cutL cs.flatten (scan 0 (lens cs)) i = []) := fun h => cutL_far _ _ _ (by rw [scan_len]; simp [lens]; have := Hl3.out; omega)
          by_cases h1 : i < 0
          · have HN := Lib.hid (cutL_neg cs.flatten (scan 0 (lens cs)) i h1)
            go_wp2_with fail
            refine (lcut_any _ _ _ _ _ _ _ _ _ _ hs.dat hcap (by omega) hs.pls (by omega)).mono ?_
            rintro e w7 ⟨A7, n7, c7, rfl, o1, hb7⟩
            rw [HN.out] at o1
            obtain rfl : 0 = n7 := o1.len
            have hbw := hs.bel.trans (hb7.mono hs.bel.size)
            go_wp2
            go_ret
            exact ⟨rfl, hbw⟩
          · by_cases h2 : (n3 : Int) ≤ i
            · have HN := Lib.hid (HFar.out h2)
              go_wp2_with fail
              refine (lcut_any _ _ _ _ _ _ _ _ _ _ hs.dat hcap (by omega) hs.pls (by omega)).mono ?_
              rintro e w7 ⟨A7, n7, c7, rfl, o1, hb7⟩
              rw [HN.out] at o1
              obtain rfl : 0 = n7 := o1.len
              have hbw := hs.bel.trans (hb7.mono hs.bel.size)
              go_wp2
              go_ret
              exact ⟨rfl, hbw⟩
            · have HA := Lib.hid (cut_a cs.flatten)
              have HB := Lib.hid cut_b
              have HC := Lib.hid (cut_c cs.flatten)
              have hba : Below wr.heap.size wr (wr.alloc (.cells #[.int .i64 5, .int .i64 3] 3)) := (Below.refl _ _).alloc (Nat.le_refl _) _
              have hrw : Row (wr.alloc (.cells #[.int .i64 5, .int .i64 3] 3)) (some ⟨wr.heap.size, 0, none⟩) 2 (cellsOf .i64 [5, 3]) := row_lit wr .i64 3 [5, 3] 2 rfl
              have hs1 := hs.below hba
              clear hs hba
              go_wp2_with fail
              with_reducible refine (lcut_any _ _ _ _ _ _ _ _ _ _ hs1.dat hcap (by omega) hrw (by omega)).mono ?_
              rintro e w7 ⟨A7, n7, c7, rfl, o1, hb7⟩
              rw [HA.out] at o1
              obtain rfl : 0 = n7 := o1.len
              have hs2 := hs1.below hb7
              clear hs1 hrw o1 hb7
              have hba : Below w7.heap.size w7 (w7.alloc (.cells #[.int .i64 0, .int .i64 1099511627776] 3)) := (Below.refl _ _).alloc (Nat.le_refl _) _
              have hrw : Row (w7.alloc (.cells #[.int .i64 0, .int .i64 1099511627776] 3)) (some ⟨w7.heap.size, 0, none⟩) 2 (cellsOf .i64 [0, 1099511627776]) := row_lit w7 .i64 3 [0, 1099511627776] 2 rfl
              have hs3 := hs2.below hba
              clear hs2 hba
              go_wp2_with fail
              with_reducible refine (lcut_any _ _ _ [] _ _ _ _ _ _ (Row.empty _ _) (Nat.le_refl _) (by omega) hrw (by omega)).mono ?_
              rintro e w8 ⟨A8, n8, c8, rfl, o1, hb8⟩
              rw [HB.out] at o1
              obtain rfl : 0 = n8 := o1.len
              have hs4 := hs3.below hb8
              clear hs3 hrw o1 hb8
              have hba : Below w8.heap.size w8 (w8.alloc (.cells #[.int .i64 (-1), .int .i64 0] 3)) := (Below.refl _ _).alloc (Nat.le_refl _) _
              have hrw : Row (w8.alloc (.cells #[.int .i64 (-1), .int .i64 0] 3)) (some ⟨w8.heap.size, 0, none⟩) 2 (cellsOf .i64 [-1, 0]) := row_lit w8 .i64 3 [-1, 0] 2 rfl
              have hs5 := hs4.below hba
              clear hs4 hba
              go_wp2_with fail
              with_reducible refine (lcut_any _ _ _ _ _ _ _ _ _ _ hs5.dat hcap (by omega) hrw (by omega)).mono ?_
              rintro e w9 ⟨A9, n9, c9, rfl, o1, hb9⟩
              rw [HC.out] at o1
              obtain rfl : 0 = n9 := o1.len
              have hbw := hs5.bel.trans (hb9.mono hs5.bel.size)
              go_wp2
              go_ret
              exact ⟨rfl, hbw⟩

end Go.Proofs.Ytmbncdhpfhlobaa
