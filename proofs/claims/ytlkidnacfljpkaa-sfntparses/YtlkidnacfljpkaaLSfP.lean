/- The law SfntParses. -/
import Derived.Test.YtlkidnacfljpkaaSOwn
import Derived.Test.YtlkidnacfljpkaaRParA
namespace Go.Proofs.Ytlkidnacfljpkaa
open Go.RowKit
set_option linter.unusedVariables false

theorem form_len {zs : List Int} {l : List Tab} (hf : formB zs = true) (h : l.map Tab.pure = (dirL (zs.take 1036)).map (pureOf zs)) : l.length ≤ 64 := by
  have h1 := congrArg List.length h
  rw [List.length_map, List.length_map, dirL_len, cntN_take] at h1
  have h2 : dirB (zs.take 1036) = true := by
    cases e : dirB (zs.take 1036) with
    | true => rfl
    | false => rw [formB_not e] at hf; cases hf
  rw [dirB_take] at h2
  unfold cntB at h2
  simp only [Bool.and_eq_true, decide_eq_true_eq] at h2
  unfold cntN at h1
  omega

/-- What is told of bytes: an error's number, and tables. -/
def Tells (zs : List Int) (code : Int) (ts : List Tab) : Prop :=
  (formB zs = false ∧ code = 2 ∧ ts = []) ∨ (formB zs = true ∧ summedP zs (dirL (zs.take 1036)) ((dirL (zs.take 1036)).map (pureOf zs)) = false ∧ code = 3 ∧ ts = []) ∨
  (formB zs = true ∧ summedP zs (dirL (zs.take 1036)) ((dirL (zs.take 1036)).map (pureOf zs)) = true ∧ code = 0 ∧ ts.map Tab.pure = (dirL (zs.take 1036)).map (pureOf zs))
theorem tells_same {zs : List Int} {a b : Int} {l m : List Tab} (h : Tells zs a l) (h' : Tells zs b m) : a = b ∧ l.map Tab.pure = m.map Tab.pure := by
  rcases h with ⟨h1, rfl, rfl⟩ | ⟨h1, h2, rfl, rfl⟩ | ⟨h1, h2, rfl, h3⟩ <;> rcases h' with ⟨g1, rfl, rfl⟩ | ⟨g1, g2, rfl, rfl⟩ | ⟨g1, g2, rfl, g3⟩
  all_goals first
    | exact ⟨rfl, rfl⟩
    | exact ⟨rfl, h3.trans g3.symm⟩
    | exact absurd (h1.symm.trans g1) (by decide)
    | exact absurd (h2.symm.trans g2) (by decide)

/-- What Parse told, in one form. -/
structure Told (zs : List Int) (w : World) (e : Ending) (w' : World) (A : Option Addr) (n c : Nat) (code : Int) (ts : List Tab) : Prop where
  e : e = .returned (.tuple #[.slice A n c, .int .i64 code])
  row : RowS encT 2 w' A n ts
  ok : ∀ t ∈ ts, t.ok w'
  n64 : n ≤ 64
  tells : Tells zs code ts
theorem told_parse {zs : List Int} {w : World} {e : Ending} {w' : World} (h : RetParse w zs e w') : ∃ A n c code ts, Told zs w e w' A n c code ts := by
  obtain ⟨hb, ⟨h1, rfl⟩ | ⟨h1, l, hl, ⟨h2, rfl⟩ | ⟨h2, A, n, c, rfl, ho, ht⟩⟩⟩ := h
  · exact ⟨none, 0, 0, 2, [], rfl, RowS.empty _ _, (fun t ht => by cases ht), by omega, .inl ⟨h1, rfl, rfl⟩⟩
  · rw [hl] at h2
    exact ⟨none, 0, 0, 3, [], rfl, RowS.empty _ _, (fun t ht => by cases ht), by omega, .inr (.inl ⟨h1, h2, rfl, rfl⟩)⟩
  · have h64 := form_len h1 hl
    rw [hl] at h2
    exact ⟨A, n, c, 0, l, rfl, ho.row encT_len, fun t ht' => ⟨(ht t ht').1.row, (ht t ht').2.1, (ht t ht').2.2⟩, by have := ho.len; omega, .inr (.inr ⟨h1, h2, rfl, hl⟩)⟩
theorem told_rparse {zs : List Int} {w : World} {e : Ending} {w' : World} (h : RetRP w zs e w') : ∃ A n c code ts, Told zs w e w' A n c code ts := by
  obtain ⟨hb, ⟨h1, rfl⟩ | ⟨h1, l, hl, ⟨h2, rfl⟩ | ⟨h2, A, n, c, rfl, ho, ht⟩⟩⟩ := h
  · exact ⟨none, 0, 0, 2, [], rfl, RowS.empty _ _, (fun t ht => by cases ht), by omega, .inl ⟨h1, rfl, rfl⟩⟩
  · rw [hl] at h2
    exact ⟨none, 0, 0, 3, [], rfl, RowS.empty _ _, (fun t ht => by cases ht), by omega, .inr (.inl ⟨h1, h2, rfl, rfl⟩)⟩
  · have h64 := form_len h1 hl
    rw [hl] at h2
    exact ⟨A, n, c, 0, l, rfl, ho.row encT_len, ht, by have := ho.len; omega, .inr (.inr ⟨h1, h2, rfl, hl⟩)⟩

set_option maxRecDepth 100000 in
set_option maxHeartbeats 4000000 in
theorem law_SfntParses (A : Option Addr) (n c : Nat) (zs : List Int) (w : World) (hr : Row w A n (cellsOf .u8 zs)) (hB : Bytes zs) (hn : n ≤ 9223372036854775807) :
    Calls Try.prog 4 #[.slice A n c] w (True_ w) := by
  obtain ⟨i0, hi, hz0, hz1, hz2⟩ := info_parts Try.rtabinfo
  have HR := Lib.hid hr
  have HB := Lib.hid hB
  clear hr hB
  go_enter Try.func4, Try.ntmps4
  go_wp2_with fail
  refine (awake3_any _).mono ?_
  rintro e w0 ⟨rfl, hb0⟩
  go_wp2_with fail
  refine (cut_any A n c zs 500 w0 (HR.out.below hb0) hn (by omega)).mono ?_
  rintro e w1 ⟨A1, n1, c1, rfl, o1, hb1⟩
  rw [show (500 : Int).toNat = 500 from rfl] at o1
  have hn1 : n1 ≤ 500 := by have h1 := o1.len; rw [List.length_take] at h1; omega
  have HBt : Hid (Bytes (zs.take 500)) := Lib.hid fun x hx => HB.out x (List.mem_of_mem_take hx)
  generalize zs.take 500 = f at *
  have Ho1 := Lib.hid o1
  have hbb := hb0.trans (hb1.mono hb0.size)
  have Hb1 := Lib.hid hbb
  clear o1 hb1 hb0 hbb HR HB
  go_wp2_with fail
  refine (parse_any A1 n1 c1 f w1 Ho1.out.row HBt.out (by omega) Ho1.out.cap).mono ?_
  rintro e w2 hR
  have hb2 := hR.1
  obtain ⟨Al, nl, cl, code, ts, rfl, hrow, hok, hnl, htel⟩ := told_parse hR
  have Ho2 := Lib.hid (Ho1.out.below hb2)
  have Hb2 := Lib.hid (Hb1.out.trans (hb2.mono Hb1.out.size))
  have HT := Lib.hid htel
  have Hrow := Lib.hid hrow
  have Hok := Lib.hid hok
  clear hR hb2 hrow hok htel Ho1 Hb1
  go_wp2_with fail
  refine (rparse_any A1 n1 c1 f w2 Ho2.out.row HBt.out (by omega) Ho2.out.cap).mono ?_
  rintro e w3 hR
  have hb3 := hR.1
  obtain ⟨Ax, nx, cx, code', us, rfl, hrow', hok', hnx, htel'⟩ := told_rparse hR
  obtain ⟨rfl, hpu⟩ := tells_same HT.out htel'
  have Hb3 := Lib.hid (Hb2.out.trans (hb3.mono Hb2.out.size))
  have Hrow3 := Lib.hid (Hrow.out.below hb3)
  have Hok3 : Hid (∀ t ∈ ts, t.ok w3) := Lib.hid fun t ht => (Hok.out t ht).below hb3
  have Hx := Lib.hid hrow'
  have Hxok := Lib.hid hok'
  have HSm := Lib.hid (sameL_pure hpu)
  have HLl := Lib.hid Hrow.out.len
  clear hR hb3 hrow' hok' htel' hpu Ho2 Hb2 HT Hrow Hok HBt
  go_wp2
  go_loopw [7, 26] (fun v i wr => ∃ (k : Nat) (A3 : Option Addr) (c3 : Nat), k ≤ nl ∧ i = .int .i64 k ∧ v = .slice A3 k c3 ∧ OwnS 36 encT 2 wr w3.heap.size A3 k c3 (ts.take k) ∧ Below w3.heap.size w3 wr) (fun _ i _ => nl - (intOf i).toNat)
  case atStart => exact ⟨0, none, 0, Nat.zero_le _, rfl, rfl, OwnS.nil _ _ _ _ _, Below.refl _ _⟩
  case round =>
    obtain ⟨k, A3, c3, hk, rfl, rfl, ho, hbr⟩ := hrel
    by_cases hlt : k < nl
    · obtain ⟨t, ht⟩ : ∃ t, ts[k]? = some t := ⟨_, List.getElem?_eq_getElem (by have := HLl.out; omega)⟩
      obtain ⟨g, off, rfl, hg, hcc⟩ := (Hrow3.out.below hbr).at encT_len (by omega) ht
      have q0 : wr.cell? ⟨g, off + k * 2, none⟩ = some (.string t.tag) := hcc 0 _ rfl
      have q1 : wr.cell? ⟨g, off + k * 2 + 1, none⟩ = some (.slice t.A t.n t.c) := hcc 1 _ rfl
      have hA := (Below.refl wr.heap.size wr).alloc (Nat.le_refl _) (.cells #[.string t.tag, .slice t.A t.n t.c] 30)
      have hV1 : (wr.alloc (.cells #[.string t.tag, .slice t.A t.n t.c] 30)).heap.size = wr.heap.size + 1 := by simp
      have hA2 := (Below.refl (wr.alloc (.cells #[.string t.tag, .slice t.A t.n t.c] 30)).heap.size (wr.alloc (.cells #[.string t.tag, .slice t.A t.n t.c] 30))).alloc (Nat.le_refl _) (.cells #[.string t.tag, .slice t.A t.n t.c] 36)
      have HA := Lib.hid (hA.trans (hA2.mono hA.size))
      have HRow := rowS_vals encT_len (wr.alloc (.cells #[.string t.tag, .slice t.A t.n t.c] 30)) 36 [t] _ rfl 1 rfl
      rw [hV1] at HRow
      have HRow := Lib.hid HRow
      have HTk : Hid (ts.take k ++ [t] = ts.take (k + 1)) := by show _ = _; rw [List.take_add_one, ht]; rfl
      have Ho := Lib.hid (ho.below HA.out)
      have hsz := (hbr.trans (HA.out.mono hbr.size)).size
      have Hbr := Lib.hid (hbr.trans (HA.out.mono hbr.size))
      have hjb : (k + 1) * 40 ≤ 140737488355328 := by omega
      clear hcc ht hA hV1 hA2 ho hbr
      obtain ⟨tg, tA, tn, tc, tz⟩ := t
      simp only at q0 q1 HA HRow HTk Ho hsz Hbr
      go_wp2_with (at_builtin; refine wpList_append_rowS rfl (.tmp 30) (.tmp 36) _ rfl 36 encT 2 encT_len (by omega) encT_one w3.heap.size i0 _ 40 Try.underlying24 hi hz0 hz1 rfl hz2 A3 k c3 _ rfl Ho.out (some ⟨wr.heap.size + 1, 0, none⟩) 1 1 [(⟨tg, tA, tn, tc, tz⟩ : Tab)] rfl HRow.out hjb (by omega) hsz ?_; intro A4 c4 w4 ho4 hg4)
      rw [HTk.out] at ho4
      have hb4 := Hbr.out.grown hg4 hsz (fun q e => (Ho.out.from_ q e).1)
      go_roundw
      case rel => exact ⟨k + 1, A4, c4, by omega, by go_num, rfl, ho4, hb4⟩
      case measure => simp [intOf]; omega
    · obtain rfl : k = nl := by omega
      rw [List.take_of_length_le (by have := HLl.out; omega)] at ho
      have Ho := Lib.hid ho
      have Hrx := Lib.hid (Hx.out.below hbr)
      have Ho5 : Hid (∀ t ∈ ts, t.ok wr) := Lib.hid fun t ht => (Hok3.out t ht).below hbr
      have Hx5 : Hid (∀ t ∈ us, t.ok wr) := Lib.hid fun t ht => (Hxok.out t ht).below hbr
      have HBr := Lib.hid (Hb3.out.trans (hbr.mono Hb3.out.size))
      clear ho hbr Hx Hxok Hok3 Hrow3
      go_wp2_with fail
      with_reducible refine (rsame_any A3 Ax k c3 nx cx ts us wr (Ho.out.row encT_len) Hrx.out Ho5.out Hx5.out (by omega) (by omega)).mono ?_
      rintro e w6 ⟨rfl, hb6⟩
      rw [HSm.out]
      have HB6 := Lib.hid (HBr.out.trans (hb6.mono HBr.out.size))
      clear hb6
      go_wp2
      go_ret
      exact ⟨rfl, HB6.out⟩

end Go.Proofs.Ytlkidnacfljpkaa
