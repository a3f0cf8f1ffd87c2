/- What the laws of this seat lean on: ComV SimV3 ComV2 JoinN Equal ComE ComO ComZ ComZ2 ComZ3 ComH0 LoopsOf. -/
import Derived.Laws.StructEq
import Derived.Laws.BytesArg
import Derived.Laws.Rows
import Derived.Laws.Tables
import Derived.Test.YtdaeffnaoeblpaaBase1
import Derived.Test.YtdaeffnaoeblpaaBase4
import Derived.Test.YtdaeffnaoeblpaaBase7
import Derived.Test.YtdaeffnaoeblpaaBase8

/- compo: what is written is read again; more behind it says nothing: plain lists. -/
namespace Go.Proofs.Ytdaeffnaoeblpaa
open Go.RowKit
set_option linter.unusedVariables false

theorem b2_len (x : Int) : (b2 x).length = 2 := rfl
theorem matFlat_len (l : List Int) : (l.flatMap fun v => b2 (v % 65536)).length = 2 * l.length := boxB_len l

/-- What a right part's flags are. -/
structure PtF (p : Pt) : Prop where
  lt : p.f < 8192
  f32 : fb p.f 32 = false
  two : twoK p.f = false
  kn : knd p.f = 0 ∨ knd p.f = 8 ∨ knd p.f = 64 ∨ knd p.f = 128
  mat : matB (knd p.f) p = true
  pl : (fb p.f 1 || (byteB p.x && byteB p.y)) = true
theorem ptF_of {p : Pt} (h : ptRight p = true) : PtF p := by
  unfold ptRight strange at h
  simp only [Bool.and_eq_true, Bool.not_eq_true', Bool.or_eq_false_iff, decide_eq_false_iff_not] at h
  obtain ⟨⟨⟨⟨⟨⟨⟨h16, h32⟩, h2048⟩, hlt⟩, _⟩, htw⟩, hm⟩, hp⟩ := h
  exact ⟨by omega, h32, htw, knd_of htw, hm, hp⟩

theorem fb_go {f : Int} (h0 : 0 ≤ f) (h : fb f 32 = false) (go : Bool) : fb (if go then f + 32 else f) 32 = go ∧ clr (if go then f + 32 else f) = f := by
  cases go
  · simp only [Bool.false_eq_true, if_false]
    exact ⟨h, by unfold clr; rw [h]; simp⟩
  · simp only [if_true]
    have hh : fb (f + 32) 32 = true := by
      unfold fb at *
      simp only [decide_eq_true_eq, decide_eq_false_iff_not] at *
      omega
    exact ⟨hh, by unfold clr; rw [hh]; simp⟩

theorem ptB_len_eq (p : Pt) (go : Bool) (h : knd p.f = 0 ∨ knd p.f = 8 ∨ knd p.f = 64 ∨ knd p.f = 128) : (ptB p go).length = pSz (knd p.f) (fb p.f 1) := by
  unfold ptB pSz
  simp only [List.length_append, b2_len, matFlat_len]
  have hm : 2 * (matL (knd p.f) p).length = mSz (knd p.f) := by
    rcases h with h | h | h | h <;> rw [h] <;> rfl
  rw [hm]
  cases fb p.f 1 <;> simp [b2_len]

theorem b2s_mid {zs A C : List Int} {x : Int} {i : Nat} (h : zs = A ++ (b2 (x % 65536) ++ C)) (hA : A.length = i) (h0 : -32768 ≤ x) (h1 : x ≤ 32767) : sgn (n2at zs i) = x := by
  rw [n2at_mid h hA (by omega) (by omega)]
  exact sgn_mod h0 h1
theorem sgb_mod {x : Int} (h : byteB x = true) : sgb (x % 256) = x := by
  unfold byteB at h
  simp only [Bool.and_eq_true, decide_eq_true_eq] at h
  unfold sgb
  split <;> omega

theorem rdP_dec {zs A C : List Int} {p : Pt} {go : Bool} {i : Nat} (hz : zs = A ++ (ptB p go ++ C)) (hA : A.length = i) (ho : p.ok) (hr : ptRight p = true) :
    n2at zs i = (if go then p.f + 32 else p.f) ∧ fb (n2at zs i) 32 = go ∧ rdP zs (n2at zs i) (knd (n2at zs i)) (fb (n2at zs i) 1) i = p ∧ pSz (knd (n2at zs i)) (fb (n2at zs i) 1) = (ptB p go).length := by
  have hF := ptF_of hr
  obtain ⟨hg1, hg2⟩ := fb_go ho.f.1 hF.f32 go
  have hf0 := ho.f.1
  have hlt := hF.lt
  have e0 : n2at zs i = (if go then p.f + 32 else p.f) := by
    unfold ptB at hz
    refine n2at_mid (A := A) (C := _) (by rw [hz]; simp only [List.append_assoc]; rfl) hA ?_ ?_
    · split <;> omega
    · split <;> omega
  have hk : knd (n2at zs i) = knd p.f := by rw [e0, ← knd_clr (if go then p.f + 32 else p.f), hg2]
  have hw : fb (n2at zs i) 1 = fb p.f 1 := by rw [e0, ← (fb_clr (if go then p.f + 32 else p.f)).1, hg2]
  refine ⟨e0, by rw [e0, hg1], ?_, by rw [hk, hw, ptB_len_eq p go hF.kn]⟩
  rw [hk, hw]
  have hcl : clr (n2at zs i) = p.f := by rw [e0, hg2]
  unfold rdP
  rw [hcl]
  have hpl := hF.pl
  have hmt := hF.mat
  have hkn := hF.kn
  have hI : n2at zs (i + 2) = p.i := by
    unfold ptB at hz
    refine n2at_mid (A := A ++ b2 (if go then p.f + 32 else p.f)) (C := _) (by rw [hz]; simp only [List.append_assoc]; rfl) (by simp only [List.length_append, b2_len]; omega) ho.i.1 ?_
    have := ho.i.2
    omega
  have hX : (if fb p.f 1 = true then sgn (n2at zs (i + 4)) else sgb (n1at zs (i + 4))) = p.x ∧ (if fb p.f 1 = true then sgn (n2at zs (i + 6)) else sgb (n1at zs (i + 5))) = p.y := by
    unfold ptB at hz
    cases hwd : fb p.f 1
    · rw [hwd] at hpl hz
      simp only [Bool.false_or, Bool.and_eq_true] at hpl
      simp only [Bool.false_eq_true, if_false] at hz ⊢
      constructor
      · rw [n1at_mid (x := p.x % 256) (A := A ++ b2 (if go then p.f + 32 else p.f) ++ b2 p.i) (C := _) (by rw [hz]; simp only [List.append_assoc, List.cons_append]; rfl) (by simp only [List.length_append, b2_len]; omega), sgb_mod hpl.1]
      · rw [n1at_mid (x := p.y % 256) (A := A ++ b2 (if go then p.f + 32 else p.f) ++ b2 p.i ++ [p.x % 256]) (C := _) (by rw [hz]; simp only [List.append_assoc, List.cons_append, List.nil_append]; rfl) (by simp only [List.length_append, b2_len, List.length_cons, List.length_nil]; omega), sgb_mod hpl.2]
    · rw [hwd] at hz
      simp only [if_true] at hz ⊢
      constructor
      · exact b2s_mid (A := A ++ b2 (if go then p.f + 32 else p.f) ++ b2 p.i) (C := _) (by rw [hz]; simp only [List.append_assoc]; rfl) (by simp only [List.length_append, b2_len]; omega) ho.x.1 ho.x.2
      · exact b2s_mid (A := A ++ b2 (if go then p.f + 32 else p.f) ++ b2 p.i ++ b2 (p.x % 65536)) (C := _) (by rw [hz]; simp only [List.append_assoc]; rfl) (by simp only [List.length_append, b2_len]; omega) ho.y.1 ho.y.2
  have hM : mA zs (knd p.f) (i + 4 + if fb p.f 1 = true then 4 else 2) = (p.xx, p.xy, p.yx, p.yy) := by
    unfold ptB at hz
    obtain ⟨P, hP, hPl⟩ : ∃ P, zs = P ++ (((matL (knd p.f) p).flatMap fun v => b2 (v % 65536)) ++ C) ∧ P.length = i + 4 + (if fb p.f 1 = true then 4 else 2) := by
      refine ⟨A ++ (b2 (if go then p.f + 32 else p.f) ++ b2 p.i ++ (if fb p.f 1 then b2 (p.x % 65536) ++ b2 (p.y % 65536) else [p.x % 256, p.y % 256])), by rw [hz]; simp only [List.append_assoc], ?_⟩
      simp only [List.length_append, b2_len]
      cases fb p.f 1 <;> simp [b2_len] <;> omega
    generalize (i + 4 + if fb p.f 1 = true then 4 else 2) = j at *
    clear hz
    have hxx := ho.xx
    have hxy := ho.xy
    have hyx := ho.yx
    have hyy := ho.yy
    unfold mA
    rcases hkn with h | h | h | h <;> rw [h] at hmt hP <;> rw [h]
    · rw [if_neg (by decide), if_neg (by decide), if_neg (by decide)]
      unfold matB unitB at hmt
      rw [if_neg (by decide), if_neg (by decide), if_neg (by decide)] at hmt
      simp only [decide_eq_true_eq, List.cons.injEq] at hmt
      obtain ⟨a, b, c, d, _⟩ := hmt
      rw [a, b, c, d]
    · rw [if_pos rfl]
      unfold matB straight at hmt
      rw [if_pos rfl] at hmt
      simp only [Bool.and_eq_true, decide_eq_true_eq] at hmt
      obtain ⟨⟨a, b⟩, c⟩ := hmt
      rw [b2s_mid (x := p.xx) (A := P) (C := C) (by rw [hP]; rfl) hPl (by omega) (by omega), a, b, c]
    · rw [if_neg (by decide), if_pos rfl]
      unfold matB straight at hmt
      rw [if_neg (by decide), if_pos rfl] at hmt
      simp only [Bool.and_eq_true, decide_eq_true_eq] at hmt
      obtain ⟨a, b⟩ := hmt
      rw [b2s_mid (x := p.xx) (A := P) (C := b2 (p.yy % 65536) ++ C) (by rw [hP]; rfl) hPl (by omega) (by omega), b2s_mid (x := p.yy) (A := P ++ b2 (p.xx % 65536)) (C := C) (by rw [hP]; simp only [List.append_assoc]; rfl) (by simp only [List.length_append, b2_len]; omega) (by omega) (by omega), a, b]
    · rw [if_neg (by decide), if_neg (by decide), if_pos rfl]
      rw [b2s_mid (x := p.xx) (A := P) (C := b2 (p.xy % 65536) ++ (b2 (p.yx % 65536) ++ (b2 (p.yy % 65536) ++ C))) (by rw [hP]; rfl) hPl (by omega) (by omega), b2s_mid (x := p.xy) (A := P ++ b2 (p.xx % 65536)) (C := b2 (p.yx % 65536) ++ (b2 (p.yy % 65536) ++ C)) (by rw [hP]; simp only [List.append_assoc]; rfl) (by simp only [List.length_append, b2_len]; omega) (by omega) (by omega),
        b2s_mid (x := p.yx) (A := P ++ b2 (p.xx % 65536) ++ b2 (p.xy % 65536)) (C := b2 (p.yy % 65536) ++ C) (by rw [hP]; simp only [List.append_assoc]; rfl) (by simp only [List.length_append, b2_len]; omega) (by omega) (by omega), b2s_mid (x := p.yy) (A := P ++ b2 (p.xx % 65536) ++ b2 (p.xy % 65536) ++ b2 (p.yx % 65536)) (C := C) (by rw [hP]; simp only [List.append_assoc]; rfl) (by simp only [List.length_append, b2_len]; omega) (by omega) (by omega)]
  simp only [hI, hX.1, hX.2, hM]

theorem ptsB_cut (ps : List Pt) {k n : Nat} (h : k ≤ n) : ∃ r, ptsB ps n = ptsB ps k ++ r := by
  obtain ⟨m, rfl⟩ : ∃ m, n = k + m := ⟨n - k, by omega⟩
  refine ⟨?_, ?_⟩
  rotate_left
  · unfold ptsB
    rw [List.range_add, List.flatMap_append]
theorem pAll_dec {zs A C : List Int} {ps : List Pt} {i : Nat} (hz : zs = A ++ (ptsB ps ps.length ++ C)) (hA : A.length = i) (hn : 1 ≤ ps.length) (hn2 : ps.length ≤ 200) (ho : ∀ p ∈ ps, p.ok) (hr : partsOk ps ps.length = true) :
    pAll zs i = ⟨ps, i + (ptsB ps ps.length).length, false⟩ := by
  have key : ∀ m k, m + k = ps.length → pLoop zs (201 - k) ⟨ps.take k, i + (ptsB ps k).length, decide (k < ps.length)⟩ = ⟨ps, i + (ptsB ps ps.length).length, false⟩ := by
    intro m
    induction m with
    | zero =>
      intro k hk
      obtain rfl : k = ps.length := by omega
      rw [pLoop_end (.inl (by simp)), List.take_length]
      simp
    | succ m ih =>
      intro k hk
      have hlt : k < ps.length := by omega
      obtain ⟨p, hp⟩ : ∃ p, ps[k]? = some p := ⟨_, List.getElem?_eq_getElem hlt⟩
      obtain ⟨r, hr2⟩ := ptsB_cut ps (show k + 1 ≤ ps.length by omega)
      have hs := ptsB_succ hp
      obtain ⟨e0, e1, e2, e3⟩ := rdP_dec (zs := zs) (A := A ++ ptsB ps k) (C := r ++ C) (p := p) (go := decide (k + 1 < ps.length)) (i := i + (ptsB ps k).length) (by rw [hz, hr2, hs]; simp only [List.append_assoc]) (by simp only [List.length_append]; omega) (ho p (List.mem_of_getElem? hp)) (partsOk_at hr hlt hp)
      rw [pLoop_step (by simpa using hlt) (by omega), show 201 - k - 1 = 201 - (k + 1) by omega]
      rw [← ih (k + 1) (by omega)]
      congr 1
      unfold pNext
      simp only [e1, e2, e3]
      rw [List.take_add_one, hp, hs, List.length_append]
      simp only [Option.toList_some]
      congr 1
      omega
  have := key ps.length 0 (by omega)
  unfold pAll
  rw [← this]
  simp only [List.take_zero, Nat.sub_zero]
  congr 2
  simp; omega

/-- What is written is read again, whatever stands behind. -/
theorem cB_dec (g : Cg) (ho : g.ok) (hr : cRight g = true) (ms : List Int) : n2at (cB g ++ ms) 0 = 65535 ∧ cgRd (cB g ++ ms) 2 = g ∧ cgEnd (cB g ++ ms) 2 = (cB g).length := by
  obtain ⟨hq1, hq2, hp1, hps⟩ := cRight_parts hr
  have hc : codeB g.ps = false → g.pr = [] := by
    intro h
    unfold cRight at hr
    simp only [Bool.and_eq_true, h, Bool.false_or, decide_eq_true_eq] at hr
    exact List.eq_nil_of_length_eq_zero hr.2
  have hx := ho.bx
  obtain ⟨x0, x1, x2, x3, ps, pr⟩ := g
  simp only at hq1 hq2 hp1 hps hc
  have hbx : boxB [x0, x1, x2, x3] = b2 (x0 % 65536) ++ (b2 (x1 % 65536) ++ (b2 (x2 % 65536) ++ b2 (x3 % 65536))) := by simp [boxB]
  have hz : ∀ T, cB ⟨x0, x1, x2, x3, ps, pr⟩ ++ T = (b2 65535 ++ boxB [x0, x1, x2, x3]) ++ (ptsB ps ps.length ++ ((if codeB ps then b2 pr.length ++ pr else []) ++ T)) := by
    intro T
    unfold cB
    simp only [List.append_assoc]
  have hA : (b2 65535 ++ boxB [x0, x1, x2, x3]).length = 10 := by rw [List.length_append, boxB_len]; rfl
  have hall := pAll_dec (zs := cB ⟨x0, x1, x2, x3, ps, pr⟩ ++ ms) (i := 2 + 8) (hz ms) (by rw [hA]) hq1 hq2 ho.ps hps
  have hz2 := hz ms
  rw [hbx] at hz2
  have hat : ∀ x A C, cB ⟨x0, x1, x2, x3, ps, pr⟩ ++ ms = A ++ (b2 (x % 65536) ++ C) → x ∈ [x0, x1, x2, x3] → sgn (n2at (cB ⟨x0, x1, x2, x3, ps, pr⟩ ++ ms) A.length) = x := by
    intro x A C h hm
    have := hx x hm
    exact b2s_mid h rfl this.1 this.2
  have t0 := hat x0 (b2 65535) _ (by rw [hz2]; simp only [List.append_assoc]; rfl) (by simp)
  have t1 := hat x1 (b2 65535 ++ b2 (x0 % 65536)) _ (by rw [hz2]; simp only [List.append_assoc]; rfl) (by simp)
  have t2 := hat x2 (b2 65535 ++ b2 (x0 % 65536) ++ b2 (x1 % 65536)) _ (by rw [hz2]; simp only [List.append_assoc]; rfl) (by simp)
  have t3 := hat x3 (b2 65535 ++ b2 (x0 % 65536) ++ b2 (x1 % 65536) ++ b2 (x2 % 65536)) _ (by rw [hz2]; simp only [List.append_assoc]; rfl) (by simp)
  simp only [List.length_append, b2_len] at t0 t1 t2 t3
  refine ⟨n2at_mid (A := []) (by rw [hz2]; simp only [List.append_assoc, List.nil_append]; rfl) rfl (by omega) (by omega), ?_, ?_⟩
  · unfold cgRd
    rw [hall]
    simp only [t0, t1, t2, t3]
    congr 1
    cases hcd : codeB ps
    · rw [hc hcd]; rfl
    · rw [hcd] at hz hz2
      simp only [if_true] at hz ⊢
      have en : n2at (cB ⟨x0, x1, x2, x3, ps, pr⟩ ++ ms) (2 + 8 + (ptsB ps ps.length).length) = pr.length := by
        refine n2at_mid (A := b2 65535 ++ boxB [x0, x1, x2, x3] ++ ptsB ps ps.length) (C := pr ++ ms) (by rw [hz]; simp only [List.append_assoc]) (by rw [List.length_append, hA]) (by omega) (by omega)
      rw [en]
      have ed : (cB ⟨x0, x1, x2, x3, ps, pr⟩ ++ ms).drop (2 + 8 + (ptsB ps ps.length).length + 2) = pr ++ ms := by
        refine (congrArg _ (?_ : _ = (b2 65535 ++ boxB [x0, x1, x2, x3] ++ ptsB ps ps.length ++ b2 pr.length) ++ (pr ++ ms))).trans (drop_len ?_)
        · rw [hz]; simp only [List.append_assoc]
        · rw [List.length_append, List.length_append, hA, b2_len]
      rw [ed]
      unfold told
      rw [if_pos (by rw [List.length_append]; omega)]
      simp
  · unfold cgEnd
    rw [hall]
    simp only
    have hl := congrArg List.length (hz [])
    simp only [List.append_nil, List.length_append (bs := ptsB ps ps.length ++ _), hA] at hl
    rw [List.length_append] at hl
    rw [hl]
    cases hcd : codeB ps
    · simp only [Bool.false_eq_true, if_false, List.length_nil]
      omega
    · have hz3 := hz ms
      rw [hcd] at hz3
      simp only [if_true] at hz3 ⊢
      have en : n2at (cB ⟨x0, x1, x2, x3, ps, pr⟩ ++ ms) (2 + 8 + (ptsB ps ps.length).length) = pr.length := by
        refine n2at_mid (A := b2 65535 ++ boxB [x0, x1, x2, x3] ++ ptsB ps ps.length) (C := pr ++ ms) (by rw [hz3]; simp only [List.append_assoc]) (by rw [List.length_append, hA]) (by omega) (by omega)
      rw [en, List.length_append, b2_len]
      omega
theorem cOk_cB (g : Cg) (ho : g.ok) (hr : cRight g = true) (ms : List Int) : cOk (cB g ++ ms) = true := by
  obtain ⟨h0, h1, h2⟩ := cB_dec g ho hr ms
  unfold cOk
  rw [h0, h1, h2, hr]
  simp

end Go.Proofs.Ytdaeffnaoeblpaa

/- simple: what an outline writes is bytes. -/
namespace Go.Proofs.Ytdaeffnaoeblpaa
open Go.RowKit
set_option linter.unusedVariables false

theorem Bytes.app {a b : List Int} (ha : Bytes a) (hb : Bytes b) : Bytes (a ++ b) := by
  intro x hx
  rcases List.mem_append.1 hx with h | h
  · exact ha x h
  · exact hb x h
theorem bytes_flatMap {α : Type} {f : α → List Int} (l : List α) (h : ∀ a ∈ l, Bytes (f a)) : Bytes (l.flatMap f) := by
  intro x hx
  obtain ⟨a, ha, hxa⟩ := List.mem_flatMap.1 hx
  exact h a ha x hxa
theorem cb_bytes (d : Int) : Bytes (cb d) := by
  unfold cb
  split
  · intro x hx; cases hx
  · split
    · intro x hx; simp only [List.mem_singleton] at hx; subst hx; omega
    · exact b2_bytes _
theorem cbs_bytes (l : List Int) : Bytes (cbs l) := bytes_flatMap l fun d _ => cb_bytes d
theorem rleF_bytes : ∀ (m : Nat) (l : List Int), (∀ f ∈ l, 0 ≤ f ∧ f < 64) → Bytes (rleF m l)
  | 0, _, _ => by intro x hx; cases hx
  | _ + 1, [], _ => by intro x hx; cases hx
  | m + 1, f :: r, h => by
    unfold rleF
    refine Bytes.app ?_ (rleF_bytes m _ fun g hg => h g (List.mem_of_mem_drop hg))
    have h1 := rowOf_le (f :: r)
    have h2 := rowOf_pos (l := f :: r) (by simp)
    have h3 := h f (by simp)
    unfold rleHead
    split
    · intro x hx; simp at hx; omega
    · intro x hx; simp at hx; omega
theorem oB_bytes (g : Gl) (h : ∀ x ∈ g.pr, 0 ≤ x ∧ x ≤ 255) : Bytes (oB g) := by
  unfold oB oFront
  refine Bytes.app (Bytes.app (Bytes.app (Bytes.app (Bytes.app (Bytes.app (Bytes.app (b2_bytes _) ?_) ?_) (b2_bytes _)) h) ?_) (cbs_bytes _)) (cbs_bytes _)
  · exact bytes_flatMap _ fun a _ => b2_bytes _
  · exact bytes_flatMap _ fun a _ => b2_bytes _
  · exact rleF_bytes _ _ fun f hf => flagsAll_lt (fls_in _ f hf)
end Go.Proofs.Ytdaeffnaoeblpaa

/- compo: of more bytes the same is read, of fewer there is nothing; what is read is written again: plain lists. -/
namespace Go.Proofs.Ytdaeffnaoeblpaa
open Go.RowKit
set_option linter.unusedVariables false

theorem pSz_pos (k : Int) (wd : Bool) : 6 ≤ pSz k wd := by unfold pSz; split <;> omega
theorem pLoop_mono (zs : List Int) : ∀ (n : Nat) (s : PS), s.at_ ≤ (pLoop zs n s).at_
  | 0, s => Nat.le_refl _
  | n + 1, s => by
    unfold pLoop
    split
    · have := pLoop_mono zs n (pNext zs s)
      have h2 : s.at_ ≤ (pNext zs s).at_ := by unfold pNext; simp only; omega
      omega
    · exact Nat.le_refl _

section
variable {zs ms : List Int}
theorem mA_ext {k : Int} {j : Nat} (h : j + mSz k ≤ zs.length) : mA (zs ++ ms) k j = mA zs k j := by
  unfold mSz at h
  unfold mA
  by_cases h8 : k = 8
  · rw [if_pos h8] at h
    rw [if_pos h8, if_pos h8, n2at_ext (by omega)]
  · rw [if_neg h8] at h
    rw [if_neg h8, if_neg h8]
    by_cases h64 : k = 64
    · rw [if_pos h64] at h
      rw [if_pos h64, if_pos h64, n2at_ext (by omega), n2at_ext (by omega)]
    · rw [if_neg h64] at h
      rw [if_neg h64, if_neg h64]
      by_cases h128 : k = 128
      · rw [if_pos h128] at h
        rw [if_pos h128, if_pos h128, n2at_ext (by omega), n2at_ext (by omega), n2at_ext (by omega), n2at_ext (by omega)]
      · rw [if_neg h128, if_neg h128]
theorem rdP_ext {f k : Int} {wd : Bool} {i : Nat} (h : i + pSz k wd ≤ zs.length) : rdP (zs ++ ms) f k wd i = rdP zs f k wd i := by
  unfold pSz at h
  have hm : (i + 4 + if wd = true then 4 else 2) + mSz k ≤ zs.length := by cases wd <;> simp at h ⊢ <;> omega
  unfold rdP
  rw [mA_ext hm, n2at_ext (by omega)]
  cases wd
  · simp only [Bool.false_eq_true, if_false] at h ⊢
    rw [n1at_ext (by omega), n1at_ext (by omega)]
  · simp only [if_true] at h ⊢
    rw [n2at_ext (by omega), n2at_ext (by omega)]
theorem pNext_ext {s : PS} (h : (pNext zs s).at_ ≤ zs.length) : pNext (zs ++ ms) s = pNext zs s := by
  unfold pNext at *
  simp only at h
  have := pSz_pos (knd (n2at zs s.at_)) (fb (n2at zs s.at_) 1)
  rw [n2at_ext (by omega), rdP_ext h]
theorem pLoop_ext : ∀ (n : Nat) (s : PS), (pLoop zs n s).at_ ≤ zs.length → pLoop (zs ++ ms) n s = pLoop zs n s
  | 0, s, _ => rfl
  | n + 1, s, h => by
    by_cases hg : s.go = true
    · rw [pLoop_step hg (by omega)] at h ⊢
      rw [pLoop_step hg (by omega)]
      have h1 := pLoop_mono zs (n + 1 - 1) (pNext zs s)
      rw [pNext_ext (by omega)]
      exact pLoop_ext n _ h
    · rw [pLoop_end (.inl (by simpa using hg)), pLoop_end (.inl (by simpa using hg))]
theorem cgRd_ext {i : Nat} (h : cgEnd zs i ≤ zs.length) : cgRd (zs ++ ms) i = cgRd zs i ∧ cgEnd (zs ++ ms) i = cgEnd zs i := by
  have hle : (pAll zs (i + 8)).at_ ≤ zs.length := by
    unfold cgEnd at h
    split at h <;> omega
  have hi : i + 8 ≤ (pAll zs (i + 8)).at_ := pLoop_mono zs 201 ⟨[], i + 8, true⟩
  have e : pAll (zs ++ ms) (i + 8) = pAll zs (i + 8) := pLoop_ext _ _ hle
  unfold cgRd cgEnd at *
  rw [e, n2at_ext (by omega), n2at_ext (by omega), n2at_ext (by omega), n2at_ext (by omega)]
  cases hc : codeB (pAll zs (i + 8)).ps
  · simp only [Bool.false_eq_true, if_false, and_self]
  · rw [hc] at h
    simp only [if_true] at h ⊢
    rw [n2at_ext (by omega), told_ext (by omega)]
    exact ⟨rfl, rfl⟩
theorem cOk_ext (h : cOk zs = true) : cOk (zs ++ ms) = true ∧ cgRd (zs ++ ms) 2 = cgRd zs 2 ∧ cgEnd (zs ++ ms) 2 = cgEnd zs 2 := by
  unfold cOk at *
  simp only [Bool.and_eq_true, decide_eq_true_eq] at h ⊢
  obtain ⟨⟨h0, h1⟩, h2⟩ := h
  obtain ⟨e1, e2⟩ := cgRd_ext (ms := ms) h1
  have hi : 2 + 8 ≤ (pAll zs (2 + 8)).at_ := pLoop_mono zs 201 ⟨[], 2 + 8, true⟩
  have hle : (pAll zs (2 + 8)).at_ ≤ zs.length := by
    unfold cgEnd at h1
    split at h1 <;> omega
  rw [n2at_ext (by omega), e1, e2, List.length_append]
  exact ⟨⟨⟨h0, by omega⟩, h2⟩, rfl, rfl⟩
end

/-- Fewer bytes are none. -/
theorem cB_cut (g : Cg) (ho : g.ok) (hr : cRight g = true) {k : Nat} (hk : k < (cB g).length) : cOk ((cB g).take k) = false := by
  rw [Bool.eq_false_iff]
  intro h
  obtain ⟨_, h1, h2⟩ := cOk_ext (ms := (cB g).drop k) h
  rw [List.take_append_drop] at h1 h2
  have h3 := (cB_dec g ho hr []).2.2
  rw [List.append_nil] at h3
  unfold cOk at h
  simp only [Bool.and_eq_true, decide_eq_true_eq] at h
  have h4 := h.1.2
  rw [← h2, h3, List.length_take] at h4
  omega

/-- What is read is written again. -/
theorem b2s_win {zs : List Int} (hB : Bytes zs) {i : Nat} (h : i + 2 ≤ zs.length) : b2 (sgn (n2at zs i) % 65536) = (zs.drop i).take 2 := by
  have := n2at_lt hB i
  rw [← b2_win hB h]
  congr 1
  unfold sgn
  split <;> omega
theorem b1s_win {zs : List Int} (hB : Bytes zs) {i : Nat} (h : i + 1 ≤ zs.length) : [sgb (n1at zs i) % 256] = (zs.drop i).take 1 := by
  have h1 := n1at_get (zs := zs) (i := i) (List.getElem?_eq_getElem (by omega))
  have h2 := n1at_lt hB i
  rw [List.drop_eq_getElem_cons (by omega), List.take_succ_cons, List.take_zero, ← h1]
  congr 1
  unfold sgb
  split <;> omega
theorem clr_back {f : Int} : (if fb f 32 then clr f + 32 else clr f) = f := by
  unfold clr
  split <;> omega
theorem ptB_win {zs : List Int} (hB : Bytes zs) {i : Nat} (hr : ptRight (rdP zs (n2at zs i) (knd (n2at zs i)) (fb (n2at zs i) 1) i) = true) (h : i + pSz (knd (n2at zs i)) (fb (n2at zs i) 1) ≤ zs.length) :
    ptB (rdP zs (n2at zs i) (knd (n2at zs i)) (fb (n2at zs i) 1) i) (fb (n2at zs i) 32) = (zs.drop i).take (pSz (knd (n2at zs i)) (fb (n2at zs i) 1)) := by
  have hF := ptF_of hr
  have hkn := hF.kn
  have ef : (rdP zs (n2at zs i) (knd (n2at zs i)) (fb (n2at zs i) 1) i).f = clr (n2at zs i) := rfl
  rw [ef, knd_clr] at hkn
  have hsz := pSz_pos (knd (n2at zs i)) (fb (n2at zs i) 1)
  unfold ptB
  rw [ef, clr_back, knd_clr, (fb_clr _).1, b2_win hB (by omega)]
  have ei : (rdP zs (n2at zs i) (knd (n2at zs i)) (fb (n2at zs i) 1) i).i = n2at zs (i + 2) := rfl
  rw [ei, b2_win hB (by omega), win_join]
  generalize hwd : fb (n2at zs i) 1 = wd at *
  generalize hk : knd (n2at zs i) = k at *
  unfold pSz at h ⊢
  have hxy : (if wd = true then b2 ((rdP zs (n2at zs i) k wd i).x % 65536) ++ b2 ((rdP zs (n2at zs i) k wd i).y % 65536) else [(rdP zs (n2at zs i) k wd i).x % 256, (rdP zs (n2at zs i) k wd i).y % 256]) = (zs.drop (i + 4)).take (if wd = true then 4 else 2) := by
    cases wd
    · simp only [Bool.false_eq_true, if_false] at h ⊢
      have e1 := b1s_win hB (i := i + 4) (by omega)
      have e2 := b1s_win hB (i := i + 5) (by omega)
      rw [show (2 : Nat) = 1 + 1 by rfl, ← win_join, ← e1, show i + 4 + 1 = i + 5 by omega, ← e2]
      rfl
    · simp only [if_true] at h ⊢
      have e1 := b2s_win hB (i := i + 4) (by omega)
      have e2 := b2s_win hB (i := i + 6) (by omega)
      rw [show (4 : Nat) = 2 + 2 by rfl, ← win_join, show i + (2 + 2) = i + 4 by rfl, ← e1, show i + 4 + 2 = i + 6 by omega, ← e2]
      rfl
  rw [hxy, show i + 4 = i + (2 + 2) by rfl, win_join]
  generalize hj : (if wd = true then 4 else 2) = j at *
  have hM : ((matL k (rdP zs (n2at zs i) k wd i)).flatMap fun v => b2 (v % 65536)) = (zs.drop (i + (2 + 2 + j))).take (mSz k) := by
    have em : (rdP zs (n2at zs i) k wd i).xx = (mA zs k (i + 4 + j)).1 ∧ (rdP zs (n2at zs i) k wd i).xy = (mA zs k (i + 4 + j)).2.1 ∧ (rdP zs (n2at zs i) k wd i).yx = (mA zs k (i + 4 + j)).2.2.1 ∧ (rdP zs (n2at zs i) k wd i).yy = (mA zs k (i + 4 + j)).2.2.2 := by
      unfold rdP
      rw [hj]
      exact ⟨rfl, rfl, rfl, rfl⟩
    obtain ⟨m1, m2, m3, m4⟩ := em
    unfold matL
    rw [m1, m2, m3, m4, show i + (2 + 2 + j) = i + 4 + j by omega]
    generalize hqe : i + 4 + j = q at *
    have hq : q + mSz k ≤ zs.length := by omega
    clear hqe
    unfold mA
    rcases hkn with rfl | rfl | rfl | rfl
    · rfl
    · have hq' : q + 2 ≤ zs.length := hq
      rw [if_pos rfl, if_pos rfl]
      show b2 _ ++ [] = _
      rw [List.append_nil, b2s_win hB hq']
      rfl
    · have hq' : q + 4 ≤ zs.length := hq
      rw [if_neg (by decide), if_pos rfl, if_neg (by decide), if_pos rfl]
      show b2 _ ++ (b2 _ ++ []) = _
      rw [List.append_nil, b2s_win hB (by omega), b2s_win hB (by omega), win_join]
      rfl
    · have hq' : q + 8 ≤ zs.length := hq
      rw [if_neg (by decide), if_neg (by decide), if_pos rfl, if_neg (by decide), if_neg (by decide), if_pos rfl]
      show b2 _ ++ (b2 _ ++ (b2 _ ++ (b2 _ ++ []))) = _
      rw [List.append_nil, b2s_win hB (by omega), b2s_win hB (by omega), b2s_win hB (by omega), b2s_win hB (by omega), ← List.append_assoc, ← List.append_assoc, win_join, show q + 4 = q + (2 + 2) by rfl, win_join, show q + 6 = q + (2 + 2 + 2) by rfl, win_join]
      rfl
  rw [hM, win_join]

/-- The bytes of parts of which the last one is followed, or not. -/
def ptsG (ps : List Pt) (go : Bool) : List Int := (List.range ps.length).flatMap fun i => match ps[i]? with
  | some p => ptB p (decide (i + 1 < ps.length) || go)
  | none => []
theorem flatMap_congrC {α β : Type} {f g : α → List β} : ∀ (l : List α), (∀ x ∈ l, f x = g x) → l.flatMap f = l.flatMap g
  | [], _ => rfl
  | x :: r, h => by
    rw [List.flatMap_cons, List.flatMap_cons, h x (by simp), flatMap_congrC r (fun y hy => h y (by simp [hy]))]
theorem ptsG_false (ps : List Pt) : ptsG ps false = ptsB ps ps.length := by
  unfold ptsG ptsB
  refine flatMap_congrC _ fun i _ => ?_
  cases ps[i]? <;> simp
theorem ptsG_snoc (ps : List Pt) (p : Pt) (go : Bool) : ptsG (ps ++ [p]) go = ptsG ps true ++ ptB p go := by
  unfold ptsG
  rw [List.length_append, List.length_cons, List.length_nil, List.range_succ, List.flatMap_append]
  congr 1
  · refine flatMap_congrC _ fun i hi => ?_
    have hi := List.mem_range.1 hi
    rw [List.getElem?_append_left hi]
    simp [show i < ps.length by omega]
  · simp
theorem pLoop_win {zs : List Int} (hB : Bytes zs) (i : Nat) : ∀ (n : Nat) (s : PS), (∀ p ∈ (pLoop zs n s).ps, ptRight p = true) → (pLoop zs n s).at_ ≤ zs.length → (s.go = true ∨ 0 < s.ps.length) → i ≤ s.at_ → ptsG s.ps s.go = (zs.drop i).take (s.at_ - i) →
    ptsG (pLoop zs n s).ps (pLoop zs n s).go = (zs.drop i).take ((pLoop zs n s).at_ - i)
  | 0, s, _, _, _, _, h => h
  | n + 1, s, hr, hl, hg0, hi, h => by
    by_cases hg : s.go = true
    · rw [pLoop_step hg (by omega)] at hr hl ⊢
      have hmem : ∀ (m : Nat) (t : PS) (p : Pt), p ∈ t.ps → p ∈ (pLoop zs m t).ps := by
        intro m
        induction m with
        | zero => intro t p hp; exact hp
        | succ m ih =>
          intro t p hp
          unfold pLoop
          split
          · exact ih _ p (by unfold pNext; simp [hp])
          · exact hp
      have hmono := pLoop_mono zs (n + 1 - 1) (pNext zs s)
      have hrp := hr (rdP zs (n2at zs s.at_) (knd (n2at zs s.at_)) (fb (n2at zs s.at_) 1) s.at_) (hmem _ _ _ (by unfold pNext; simp))
      have hat : (pNext zs s).at_ = s.at_ + pSz (knd (n2at zs s.at_)) (fb (n2at zs s.at_) 1) := rfl
      refine pLoop_win hB i n (pNext zs s) hr hl (.inr (by rw [pNext_len]; omega)) (by omega) ?_
      have hw := ptB_win hB hrp (by omega)
      have e : ptsG (pNext zs s).ps (pNext zs s).go = ptsG s.ps true ++ ptB (rdP zs (n2at zs s.at_) (knd (n2at zs s.at_)) (fb (n2at zs s.at_) 1) s.at_) (fb (n2at zs s.at_) 32) := ptsG_snoc _ _ _
      rw [e, hw]
      rw [hg] at h
      rw [h, hat]
      obtain ⟨d, hd⟩ : ∃ d, s.at_ = i + d := ⟨s.at_ - i, by omega⟩
      rw [hd, show i + d - i = d by omega, win_join, show i + d + pSz (knd (n2at zs (i + d))) (fb (n2at zs (i + d)) 1) - i = d + pSz (knd (n2at zs (i + d))) (fb (n2at zs (i + d)) 1) by omega]
    · have hg' : s.go = false := by simpa using hg
      rw [pLoop_end (.inl hg')]
      exact h
theorem pLoop_stop {zs : List Int} : ∀ (n : Nat) (s : PS), (pLoop zs n s).go = true → (pLoop zs n s).ps.length = s.ps.length + n
  | 0, s, _ => rfl
  | n + 1, s, h => by
    by_cases hg : s.go = true
    · rw [pLoop_step hg (by omega)] at h ⊢
      have := pLoop_stop n (pNext zs s) h
      rw [pNext_len] at this
      simp only [Nat.add_sub_cancel]
      omega
    · have hg' : s.go = false := by simpa using hg
      rw [pLoop_end (.inl hg')] at h
      rw [hg'] at h
      cases h
theorem cB_inv {zs : List Int} (hB : Bytes zs) (h : cOk zs = true) : cB (cgRd zs 2) = zs.take (cgEnd zs 2) := by
  unfold cOk at h
  simp only [Bool.and_eq_true, decide_eq_true_eq] at h
  obtain ⟨⟨h0, h1⟩, h2⟩ := h
  obtain ⟨hq1, hq2, hp1, hps⟩ := cRight_parts h2
  have eps : (cgRd zs 2).ps = (pAll zs (2 + 8)).ps := rfl
  rw [eps] at hq1 hq2 hps
  have hi : 2 + 8 ≤ (pAll zs (2 + 8)).at_ := pLoop_mono zs 201 ⟨[], 2 + 8, true⟩
  have hle : (pAll zs (2 + 8)).at_ ≤ zs.length := by
    unfold cgEnd at h1
    split at h1 <;> omega
  have hgo : (pAll zs (2 + 8)).go = false := by
    rw [Bool.eq_false_iff]
    intro hg
    have := pLoop_stop 201 ⟨[], 2 + 8, true⟩ hg
    simp only [List.length_nil] at this
    have e : (pAll zs (2 + 8)).ps.length = 0 + 201 := this
    omega
  have hpr : ∀ p ∈ (pAll zs (2 + 8)).ps, ptRight p = true := by
    intro p hp
    obtain ⟨k, hk⟩ := List.getElem?_of_mem hp
    exact partsOk_at hps (List.getElem?_eq_some_iff.1 hk).1 hk
  have hw := pLoop_win hB 10 201 ⟨[], 2 + 8, true⟩ hpr hle (.inl rfl) (by simp) (by simp [ptsG])
  have hw2 : ptsB (pAll zs (2 + 8)).ps (pAll zs (2 + 8)).ps.length = (zs.drop 10).take ((pAll zs (2 + 8)).at_ - 10) := by
    rw [← ptsG_false, ← hgo]
    exact hw
  have hfr : b2 65535 ++ boxB [(cgRd zs 2).x0, (cgRd zs 2).x1, (cgRd zs 2).x2, (cgRd zs 2).x3] = zs.take 10 := by
    have e : boxB [(cgRd zs 2).x0, (cgRd zs 2).x1, (cgRd zs 2).x2, (cgRd zs 2).x3] = b2 (sgn (n2at zs 2) % 65536) ++ (b2 (sgn (n2at zs 4) % 65536) ++ (b2 (sgn (n2at zs 6) % 65536) ++ b2 (sgn (n2at zs 8) % 65536))) := by simp [boxB, cgRd]
    have e0 : b2 65535 = (zs.drop 0).take 2 := by rw [← h0]; exact b2_win hB (by omega)
    rw [e, e0, b2s_win hB (by omega), b2s_win hB (by omega), b2s_win hB (by omega), b2s_win hB (by omega)]
    rw [← List.append_assoc, ← List.append_assoc, ← List.append_assoc, show (zs.drop 2) = zs.drop (0 + 2) by rfl, win_join, show (zs.drop 4) = zs.drop (0 + (2 + 2)) by rfl, win_join, show (zs.drop 6) = zs.drop (0 + (2 + 2 + 2)) by rfl, win_join, show (zs.drop 8) = zs.drop (0 + (2 + 2 + 2 + 2)) by rfl, win_join]
    rfl
  unfold cB
  rw [hfr, eps, hw2]
  obtain ⟨d, hd⟩ : ∃ d, (pAll zs (2 + 8)).at_ = 10 + d := ⟨(pAll zs (2 + 8)).at_ - 10, by omega⟩
  have hj : zs.take 10 ++ (zs.drop 10).take ((pAll zs (2 + 8)).at_ - 10) = zs.take (pAll zs (2 + 8)).at_ := by
    rw [hd, show 10 + d - 10 = d by omega]
    have := win_join zs 0 10 d
    simpa using this
  rw [hj]
  unfold cgEnd at h1 ⊢
  cases hc : codeB (pAll zs (2 + 8)).ps
  · simp only [Bool.false_eq_true, if_false, List.append_nil]
  · rw [hc] at h1
    simp only [if_true] at h1 ⊢
    have ep : (cgRd zs 2).pr = told (zs.drop ((pAll zs (2 + 8)).at_ + 2)) (n2at zs (pAll zs (2 + 8)).at_).toNat := by unfold cgRd; rw [hc]; rfl
    rw [ep]
    have hn := n2at_lt hB (pAll zs (2 + 8)).at_
    have et : told (zs.drop ((pAll zs (2 + 8)).at_ + 2)) (n2at zs (pAll zs (2 + 8)).at_).toNat = (zs.drop ((pAll zs (2 + 8)).at_ + 2)).take (n2at zs (pAll zs (2 + 8)).at_).toNat := by
      unfold told
      rw [if_pos (by rw [List.length_drop]; omega)]
    rw [et, List.length_take, List.length_drop, Nat.min_eq_left (by omega), Int.toNat_of_nonneg hn.1, b2_win hB (by omega), ← List.append_assoc]
    generalize (pAll zs (2 + 8)).at_ = a at *
    generalize (n2at zs a).toNat = m at *
    have e1 := win_join zs 0 a 2
    have e2 := win_join zs 0 (a + 2) m
    simp only [List.drop_zero, Nat.zero_add] at e1 e2
    rw [e1, e2]

/-- What is written is bytes. -/
theorem b2_bytesC (x : Int) : Bytes (b2 x) := by
  intro y hy
  simp [b2] at hy
  omega
theorem ptB_bytes (p : Pt) (go : Bool) : Bytes (ptB p go) := by
  unfold ptB
  refine Bytes.app (Bytes.app (Bytes.app (b2_bytesC _) (b2_bytesC _)) ?_) (bytes_flatMap _ fun v _ => b2_bytesC _)
  split
  · exact Bytes.app (b2_bytesC _) (b2_bytesC _)
  · intro y hy
    simp at hy
    omega
theorem cB_bytes (g : Cg) (ho : g.ok) (hr : cRight g = true) : Bytes (cB g) := by
  unfold cB
  refine Bytes.app (Bytes.app (Bytes.app (b2_bytesC _) (bytes_flatMap _ fun v _ => b2_bytesC _)) (bytes_flatMap _ fun i _ => ?_)) ?_
  · split
    · exact ptB_bytes _ _
    · intro y hy; cases hy
  · split
    · exact Bytes.app (b2_bytesC _) ho.pr
    · intro y hy; cases hy

end Go.Proofs.Ytdaeffnaoeblpaa

/- Join of any written-out row of byte slices; arrays of numbers held against one another. -/
namespace Go.Proofs.Ytdaeffnaoeblpaa
open Go.RowKit
set_option linter.unusedVariables false

theorem joinN_any (V : World) (b : Nat) (l : List BsV) (k : Nat) (cs : Array Value) (hcs : cs = (l.map BsV.val).toArray) (hb : b = V.heap.size) (hk : l.length = k) (hs : ∀ p ∈ l, p.ok V) (hk' : k ≤ 140737488351232) (hl : (joined l).length ≤ 140737488351232) :
    Calls Try.prog 27 #[.slice (some ⟨b, 0, none⟩) k k] (V.alloc (.cells cs 42)) (RetB V (joined l)) := by
  subst hb hcs
  have ha : Below V.heap.size V (V.alloc (.cells (l.map BsV.val).toArray 42)) := (Below.refl _ _).alloc (Nat.le_refl _) _
  refine (join_any _ k k l _ (row_vals V 42 _ k (by rw [List.length_map]; exact hk)) (fun p hp => ?_) hk' hl).mono ?_
  · exact Row.below (hs p hp) ha
  · rintro e w' ⟨A, n, c, rfl, ho, hb⟩
    exact ⟨A, n, c, rfl, ho.mono (by simp), ha.trans (hb.mono (by simp))⟩

/-- A search for the first place where two lists part. -/
theorem forIn_apart {P : Program} (w : World) (xs ys : List Int) (f : Nat → Option Bool × Unit → Sem (ForInStep (Option Bool × Unit)))
    (hf : ∀ i x y, xs[i]? = some x → ys[i]? = some y → ∀ r, (f i r).run P w = .ok (if x = y then .yield (none, ()) else .done (some false, ())) w) (hxy : xs.length = ys.length) :
    ∀ (n s : Nat), s + n = xs.length → xs.take s = ys.take s → (forIn (List.range' s n) (none, ()) f).run P w = .ok (if xs = ys then (none, ()) else (some false, ())) w := by
  intro n
  induction n with
  | zero =>
    intro s hsn ht
    have : xs = ys := by rw [List.take_of_length_le (by omega), List.take_of_length_le (by omega)] at ht; exact ht
    simp [this]
  | succ n ih =>
    intro s hsn ht
    have h1 : xs[s]? = some xs[s] := List.getElem?_eq_getElem (by omega)
    have h2 : ys[s]? = some ys[s] := List.getElem?_eq_getElem (by omega)
    rw [List.range'_succ, List.forIn_cons]
    simp only [Sem.run_bind, hf s _ _ h1 h2, Result.andThen_ok]
    by_cases he : xs[s] = ys[s]
    · rw [if_pos he]
      exact ih (s + 1) (by omega) (by rw [List.take_add_one, List.take_add_one, h1, h2, ht, he])
    · have hne : ¬ xs = ys := by
        rintro rfl
        exact he rfl
      rw [if_neg he, if_neg hne]
      simp [Sem.run_pure]

/-- Arrays of numbers are alike just if all their numbers are. -/
theorem run_equalIn_ints {P : Program} (w : World) (d : Nat) (t e : TypeId) (len : Nat) (k k' : IntKind) (xs ys : List Int) (ht : P.underlying t = some (.array len e)) (he : P.underlying e = some (.int k')) (ha : (isAgg e).run P w = .ok false w) (hs : (Go.sizeOf e).run P w = .ok 1 w) (hx : xs.length = len) (hy : ys.length = len) :
    (Op.equalIn (d + 2) t (.agg (cellsOf k xs).toArray) (.agg (cellsOf k ys).toArray)).run P w = .ok (decide (xs = ys)) w := by
  rw [show d + 2 = (d + 1) + 1 from rfl, Op.equalIn]
  simp only [Sem.run_bind, run_underlying ht, hs, Result.andThen_ok]
  rw [Std.Legacy.Range.forIn_eq_forIn_range']
  rw [show Std.Legacy.Range.size [0:len] = xs.length by simp [Std.Legacy.Range.size, hx]]
  rw [forIn_apart w xs ys _ ?_ (by omega) xs.length 0 (by omega) (by simp)]
  · simp only [Result.andThen_ok]
    by_cases h : xs = ys <;> simp [h, Sem.run_pure]
  · intro i x y h1 h2 r
    simp only [Sem.run_bind, Go.part, ha, Result.andThen_ok, Bool.false_eq_true, if_false, List.getElem?_toArray, Nat.mul_one, cellsOf_get h1, cellsOf_get h2, Sem.run_pure, run_equalIn_int w d e k k' x y he]
    by_cases h : x = y <;> simp [h, Sem.run_pure]

end Go.Proofs.Ytdaeffnaoeblpaa

/- What bytes.Equal answers, as a contract over this seat's translation. -/
namespace Go.Proofs.Ytdaeffnaoeblpaa
open Go.RowKit
set_option linter.unusedVariables false

theorem convert_row {w : World} {A : Option Addr} {n : Nat} {xs : List Int} (h : Row w A n (cellsOf .u8 xs)) (c : Nat) : (convert 42 9 (.slice A n c)).run Try.prog w = .ok (.string (strOfNums xs)) w := by
  have hl := h.len
  rcases Nat.eq_zero_or_pos n with hn | hn
  · subst hn
    obtain rfl : xs = [] := List.eq_nil_of_length_eq_zero hl
    cases A with
    | none => exact run_convert_bytes_nil w 42 5 Try.underlying42 Try.underlying5 0 c 9 Try.underlying9
    | some a =>
      rw [run_convert_bytes_string w 42 9 5 _ 0 c Try.underlying42 Try.underlying5 Try.underlying9, run_bytesToString w a 0 c [] (by simp [loadCells, loadCellsFrom])]
      rfl
  · obtain ⟨g, off, rfl, _, hc⟩ := h.2 hn
    refine run_convert_bytes_arg w 42 5 Try.underlying42 Try.underlying5 g off n c xs hl (fun i hi => ?_) 9 Try.underlying9
    refine hc i _ ?_
    rw [List.getD_eq_getElem?_getD]
    have : xs[i]? = some xs[i] := List.getElem?_eq_getElem (by omega)
    rw [cellsOf_get this, this]
    rfl

theorem strOf_eq {xs ys : List Int} (hx : Bytes xs) (hy : Bytes ys) : ((strOfNums xs).toList == (strOfNums ys).toList) = sameB xs ys := by
  have key : ∀ (a b : List Int), Bytes a → Bytes b → a.map (fun n => UInt8.ofNat n.toNat) = b.map (fun n => UInt8.ofNat n.toNat) → a = b := by
    intro a
    induction a with
    | nil => intro b _ _ h; cases b with
      | nil => rfl
      | cons => simp at h
    | cons x a ih =>
      intro b ha hb h
      cases b with
      | nil => simp at h
      | cons y b =>
        simp only [List.map_cons, List.cons.injEq] at h
        have hx := ha x (by simp)
        have hy := hb y (by simp)
        have e : x = y := by
          have := congrArg UInt8.toNat h.1
          rw [UInt8.toNat_ofNat', UInt8.toNat_ofNat'] at this
          omega
        rw [e, ih b (fun z hz => ha z (List.mem_cons_of_mem _ hz)) (fun z hz => hb z (List.mem_cons_of_mem _ hz)) h.2]
  unfold sameB
  rw [Bool.eq_iff_iff, beq_iff_eq, decide_eq_true_iff, ByteArray.toList_eq, ByteArray.toList_eq, strOfNums_data, strOfNums_data]
  exact ⟨key xs ys hx hy, fun h => by rw [h]⟩

theorem equal_any (A B : Option Addr) (n c m d : Nat) (xs ys : List Int) (w : World) (hx : Row w A n (cellsOf .u8 xs)) (hy : Row w B m (cellsOf .u8 ys)) (bx : Bytes xs) (bY : Bytes ys) :
    Calls Try.prog 103 #[.slice A n c, .slice B m d] w (fun e w' => e = .returned (.bool (sameB xs ys)) ∧ w = w') := by
  have h1 := convert_row hx c
  have h2 := convert_row hy d
  have H := Lib.hid (strOf_eq bx bY)
  clear hx hy bx bY
  go_enter Try.func103, Try.ntmps103
  go_wp2
  go_ret
  rw [← H.out]
  exact ⟨rfl, rfl⟩

end Go.Proofs.Ytdaeffnaoeblpaa

/- compo.Same, as a contract over this seat's translation; parts and matrices held against one another. -/
namespace Go.Proofs.Ytdaeffnaoeblpaa
open Go.RowKit
set_option linter.unusedVariables false

def mxL (a b c d : Int) : List Int := [a, b, c, d]
set_option maxRecDepth 100000 in
theorem eq_mxN (a b c d a' b' c' d' : Int) (w : World) : (Op.equalIn 9999 38 (.agg #[.int .i16 a, .int .i16 b, .int .i16 c, .int .i16 d]) (.agg #[.int .i16 a', .int .i16 b', .int .i16 c', .int .i16 d'])).run Try.prog w = .ok (decide ([a, b, c, d] = [a', b', c', d'])) w := by
  simp [go_sem]
  by_cases e0 : a = a'
  case neg => simp [e0]
  subst e0
  by_cases e1 : b = b'
  case neg => simp [e1]
  subst e1
  by_cases e2 : c = c'
  case neg => simp [e2]
  subst e2
  by_cases e3 : d = d'
  case neg => simp [e3]
  subst e3
  simp

set_option maxRecDepth 100000 in
theorem eq_mx (a b c d a' b' c' d' : Int) (w : World) : (Op.equalIn 10000 38 (.agg #[.int .i16 a, .int .i16 b, .int .i16 c, .int .i16 d]) (.agg #[.int .i16 a', .int .i16 b', .int .i16 c', .int .i16 d'])).run Try.prog w = .ok (decide ([a, b, c, d] = [a', b', c', d'])) w := by
  simp [go_sem]
  by_cases e0 : a = a'
  case neg => simp [e0]
  subst e0
  by_cases e1 : b = b'
  case neg => simp [e1]
  subst e1
  by_cases e2 : c = c'
  case neg => simp [e2]
  subst e2
  by_cases e3 : d = d'
  case neg => simp [e3]
  subst e3
  simp

instance : DecidableEq Pt := fun a b => decidable_of_iff ([a.f, a.i, a.x, a.y, a.xx, a.xy, a.yx, a.yy] = [b.f, b.i, b.x, b.y, b.xx, b.xy, b.yx, b.yy]) ⟨fun h => by
  obtain ⟨f, i, x, y, xx, xy, yx, yy⟩ := a
  obtain ⟨f', i', x', y', xx', xy', yx', yy'⟩ := b
  simpa using h, fun h => by rw [h]⟩

set_option maxRecDepth 100000 in
theorem eq_pt (p q : Pt) (w : World) : (Op.equalIn 10000 46 p.val q.val).run Try.prog w = .ok (decide (p = q)) w := by
  obtain ⟨f, i, x, y, xx, xy, yx, yy⟩ := p
  obtain ⟨f', i', x', y', xx', xy', yx', yy'⟩ := q
  simp [go_sem, Pt.val, Pt.cells]
  by_cases e0 : f = f'
  case neg => simp [e0]
  subst e0
  by_cases e1 : i = i'
  case neg => simp [e1]
  subst e1
  by_cases e2 : x = x'
  case neg => simp [e2]
  subst e2
  by_cases e3 : y = y'
  case neg => simp [e3]
  subst e3
  by_cases e4 : xx = xx'
  case neg => simp [e4]
  subst e4
  by_cases e5 : xy = xy'
  case neg => simp [e5]
  subst e5
  by_cases e6 : yx = yx'
  case neg => simp [e6]
  subst e6
  by_cases e7 : yy = yy'
  case neg => simp [e7]
  subst e7
  simp

/-- Are two lists of parts alike? -/
def samePts (a b : List Pt) : Bool := decide (a = b)

def sameCBox (a b : Cg) : Bool := decide ([a.x0, a.x1, a.x2, a.x3] = [b.x0, b.x1, b.x2, b.x3])
def cgSame (a b : Cg) : Bool := sameCBox a b && samePts a.ps b.ps && sameB a.pr b.pr
theorem cgSame_refl (g : Cg) : cgSame g g = true := by simp [cgSame, sameCBox, sameB, samePts]
theorem cgSame_eq {a b : Cg} (h : cgSame a b = true) : a = b := by
  obtain ⟨x0, x1, x2, x3, ps, pr⟩ := a
  obtain ⟨y0, y1, y2, y3, qs, qr⟩ := b
  simp [cgSame, sameCBox, sameB, samePts] at h
  simp [h]

set_option maxRecDepth 100000 in
theorem run_eq_cbox (x0 x1 x2 x3 y0 y1 y2 y3 : Int) (w : World) : (binOp .eql 41 (.agg #[.int .i16 x0, .int .i16 x1, .int .i16 x2, .int .i16 x3]) (.agg #[.int .i16 y0, .int .i16 y1, .int .i16 y2, .int .i16 y3])).run Try.prog w = .ok (.bool (decide ([x0, x1, x2, x3] = [y0, y1, y2, y3]))) w := by
  have h := run_equalIn_ints (P := Try.prog) w 9998 41 36 4 .i16 .i16 [x0, x1, x2, x3] [y0, y1, y2, y3] Try.underlying41 Try.underlying36 (by simp [go_sem]) (by simp [go_sem]) rfl rfl
  change (Op.equalIn 10000 41 (.agg #[.int .i16 x0, .int .i16 x1, .int .i16 x2, .int .i16 x3]) (.agg #[.int .i16 y0, .int .i16 y1, .int .i16 y2, .int .i16 y3])).run Try.prog w = _ at h
  rw [run_eql_struct, h]
  rfl

end Go.Proofs.Ytdaeffnaoeblpaa

/- The document's glyph of compo's: own, as a contract over this seat's translation. -/
namespace Go.Proofs.Ytdaeffnaoeblpaa
open Go.RowKit
set_option linter.unusedVariables false

def encRt (p : Pt) : List Value := [.int .i64 p.f, .int .i64 p.i, .int .i64 p.x, .int .i64 p.y, .int .i64 p.xx, .int .i64 p.xy, .int .i64 p.yx, .int .i64 p.yy]
theorem encRt_len (p : Pt) : (encRt p).length = 8 := rfl
theorem encRt_one (p : Pt) : ∀ u ∈ encRt p, u.oneCell' = true := by intro u hu; simp [encRt] at hu; rcases hu with rfl | rfl | rfl | rfl | rfl | rfl | rfl | rfl <;> rfl
theorem Try.rtinfo : (Try.prog.info? 138).map (fun i => (i.zero, i.size, i.bytes)) = some (some (.agg #[.int .i64 0, .int .i64 0, .int .i64 0, .int .i64 0, .int .i64 0, .int .i64 0, .int .i64 0, .int .i64 0]), 8, 64) := by kernel_rfl
theorem atRt {w : World} {A : Option Addr} {n : Nat} {l : List Pt} {j : Nat} {p : Pt} (h : RowS encRt 8 w A n l) (hj : l[j]? = some p) :
    ∃ g off, A = some ⟨g, off, none⟩ ∧ g < w.heap.size ∧ w.cell? ⟨g, off + j * 8, none⟩ = some (.int .i64 p.f) ∧ w.cell? ⟨g, off + j * 8 + 1, none⟩ = some (.int .i64 p.i) ∧ w.cell? ⟨g, off + j * 8 + 2, none⟩ = some (.int .i64 p.x) ∧ w.cell? ⟨g, off + j * 8 + 3, none⟩ = some (.int .i64 p.y) ∧
      w.cell? ⟨g, off + j * 8 + 4, none⟩ = some (.int .i64 p.xx) ∧ w.cell? ⟨g, off + j * 8 + 5, none⟩ = some (.int .i64 p.xy) ∧ w.cell? ⟨g, off + j * 8 + 6, none⟩ = some (.int .i64 p.yx) ∧ w.cell? ⟨g, off + j * 8 + 7, none⟩ = some (.int .i64 p.yy) := by
  obtain ⟨g, off, e, hg, hc⟩ := h.at encRt_len (by omega) hj
  exact ⟨g, off, e, hg, hc 0 _ rfl, hc 1 _ rfl, hc 2 _ rfl, hc 3 _ rfl, hc 4 _ rfl, hc 5 _ rfl, hc 6 _ rfl, hc 7 _ rfl⟩

/-- A glyph of the document's own, as a value, and where its lists lie. -/
structure RcV where
  g : Cg
  QA : Option Addr
  q : Nat
  qc : Nat
  PA : Option Addr
  pn : Nat
  pc : Nat
def RcV.cells (v : RcV) : Array Value := #[.int .i64 v.g.x0, .int .i64 v.g.x1, .int .i64 v.g.x2, .int .i64 v.g.x3, .slice v.QA v.q v.qc, .slice v.PA v.pn v.pc]
def RcV.val (v : RcV) : Value := .agg v.cells
structure RcV.rows (w : World) (v : RcV) : Prop where
  ps : RowS encRt 8 w v.QA v.q v.g.ps
  pr : Row w v.PA v.pn (cellsOf .u8 v.g.pr)
theorem RcV.rows.below {w w' : World} {v : RcV} (h : v.rows w) (hb : Below w.heap.size w w') : v.rows w' := ⟨h.ps.below hb, h.pr.below hb⟩
theorem Try.rcsize : (Try.prog.info? 134).map (·.size) = some 6 := by kernel_rfl
theorem rc6 (x0 x1 x2 x3 : Int) (PA SA : Option Addr) (pn pc sn sc : Nat) : (Try.prog.info? 134).map (·.size) = some (#[Value.int .i64 x0, .int .i64 x1, .int .i64 x2, .int .i64 x3, .slice PA pn pc, .slice SA sn sc]).size ∧ (#[Value.int .i64 0, .int .i64 0, .int .i64 0, .int .i64 0, .slice none 0 0, .slice none 0 0]).size = (#[Value.int .i64 x0, .int .i64 x1, .int .i64 x2, .int .i64 x3, .slice PA pn pc, .slice SA sn sc]).size ∧ (#[Value.int .i64 x0, .int .i64 x1, .int .i64 x2, .int .i64 x3, .slice PA pn pc, .slice SA sn sc].all (·.oneCell')) = true :=
  ⟨Try.rcsize, rfl, by rw [← Array.all_toList]; rfl⟩

/-- A block of a glyph under way, with fresh parts; other blocks are kept. -/
structure OC (L : List (Nat × Array Value × TypeId)) (w wr : World) (bx : Nat) (cs : Array Value) (QA : Option Addr) (q qc : Nat) (ps : List Pt) : Prop where
  box : wr.heap[bx]? = some (.cells cs 134 (0, 0))
  qa : OwnS 138 encRt 8 wr w.heap.size QA q qc ps
  bel : Below w.heap.size w wr
  lx : w.heap.size ≤ bx
  kp : ∀ p ∈ L, wr.heap[p.1]? = some (.cells p.2.1 p.2.2 (0, 0))
  ks : ∀ p ∈ L, p.1 ≠ bx ∧ 138 ≠ p.2.2
theorem ownS_neC {α : Type} {t t' : TypeId} {enc : α → List Value} {k : Nat} {w : World} {B g n c : Nat} {A : Option Addr} {l : List α} {cur : Array Value} (h : OwnS t enc k w B A n c l) (h' : w.heap[g]? = some (.cells cur t' (0, 0))) (ht : t ≠ t') : ∀ q, blockOf A = some q → q ≠ g := by
  intro q hq
  rintro rfl
  rcases h.shape with ⟨rfl, _⟩ | ⟨g', cur, rfl, _, _, hh, _⟩
  · simp [blockOf] at hq
  · simp [blockOf] at hq
    subst hq
    rw [hh] at h'
    simp at h'
    exact ht h'.2
section
variable {L : List (Nat × Array Value × TypeId)} {w wr w' : World} {bx : Nat} {cs : Array Value} {QA : Option Addr} {q qc : Nat} {ps : List Pt}
theorem OC.below (h : OC L w wr bx cs QA q qc ps) (hb : Below wr.heap.size wr w') : OC L w w' bx cs QA q qc ps :=
  ⟨kept_block h.box hb, h.qa.below hb, h.bel.trans (hb.mono h.bel.size), h.lx, fun p hp => kept_block (h.kp p hp) hb, h.ks⟩
theorem OC.set (h : OC L w wr bx cs QA q qc ps) (j : Nat) (v : Value) : OC L w (wr.setCell ⟨bx, j, none⟩ v) bx (cs.setIfInBounds j v) QA q qc ps :=
  ⟨set_block h.box j v, h.qa.keep (fun g e => Below.heap_setCell wr _ v _ (ownS_neC h.qa h.box (by decide) g e)), h.bel.setCell (p := ⟨bx, j, none⟩) h.lx v, h.lx, fun p hp => (Below.heap_setCell wr _ v _ (h.ks p hp).1).trans (h.kp p hp), h.ks⟩
theorem OC.cell (h : OC L w wr bx cs QA q qc ps) (j : Nat) (v : Value) (hq : cs[j]? = some v) : wr.cell? ⟨bx, j, none⟩ = some v := (cell_of_row wr _ j _ _ _ h.box).trans hq
theorem OC.thaw (h : OC L w wr bx cs QA q qc ps) (o : Nat) : wr.frozen? ⟨bx, o, none⟩ = false := thawed h.box o
theorem OC.appQ (h : OC L w wr bx cs QA q qc ps) {A2 : Option Addr} {n2 c2 : Nat} {ps2 : List Pt} (ho : OwnS 138 encRt 8 w' w.heap.size A2 n2 c2 ps2) (hg : wr.grownBy w' (blockOf QA)) : OC L w w' bx cs A2 n2 c2 ps2 := by
  have hne : some bx ≠ blockOf QA := fun e => ownS_neC h.qa h.box (by decide) bx e.symm rfl
  exact ⟨(hg.block bx (lt_of_block h.box) hne).trans h.box, ho, h.bel.grown hg h.bel.size (fun g e => (h.qa.from_ g e).1), h.lx, fun p hp => (hg.block p.1 (lt_of_block (h.kp p hp)) (fun e => ownS_neC h.qa (h.kp p hp) (h.ks p hp).2 p.1 e.symm rfl)).trans (h.kp p hp), h.ks⟩
end

/-- The Box so far. -/
def cxAt (xs : List Int) (k j : Nat) : Int := if j < k then xs.getD j 0 else 0
def cxC (xs : List Int) (k : Nat) (P : Value) : Array Value := #[.int .i64 (cxAt xs k 0), .int .i64 (cxAt xs k 1), .int .i64 (cxAt xs k 2), .int .i64 (cxAt xs k 3), .slice none 0 0, P]
theorem cxC_set (xs : List Int) (P : Value) {k : Nat} (h : k < 4) {x : Int} (hx : xs[k]? = some x) : (cxC xs k P).setIfInBounds k (.int .i64 x) = cxC xs (k + 1) P := by
  have : xs.getD k 0 = x := by simp [hx]
  match k, h with
  | 0, _ => simp [cxC, cxAt, hx]
  | 1, _ => simp [cxC, cxAt, hx]
  | 2, _ => simp [cxC, cxAt, hx]
  | 3, _ => simp [cxC, cxAt, hx]
theorem cxC_get (xs : List Int) (P : Value) {k : Nat} (h : k < 4) : (cxC xs k P)[k]? = some (.int .i64 0) := by
  match k, h with
  | 0, _ => simp [cxC, cxAt]
  | 1, _ => simp [cxC, cxAt]
  | 2, _ => simp [cxC, cxAt]
  | 3, _ => simp [cxC, cxAt]
theorem cxC_0 (xs : List Int) (P : Value) : cxC xs 0 P = #[.int .i64 0, .int .i64 0, .int .i64 0, .int .i64 0, .slice none 0 0, P] := by simp [cxC, cxAt]
theorem cxC_4 (x0 x1 x2 x3 : Int) (P : Value) : cxC [x0, x1, x2, x3] 4 P = #[.int .i64 x0, .int .i64 x1, .int .i64 x2, .int .i64 x3, .slice none 0 0, P] := by simp [cxC, cxAt]

/-- What own leaves. -/
def RetCOwn (w : World) (v : CgV) (e : Ending) (w' : World) : Prop := ∃ r : RcV, e = .returned r.val ∧ r.rows w' ∧ r.g = v.g ∧ r.q = v.q ∧ r.pn = v.pn ∧ Below w.heap.size w w'

end Go.Proofs.Ytdaeffnaoeblpaa

/- The document's glyphs of parts: Has, kind, fits, Right, as contracts over this seat's translation. -/
namespace Go.Proofs.Ytdaeffnaoeblpaa
open Go.RowKit
set_option linter.unusedVariables false
set_option linter.unusedSimpArgs false

set_option maxRecDepth 100000 in
theorem rhas_any (f k : Int) (w : World) (f0 : 0 ≤ f) (f1 : f ≤ 1000000) (k0 : 0 < k) (k1 : k ≤ 100000) : Calls Try.prog 126 #[.int .i64 f, .int .i64 k] w fun e w' => e = .returned (.bool (fb f k)) ∧ w = w' := by
  have hk : ¬ k = 0 := by omega
  have hk' : ¬ k = -1 := by omega
  have hd : Int.tdiv f k = f / k := by rw [Int.tdiv_eq_ediv_of_nonneg f0]
  have hd0 : 0 ≤ f / k := Int.ediv_nonneg f0 (by omega)
  have hd1 : f / k ≤ 1000000 := Int.le_trans (Int.ediv_le_self k f0) f1
  have hm : Int.tmod (f / k) 2 = f / k % 2 := by rw [Int.tmod_eq_emod_of_nonneg hd0]
  unfold fb
  generalize f / k = d at *
  go_enter Try.func126, Try.ntmps126
  go_wp2
  go_ret
  exact ⟨by show Ending.returned (.bool (d % 2 == 1)) = _; congr 2, rfl⟩

/-- How many numbers a matrix has; below 0: it isn't told. -/
def rkd (f : Int) : Int := if twoK f then -1 else if fb f 8 then 1 else if fb f 64 then 2 else if fb f 128 then 4 else 0
theorem rkd_bd (f : Int) : -1 ≤ rkd f ∧ rkd f ≤ 4 := by unfold rkd; split; omega; split; omega; split; omega; split <;> omega

set_option maxRecDepth 100000 in
theorem rkind_any (f : Int) (w : World) (f0 : 0 ≤ f) (f1 : f ≤ 1000000) : Calls Try.prog 125 #[.int .i64 f] w fun e w' => e = .returned (.int .i64 (rkd f)) ∧ ∃ q, w' = w.drewN q := by
  have H1 := Lib.hid (fun W => rhas_any f 8 W f0 f1 (by omega) (by omega))
  have H2 := Lib.hid (fun W => rhas_any f 64 W f0 f1 (by omega) (by omega))
  have H3 := Lib.hid (fun W => rhas_any f 128 W f0 f1 (by omega) (by omega))
  unfold rkd twoK
  generalize fb f 8 = a at *
  generalize fb f 64 = b at *
  generalize fb f 128 = c at *
  clear f0 f1
  go_enter Try.func125, Try.ntmps125
  go_wp2_with fail
  with_reducible refine (H1.out _).mono ?_
  rintro e w1 ⟨rfl, rfl⟩
  go_wp2_with fail
  with_reducible refine (H2.out _).mono ?_
  rintro e w1 ⟨rfl, rfl⟩
  go_wp2_with fail
  with_reducible refine (H3.out _).mono ?_
  rintro e w1 ⟨rfl, rfl⟩
  cases a <;> cases b <;> cases c
  all_goals
    go_wp2
    go_ret
    exact ⟨rfl, by first | exact ⟨0, rfl⟩ | exact ⟨1, rfl⟩ | exact ⟨_, rfl⟩⟩

end Go.Proofs.Ytdaeffnaoeblpaa

/- The document's glyphs of parts: fits, as a contract over this seat's translation. -/
namespace Go.Proofs.Ytdaeffnaoeblpaa
open Go.RowKit
set_option linter.unusedVariables false
set_option linter.unusedSimpArgs false

theorem cells4R {w : World} {b : Nat} {t : TypeId} {x0 x1 x2 x3 : Value} (h : w.heap[b]? = some (.cells #[x0, x1, x2, x3] t (0, 0))) :
    w.cell? ⟨b, 0, none⟩ = some x0 ∧ w.cell? ⟨b, 1, none⟩ = some x1 ∧ w.cell? ⟨b, 2, none⟩ = some x2 ∧ w.cell? ⟨b, 3, none⟩ = some x3 :=
  ⟨cell_of_row _ _ 0 _ _ _ h, cell_of_row _ _ 1 _ _ _ h, cell_of_row _ _ 2 _ _ _ h, cell_of_row _ _ 3 _ _ _ h⟩
theorem heap_drewQ {w w1 : World} {q b : Nat} {o : Option Obj} (h : w1 = w.drewN q) (hk : w.heap[b]? = o) : w1.heap[b]? = o := by subst h; exact hk
def ptR (p : Pt) : Value := .agg #[.int .i64 p.f, .int .i64 p.i, .int .i64 p.x, .int .i64 p.y, .int .i64 p.xx, .int .i64 p.xy, .int .i64 p.yx, .int .i64 p.yy]
theorem matB_rkd (p : Pt) (h : twoK p.f = false) : matB (knd p.f) p = (decide (rkd p.f = 4) || (decide (p.xy = 0) && decide (p.yx = 0) && (decide (rkd p.f = 2) || (decide (p.xx = p.yy) && (decide (rkd p.f = 1) || decide (p.xx = 16384)))))) := by
  unfold rkd
  rw [h]
  unfold twoK at h
  unfold knd matB straight unitB
  revert h
  cases fb p.f 8 <;> cases fb p.f 64 <;> cases fb p.f 128 <;> simp
  by_cases h1 : p.xx = 16384
  · rw [h1]
    by_cases h2 : p.xy = 0 <;> by_cases h3 : p.yx = 0 <;> simp [h2, h3, eq_comm]
  · simp [h1]
theorem rkd_in (f : Int) (h : twoK f = false) : rkd f = 0 ∨ rkd f = 1 ∨ rkd f = 2 ∨ rkd f = 4 := by
  unfold rkd
  rw [h]
  cases fb f 8 <;> cases fb f 64 <;> cases fb f 128 <;> simp

set_option maxRecDepth 100000 in
set_option maxHeartbeats 4000000 in
theorem rfits_any (p : Pt) (hp : p.ok) (w : World) : Calls Try.prog 161 #[ptR p] w (Ret w (.bool (ptRight p))) := by
  have hA := (Below.refl w.heap.size w).alloc (Nat.le_refl _) (.cells #[.int .i64 p.f, .int .i64 p.i, .int .i64 p.x, .int .i64 p.y, .int .i64 p.xx, .int .i64 p.xy, .int .i64 p.yx, .int .i64 p.yy] 138)
  have hk := heap_alloc_new w (.cells #[.int .i64 p.f, .int .i64 p.i, .int .i64 p.x, .int .i64 p.y, .int .i64 p.xx, .int .i64 p.xy, .int .i64 p.yx, .int .i64 p.yy] 138)
  have g1 : p.f ≤ 1000000 := by have := hp.f.2; omega
  have HK := Lib.hid (fun W => rkind_any p.f W hp.f.1 g1)
  have H2 := Lib.hid (fun W => rhas_any p.f 2 W hp.f.1 g1 (by omega) (by omega))
  have H16 := Lib.hid (fun W => rhas_any p.f 16 W hp.f.1 g1 (by omega) (by omega))
  have H32 := Lib.hid (fun W => rhas_any p.f 32 W hp.f.1 g1 (by omega) (by omega))
  have H2048 := Lib.hid (fun W => rhas_any p.f 2048 W hp.f.1 g1 (by omega) (by omega))
  have H1 := Lib.hid (fun W => rhas_any p.f 1 W hp.f.1 g1 (by omega) (by omega))
  have HM := Lib.hid (matB_rkd p)
  have HI := Lib.hid (rkd_in p.f)
  have HT : Hid (twoK p.f = true → rkd p.f = -1) := fun h => by unfold rkd; rw [h]; rfl
  have HR : Hid (ptRight p = (!(fb p.f 16 || fb p.f 32 || fb p.f 2048 || decide (8192 ≤ p.f)) && fb p.f 2 && !twoK p.f && matB (knd p.f) p && (fb p.f 1 || (byteB p.x && byteB p.y)))) := rfl
  rw [HR.out]
  clear HR
  unfold byteB ptR
  generalize twoK p.f = tk at *
  generalize rkd p.f = k at *
  generalize matB (knd p.f) p = mb at *
  generalize fb p.f 2 = f2 at *
  generalize fb p.f 16 = f16 at *
  generalize fb p.f 32 = f32 at *
  generalize fb p.f 2048 = f2048 at *
  generalize fb p.f 1 = f1 at *
  have hf0 := hp.f.1
  have hf1 := hp.f.2
  clear hp g1
  obtain ⟨f, i, x, y, xx, xy, yx, yy⟩ := p
  simp only at *
  obtain ⟨c0, c1, c2, c3, c4, c5, c6, c7⟩ := cells8 hk
  go_enter Try.func161, Try.ntmps161
  go_wp2_with fail
  with_reducible refine (HK.out _).mono ?_
  rintro e w1 ⟨rfl, q, hw1⟩
  have hA1 := below_drewN hA q
  rw [← hw1] at hA1
  have hk1 := heap_drewQ hw1 hk
  clear c0 c1 c2 c3 c4 c5 c6 c7 hk
  obtain ⟨c0, c1, c2, c3, c4, c5, c6, c7⟩ := cells8 hk1
  clear hk1
  clear hA hw1 HK
  go_wp2_with fail
  with_reducible refine (H2.out _).mono ?_
  rintro e w2 ⟨rfl, rfl⟩
  cases f2 with
  | false =>
    go_wp2_with fail
    go_ret
    exact ⟨by first | (simp; done) | (simp; intros; omega), hA1⟩
  | true =>
    cases tk with
    | true =>
      obtain rfl := HT.out rfl
      go_wp2_with fail
      go_ret
      exact ⟨by first | (simp; done) | (simp; intros; omega), hA1⟩
    | false =>
      have HI2 := Lib.hid (HI.out rfl)
      have HM2 := Lib.hid (HM.out rfl)
      clear HI HM HT
      have hkge : ¬ k < 0 := by rcases HI2.out with h | h | h | h <;> omega
      go_wp2_with fail
      with_reducible refine (H16.out _).mono ?_
      rintro e w2 ⟨rfl, rfl⟩
      cases f16 with
      | true =>
        go_wp2_with fail
        go_ret
        exact ⟨by first | (simp; done) | (simp; intros; omega), hA1⟩
      | false =>
        go_wp2_with fail
        with_reducible refine (H32.out _).mono ?_
        rintro e w2 ⟨rfl, rfl⟩
        cases f32 with
        | true =>
          go_wp2_with fail
          go_ret
          exact ⟨by first | (simp; done) | (simp; intros; omega), hA1⟩
        | false =>
          go_wp2_with fail
          with_reducible refine (H2048.out _).mono ?_
          rintro e w2 ⟨rfl, rfl⟩
          cases f2048 with
          | true =>
            go_wp2_with fail
            go_ret
            exact ⟨by first | (simp; done) | (simp; intros; omega), hA1⟩
          | false =>
            by_cases hbig : 8192 ≤ f
            · skip
              go_wp2_with fail
              go_ret
              exact ⟨by first | (simp [hbig]; done) | (simp [hbig]; intros; omega), hA1⟩
            · rw [decide_eq_false hbig]
              go_wp2_with fail
              with_reducible refine (H1.out _).mono ?_
              rintro e w2 ⟨rfl, rfl⟩
              cases f1 with
              | true =>
                go_upto_region 7 with fail
                have hA2 := hA1.alloc hA1.size (.cells #[.int .i64 xx, .int .i64 xy, .int .i64 yx, .int .i64 yy] 58)
                have hk2 := heap_alloc_new w1 (.cells #[.int .i64 xx, .int .i64 xy, .int .i64 yx, .int .i64 yy] 58)
                obtain ⟨d0, d1, d2, d3⟩ := cells4R hk2
                clear hk2
                rcases HI2.out with rfl | rfl | rfl | rfl
                · skip
                  by_cases h1 : xy = 0
                  · subst h1
                    by_cases h2 : yx = 0
                    · subst h2
                      by_cases h3 : xx = yy
                      · subst h3
                        have e3 : (xx == xx) = true := by simp
                        by_cases h4 : xx = 16384
                        · subst h4
                          go_wp2
                          go_ret
                          exact ⟨by rw [HM2.out]; first | (simp; done) | (simp; omega), by first | exact hA2 | exact hA2.drew⟩
                        · have e4 : (xx == 16384) = false := by simp [h4]
                          go_wp2
                          go_ret
                          exact ⟨by rw [HM2.out]; first | (simp [h4]; done) | (simp [h4]; omega), by first | exact hA2 | exact hA2.drew⟩
                      · have e3 : (xx == yy) = false := by simp [h3]
                        go_wp2
                        go_ret
                        exact ⟨by rw [HM2.out]; first | (simp [h3]; done) | (simp [h3]; omega), by first | exact hA2 | exact hA2.drew⟩
                    · have e2 : (yx == 0) = false := by simp [h2]
                      go_wp2
                      go_ret
                      exact ⟨by rw [HM2.out]; first | (simp [h2]; done) | (simp [h2]; omega), by first | exact hA2 | exact hA2.drew⟩
                  · have e1 : (xy == 0) = false := by simp [h1]
                    go_wp2
                    go_ret
                    exact ⟨by rw [HM2.out]; first | (simp [h1]; done) | (simp [h1]; omega), by first | exact hA2 | exact hA2.drew⟩
                · skip
                  by_cases h1 : xy = 0
                  · subst h1
                    by_cases h2 : yx = 0
                    · subst h2
                      by_cases h3 : xx = yy
                      · subst h3
                        have e3 : (xx == xx) = true := by simp
                        go_wp2
                        go_ret
                        exact ⟨by rw [HM2.out]; first | (simp; done) | (simp; omega), by first | exact hA2 | exact hA2.drew⟩
                      · have e3 : (xx == yy) = false := by simp [h3]
                        go_wp2
                        go_ret
                        exact ⟨by rw [HM2.out]; first | (simp [h3]; done) | (simp [h3]; omega), by first | exact hA2 | exact hA2.drew⟩
                    · have e2 : (yx == 0) = false := by simp [h2]
                      go_wp2
                      go_ret
                      exact ⟨by rw [HM2.out]; first | (simp [h2]; done) | (simp [h2]; omega), by first | exact hA2 | exact hA2.drew⟩
                  · have e1 : (xy == 0) = false := by simp [h1]
                    go_wp2
                    go_ret
                    exact ⟨by rw [HM2.out]; first | (simp [h1]; done) | (simp [h1]; omega), by first | exact hA2 | exact hA2.drew⟩
                · skip
                  by_cases h1 : xy = 0
                  · subst h1
                    by_cases h2 : yx = 0
                    · subst h2
                      go_wp2
                      go_ret
                      exact ⟨by rw [HM2.out]; first | (simp; done) | (simp; omega), by first | exact hA2 | exact hA2.drew⟩
                    · have e2 : (yx == 0) = false := by simp [h2]
                      go_wp2
                      go_ret
                      exact ⟨by rw [HM2.out]; first | (simp [h2]; done) | (simp [h2]; omega), by first | exact hA2 | exact hA2.drew⟩
                  · have e1 : (xy == 0) = false := by simp [h1]
                    go_wp2
                    go_ret
                    exact ⟨by rw [HM2.out]; first | (simp [h1]; done) | (simp [h1]; omega), by first | exact hA2 | exact hA2.drew⟩
                · skip
                  go_wp2
                  go_ret
                  exact ⟨by rw [HM2.out]; first | (simp; done) | (simp; omega), by first | exact hA2 | exact hA2.drew⟩
              | false =>
                by_cases h_x1 : x < -128
                · rw [decide_eq_false (show ¬ -128 ≤ x by omega)]
                  go_wp2_with fail
                  go_ret
                  exact ⟨by first | (simp; done) | (simp; intros; omega), hA1⟩
                · rw [decide_eq_true (show -128 ≤ x by omega)]
                  by_cases h_x0 : 127 < x
                  · rw [decide_eq_false (show ¬ x ≤ 127 by omega)]
                    go_wp2_with fail
                    go_ret
                    exact ⟨by first | (simp; done) | (simp; intros; omega), hA1⟩
                  · rw [decide_eq_true (show x ≤ 127 by omega)]
                    by_cases h_y1 : y < -128
                    · rw [decide_eq_false (show ¬ -128 ≤ y by omega)]
                      go_wp2_with fail
                      go_ret
                      exact ⟨by first | (simp; done) | (simp; intros; omega), hA1⟩
                    · rw [decide_eq_true (show -128 ≤ y by omega)]
                      by_cases h_y0 : 127 < y
                      · rw [decide_eq_false (show ¬ y ≤ 127 by omega)]
                        go_wp2_with fail
                        go_ret
                        exact ⟨by first | (simp; done) | (simp; intros; omega), hA1⟩
                      · rw [decide_eq_true (show y ≤ 127 by omega)]
                        go_upto_region 7 with fail
                        have hA2 := hA1.alloc hA1.size (.cells #[.int .i64 xx, .int .i64 xy, .int .i64 yx, .int .i64 yy] 58)
                        have hk2 := heap_alloc_new w1 (.cells #[.int .i64 xx, .int .i64 xy, .int .i64 yx, .int .i64 yy] 58)
                        obtain ⟨d0, d1, d2, d3⟩ := cells4R hk2
                        clear hk2
                        rcases HI2.out with rfl | rfl | rfl | rfl
                        · skip
                          by_cases h1 : xy = 0
                          · subst h1
                            by_cases h2 : yx = 0
                            · subst h2
                              by_cases h3 : xx = yy
                              · subst h3
                                have e3 : (xx == xx) = true := by simp
                                by_cases h4 : xx = 16384
                                · subst h4
                                  go_wp2
                                  go_ret
                                  exact ⟨by rw [HM2.out]; first | (simp; done) | (simp; omega), by first | exact hA2 | exact hA2.drew⟩
                                · have e4 : (xx == 16384) = false := by simp [h4]
                                  go_wp2
                                  go_ret
                                  exact ⟨by rw [HM2.out]; first | (simp [h4]; done) | (simp [h4]; omega), by first | exact hA2 | exact hA2.drew⟩
                              · have e3 : (xx == yy) = false := by simp [h3]
                                go_wp2
                                go_ret
                                exact ⟨by rw [HM2.out]; first | (simp [h3]; done) | (simp [h3]; omega), by first | exact hA2 | exact hA2.drew⟩
                            · have e2 : (yx == 0) = false := by simp [h2]
                              go_wp2
                              go_ret
                              exact ⟨by rw [HM2.out]; first | (simp [h2]; done) | (simp [h2]; omega), by first | exact hA2 | exact hA2.drew⟩
                          · have e1 : (xy == 0) = false := by simp [h1]
                            go_wp2
                            go_ret
                            exact ⟨by rw [HM2.out]; first | (simp [h1]; done) | (simp [h1]; omega), by first | exact hA2 | exact hA2.drew⟩
                        · skip
                          by_cases h1 : xy = 0
                          · subst h1
                            by_cases h2 : yx = 0
                            · subst h2
                              by_cases h3 : xx = yy
                              · subst h3
                                have e3 : (xx == xx) = true := by simp
                                go_wp2
                                go_ret
                                exact ⟨by rw [HM2.out]; first | (simp; done) | (simp; omega), by first | exact hA2 | exact hA2.drew⟩
                              · have e3 : (xx == yy) = false := by simp [h3]
                                go_wp2
                                go_ret
                                exact ⟨by rw [HM2.out]; first | (simp [h3]; done) | (simp [h3]; omega), by first | exact hA2 | exact hA2.drew⟩
                            · have e2 : (yx == 0) = false := by simp [h2]
                              go_wp2
                              go_ret
                              exact ⟨by rw [HM2.out]; first | (simp [h2]; done) | (simp [h2]; omega), by first | exact hA2 | exact hA2.drew⟩
                          · have e1 : (xy == 0) = false := by simp [h1]
                            go_wp2
                            go_ret
                            exact ⟨by rw [HM2.out]; first | (simp [h1]; done) | (simp [h1]; omega), by first | exact hA2 | exact hA2.drew⟩
                        · skip
                          by_cases h1 : xy = 0
                          · subst h1
                            by_cases h2 : yx = 0
                            · subst h2
                              go_wp2
                              go_ret
                              exact ⟨by rw [HM2.out]; first | (simp; done) | (simp; omega), by first | exact hA2 | exact hA2.drew⟩
                            · have e2 : (yx == 0) = false := by simp [h2]
                              go_wp2
                              go_ret
                              exact ⟨by rw [HM2.out]; first | (simp [h2]; done) | (simp [h2]; omega), by first | exact hA2 | exact hA2.drew⟩
                          · have e1 : (xy == 0) = false := by simp [h1]
                            go_wp2
                            go_ret
                            exact ⟨by rw [HM2.out]; first | (simp [h1]; done) | (simp [h1]; omega), by first | exact hA2 | exact hA2.drew⟩
                        · skip
                          go_wp2
                          go_ret
                          exact ⟨by rw [HM2.out]; first | (simp; done) | (simp; omega), by first | exact hA2 | exact hA2.drew⟩

end Go.Proofs.Ytdaeffnaoeblpaa

/- The document's glyphs of parts: Right and Same, as contracts over this seat's translation. -/
namespace Go.Proofs.Ytdaeffnaoeblpaa
open Go.RowKit
set_option linter.unusedVariables false
set_option linter.unusedSimpArgs false

theorem codeB_get {ps : List Pt} {p : Pt} {n : Nat} (hn : ps.length = n) (h : ps[n - 1]? = some p) : codeB ps = fb p.f 256 := by subst hn; exact codeB_last h

set_option maxRecDepth 100000 in
set_option maxHeartbeats 4000000 in
theorem rright13_any (v : RcV) (w : World) (hr : v.rows w) (hq1 : v.q ≤ 1000000) (hp1 : v.pn ≤ 1000000) (ho : v.g.ok) : Calls Try.prog 127 #[v.val] w (Ret w (.bool (cRight v.g))) := by
  have hA := (Below.refl w.heap.size w).alloc (Nat.le_refl _) (.cells v.cells 134)
  have hk := heap_alloc_new w (.cells v.cells 134)
  have HQ : Hid (v.g.ps.length = v.q) := hr.ps.len
  have HPl : Hid (v.g.pr.length = v.pn) := hr.pr.len
  have Hrs := Lib.hid hr.ps
  have HPs := Lib.hid ho.ps
  have HRt : Hid (cRight v.g = (decide (1 ≤ v.q) && decide (v.q ≤ 200) && decide (v.pn ≤ 65535) && partsOk v.g.ps v.q && (codeB v.g.ps || decide (v.pn = 0)))) := by
    show _ = _
    unfold cRight
    rw [HQ.out, HPl.out]
  rw [HRt.out]
  clear HRt hr ho HPl
  unfold RcV.val at *
  unfold RcV.cells at *
  obtain ⟨⟨x0, x1, x2, x3, ps, pr⟩, QA, q, qc, PA, pn, pc⟩ := v
  simp only at *
  obtain ⟨c0, c1, c2, c3, c4, c5⟩ := cells6 hk
  by_cases h1 : 1 ≤ q
  case neg =>
    obtain rfl : q = 0 := by omega
    go_enter Try.func127, Try.ntmps127
    go_wp2
    go_ret
    exact ⟨by simp, hA⟩
  by_cases h2 : q ≤ 200
  case neg =>
    rw [decide_eq_false h2]
    have e1 : ¬ (q : Int) < 1 := by omega
    have e2 : (200 : Int) < (q : Int) := by omega
    go_enter Try.func127, Try.ntmps127
    go_wp2
    go_ret
    exact ⟨by simp, hA⟩
  by_cases h3 : pn ≤ 65535
  case neg =>
    rw [decide_eq_false h3]
    have e1 : ¬ (q : Int) < 1 := by omega
    have e2 : ¬ (200 : Int) < (q : Int) := by omega
    have e3 : (65535 : Int) < (pn : Int) := by omega
    go_enter Try.func127, Try.ntmps127
    go_wp2
    go_ret
    exact ⟨by simp, hA⟩
  rw [decide_eq_true h1, decide_eq_true h2, decide_eq_true h3]
  have e1 : ¬ (q : Int) < 1 := by omega
  have e2 : ¬ (200 : Int) < (q : Int) := by omega
  have e3 : ¬ (65535 : Int) < (pn : Int) := by omega
  go_enter Try.func127, Try.ntmps127
  go_wp2
  have hA0 := Lib.hid hA
  have hk0 := Lib.hid hk
  have hne : ∀ g, g < w.heap.size → g ≠ w.heap.size := fun g h => by omega
  generalize w.alloc _ = V at *
  clear c0 c1 c2 c3 c4 c5 hk hA e1 e2 e3
  go_loopw [24] (fun i' wr => ∃ k : Nat, k ≤ q ∧ i' = .int .i64 k ∧ Hid (partsOk ps k = true) ∧ Below V.heap.size V wr) (fun i' _ => q - (intOf i').toNat)
  case atStart => exact ⟨0, Nat.zero_le _, rfl, (rfl : _), Below.refl _ _⟩
  case round =>
    obtain ⟨k, hkq, rfl, HP, hb⟩ := hrel
    have hbw := hA0.out.trans (hb.mono hA0.out.size)
    have hkx := kept_block hk0.out hb
    obtain ⟨c0, c1, c2, c3, c4, c5⟩ := cells6 hkx
    by_cases hlt : k < q
    · obtain ⟨p, hp⟩ : ∃ p, ps[k]? = some p := ⟨ps[k]'(by have := HQ.out; omega), List.getElem?_eq_getElem (by have := HQ.out; omega)⟩
      have hpo := HPs.out p (List.mem_of_getElem? hp)
      obtain ⟨g, off, rfl, hg, d0, d1, d2, d3, d4, d5, d6, d7⟩ := atRt (Hrs.out.below hbw) hp
      have HF : Hid (∀ W, Calls Try.prog 161 #[ptR p] W (Ret W (.bool (ptRight p)))) := fun W => rfits_any p hpo W
      have HH : Hid (∀ W, Calls Try.prog 126 #[.int .i64 p.f, .int .i64 256] W fun e w' => e = .returned (.bool (fb p.f 256)) ∧ W = w') := fun W => rhas_any p.f 256 W hpo.f.1 (by have := hpo.f.2; omega) (by omega) (by omega)
      have HS : Hid (partsOk ps (k + 1) = (ptRight p && !(decide (k + 1 < q) && fb p.f 256))) := by
        show _ = _
        rw [partsOk_succ, HP.out, hp, HQ.out]
        simp
      have HNo : Hid ((ptRight p && !(decide (k + 1 < q) && fb p.f 256)) = false → partsOk ps q = false) := fun h => partsOk_not hp (by rw [HQ.out]; exact h) hlt
      have hA1 := (Below.refl wr.heap.size wr).alloc (Nat.le_refl _) (.cells #[.int .i64 p.f, .int .i64 p.i, .int .i64 p.x, .int .i64 p.y, .int .i64 p.xx, .int .i64 p.xy, .int .i64 p.yx, .int .i64 p.yy] 138)
      have hkp := heap_alloc_new wr (.cells #[.int .i64 p.f, .int .i64 p.i, .int .i64 p.x, .int .i64 p.y, .int .i64 p.xx, .int .i64 p.xy, .int .i64 p.yx, .int .i64 p.yy] 138)
      have hb1 := hb.trans (hA1.mono hb.size)
      clear hp hpo HP
      unfold ptR at HF
      obtain ⟨pf, pi, px, py, pxx, pxy, pyx, pyy⟩ := p
      simp only at *
      generalize ptRight ⟨pf, pi, px, py, pxx, pxy, pyx, pyy⟩ = pr1 at *
      generalize fb pf 256 = b256 at *
      have u0 : (0 : Int) ≤ (k : Int) := by omega
      have u1 : (k : Int) < (q : Int) := by omega
      obtain ⟨f0, f1, f2, f3, f4, f5, f6, f7⟩ := cells8 hkp
      go_upto_region 7 with fail
      generalize wr.alloc _ = V1 at *
      clear d0 d1 d2 d3 d4 d5 d6 d7 c0 c1 c2 c3 c4 c5 hA1
      go_wp2_with fail
      with_reducible refine (HF.out _).mono ?_
      rintro e w2 ⟨rfl, hb2⟩
      have hb12 := hb1.trans (hb2.mono hb1.size)
      have hkp2 := kept_block hkp hb2
      clear f0 f1 f2 f3 f4 f5 f6 f7 hkp hb2 HF
      obtain ⟨f0, f1, f2, f3, f4, f5, f6, f7⟩ := cells8 hkp2
      have hbw2 := hA0.out.trans (hb12.mono hA0.out.size)
      cases pr1 with
      | false =>
        have hno := HNo.out rfl
        go_wp2
        go_ret
        exact ⟨by rw [hno]; simp, hbw2⟩
      | true =>
        by_cases hl : k + 1 < q
        · have u2 : (k : Int) < (q : Int) - 1 := by omega
          rw [decide_eq_true hl] at HS HNo
          go_wp2_with fail
          with_reducible refine (HH.out _).mono ?_
          rintro e w3 ⟨rfl, rfl⟩
          cases b256 with
          | true =>
            have hno := HNo.out rfl
            go_wp2
            go_ret
            exact ⟨by rw [hno]; simp, hbw2⟩
          | false =>
            go_wp2
            go_roundw
            case rel => exact ⟨k + 1, by omega, by go_num, (HS.out : _), hb12⟩
            case measure => simp [intOf]; omega
        · have u2 : ¬ (k : Int) < (q : Int) - 1 := by omega
          rw [decide_eq_false hl] at HS HNo
          go_wp2
          go_roundw
          case rel => exact ⟨k + 1, by omega, by go_num, (HS.out : _), hb12⟩
          case measure => simp [intOf]; omega
    · obtain rfl : k = q := by omega
      obtain ⟨p, hp⟩ : ∃ p, ps[k - 1]? = some p := ⟨ps[k - 1]'(by have := HQ.out; omega), List.getElem?_eq_getElem (by have := HQ.out; omega)⟩
      have hpo := HPs.out p (List.mem_of_getElem? hp)
      obtain ⟨g, off, rfl, hg, d0, d1, d2, d3, d4, d5, d6, d7⟩ := atRt (Hrs.out.below hbw) hp
      have HH : Hid (∀ W, Calls Try.prog 126 #[.int .i64 p.f, .int .i64 256] W fun e w' => e = .returned (.bool (fb p.f 256)) ∧ W = w') := fun W => rhas_any p.f 256 W hpo.f.1 (by have := hpo.f.2; omega) (by omega) (by omega)
      have HC : Hid (codeB ps = fb p.f 256) := codeB_get HQ.out hp
      have HPk : Hid (partsOk ps k = true) := HP.out
      clear hp hpo HP
      have u0 : (0 : Int) ≤ (k : Int) - 1 := by omega
      have u1 : (k : Int) - 1 < (k : Int) := by omega
      have u2 : ((k : Int) - 1).toNat = k - 1 := by omega
      generalize fb p.f 256 = b256 at *
      go_wp2_with fail
      with_reducible refine (HH.out _).mono ?_
      rintro e w3 ⟨rfl, rfl⟩
      cases b256 with
      | true =>
        go_wp2
        go_ret
        exact ⟨by rw [HPk.out, HC.out]; simp, hbw⟩
      | false =>
        by_cases hp0 : pn = 0
        · subst hp0
          go_wp2
          go_ret
          exact ⟨by rw [HPk.out, HC.out]; simp, hbw⟩
        · have e0 : ((pn : Int) == 0) = false := by simp; omega
          go_wp2
          go_ret
          exact ⟨by rw [HPk.out, HC.out]; simp [hp0], hbw⟩

end Go.Proofs.Ytdaeffnaoeblpaa

/- The document's Parse of glyphs made of parts: when there is none: plain lists. -/
namespace Go.Proofs.Ytdaeffnaoeblpaa
open Go.RowKit
set_option linter.unusedVariables false

/-- The parts so far are the first ones of all. -/
structure PJ (zs : List Int) (k : Nat) (s : PS) : Prop where
  len : s.ps.length = k
  le : k ≤ 200
  all : pLoop zs (201 - k) s = pAll zs 10
  at_ : 10 ≤ s.at_
theorem PJ.zero (zs : List Int) : PJ zs 0 ⟨[], 10, true⟩ := ⟨rfl, by omega, rfl, Nat.le_refl _⟩
section
variable {zs : List Int} {k : Nat} {s : PS}
theorem PJ.next (h : PJ zs k s) (hg : s.go = true) (hk : k < 200) : PJ zs (k + 1) (pNext zs s) := by
  refine ⟨by rw [pNext_len, h.len], by omega, ?_, ?_⟩
  · rw [← h.all, pLoop_step hg (by omega)]
    rfl
  · have := h.at_
    show 10 ≤ s.at_ + _
    omega
theorem cOk_none_len (h : zs.length < (pAll zs 10).at_) : cOk zs = false := by
  unfold cOk
  have h2 : ¬ cgEnd zs 2 ≤ zs.length := by
    unfold cgEnd
    split
    · show ¬ (pAll zs 10).at_ + 2 + _ ≤ _; omega
    · show ¬ (pAll zs 10).at_ ≤ _; omega
  rw [decide_eq_false h2, Bool.and_false]
  rfl
theorem cOk_none_right (h : cRight (cgRd zs 2) = false) : cOk zs = false := by
  unfold cOk
  rw [h, Bool.and_false]
theorem PJ.no_len (h : PJ zs k s) (hg : s.go = true) (hl : zs.length < (pNext zs s).at_) : cOk zs = false := by
  refine cOk_none_len ?_
  have := h.le
  rw [← h.all, pLoop_step hg (by omega)]
  exact Nat.lt_of_lt_of_le hl (pLoop_mono zs _ _)
theorem pLoop_mem {zs : List Int} : ∀ (m : Nat) (t : PS) (p : Pt), p ∈ t.ps → p ∈ (pLoop zs m t).ps
  | 0, _, _, h => h
  | m + 1, t, p, h => by
    unfold pLoop
    split
    · exact pLoop_mem m _ p (by unfold pNext; simp [h])
    · exact h
theorem pLoop_len {zs : List Int} : ∀ (m : Nat) (t : PS), t.ps.length ≤ (pLoop zs m t).ps.length
  | 0, _ => Nat.le_refl _
  | m + 1, t => by
    unfold pLoop
    split
    · have := pLoop_len (zs := zs) m (pNext zs t)
      rw [pNext_len] at this
      omega
    · exact Nat.le_refl _
theorem cRight_not_mem {g : Cg} {p : Pt} (hp : p ∈ g.ps) (h : ptRight p = false) : cRight g = false := by
  rw [Bool.eq_false_iff]
  intro hr
  obtain ⟨_, _, _, hps⟩ := cRight_parts hr
  obtain ⟨j, hj⟩ := List.getElem?_of_mem hp
  have := partsOk_at hps (List.getElem?_eq_some_iff.1 hj).1 hj
  rw [h] at this
  cases this
theorem PJ.no_two (h : PJ zs k s) (hg : s.go = true) (ht : twoK (n2at zs s.at_) = true) : cOk zs = false := by
  refine cOk_none_right (cRight_not_mem (p := rdP zs (n2at zs s.at_) (knd (n2at zs s.at_)) (fb (n2at zs s.at_) 1) s.at_) ?_ ?_)
  · show _ ∈ (pAll zs 10).ps
    have := h.le
    rw [← h.all, pLoop_step hg (by omega)]
    exact pLoop_mem _ _ _ (by unfold pNext; simp)
  · have h2 : twoK (clr (n2at zs s.at_)) = true := by
      unfold twoK at *
      obtain ⟨_, a, b, c, _⟩ := fb_clr (n2at zs s.at_)
      rw [a, b, c]
      exact ht
    unfold ptRight
    rw [show (rdP zs (n2at zs s.at_) (knd (n2at zs s.at_)) (fb (n2at zs s.at_) 1) s.at_).f = clr (n2at zs s.at_) from rfl, h2]
    simp
theorem PJ.no_many (h : PJ zs 200 s) (hg : s.go = true) : cOk zs = false := by
  refine cOk_none_right ?_
  have hl : 201 ≤ (pAll zs 10).ps.length := by
    rw [← h.all, pLoop_step hg (by omega)]
    have := pLoop_len (zs := zs) 0 (pNext zs s)
    rw [pNext_len, h.len] at this
    exact this
  unfold cRight
  rw [show (cgRd zs 2).ps = (pAll zs 10).ps from rfl, decide_eq_false (show ¬ (pAll zs 10).ps.length ≤ 200 by omega)]
  simp
theorem PJ.stop (h : PJ zs k s) (hg : s.go = false) : pAll zs 10 = s := by
  rw [← h.all, pLoop_end (.inl hg)]
end
theorem cOk_short {zs : List Int} (h : zs.length < 16) : cOk zs = false := by
  refine cOk_none_len ?_
  have h1 : pAll zs 10 = pLoop zs 200 (pNext zs ⟨[], 10, true⟩) := rfl
  have h2 := pLoop_mono zs 200 (pNext zs ⟨[], 10, true⟩)
  have h3 := pSz_pos (knd (n2at zs 10)) (fb (n2at zs 10) 1)
  have h4 : (pNext zs ⟨[], 10, true⟩).at_ = 10 + pSz (knd (n2at zs 10)) (fb (n2at zs 10) 1) := rfl
  rw [h1]
  omega
theorem cOk_mark {zs : List Int} (h : n2at zs 0 ≠ 65535) : cOk zs = false := by
  unfold cOk
  rw [decide_eq_false h]
  rfl
theorem cOk_code {zs : List Int} (hc : codeB (pAll zs 10).ps = true) (h : zs.length < (pAll zs 10).at_ + 2 + (n2at zs (pAll zs 10).at_).toNat) : cOk zs = false := by
  unfold cOk
  have h2 : ¬ cgEnd zs 2 ≤ zs.length := by
    unfold cgEnd
    rw [show (2 : Nat) + 8 = 10 from rfl, if_pos hc]
    omega
  rw [decide_eq_false h2, Bool.and_false]
  rfl
/-- As many bytes as the numbers of a matrix have. -/
theorem mSz_rkd {f : Int} (h : twoK f = false) : (mSz (knd f) : Int) = 2 * rkd f := by
  unfold rkd
  rw [h]
  unfold twoK at h
  unfold knd mSz
  revert h
  cases fb f 8 <;> cases fb f 64 <;> cases fb f 128 <;> simp
theorem mA_rkd {f : Int} (zs : List Int) (j : Nat) (h : twoK f = false) : mA zs (knd f) j = if rkd f = 1 then (sgn (n2at zs j), 0, 0, sgn (n2at zs j)) else if rkd f = 2 then (sgn (n2at zs j), 0, 0, sgn (n2at zs (j + 2))) else if rkd f = 4 then (sgn (n2at zs j), sgn (n2at zs (j + 2)), sgn (n2at zs (j + 4)), sgn (n2at zs (j + 6))) else (16384, 0, 0, 16384) := by
  unfold rkd
  rw [h]
  unfold twoK at h
  unfold knd mA
  revert h
  cases fb f 8 <;> cases fb f 64 <;> cases fb f 128 <;> simp
theorem told_winC (zs : List Int) (M i m : Nat) (h : i + m ≤ M) : told ((zs.take M).drop i) m = told (zs.drop i) m := by
  unfold told
  rw [List.length_drop, List.length_take, List.length_drop, List.drop_take, List.take_take, Nat.min_eq_left (show m ≤ M - i by omega)]
  by_cases hc : m ≤ zs.length - i
  · rw [if_pos hc, if_pos (by omega)]
  · rw [if_neg hc, if_neg (by omega)]
theorem n2at_winC (zs : List Int) {a m i : Nat} (h : i + 2 ≤ m) : n2at ((zs.drop a).take m) i = n2at zs (a + i) := by
  unfold n2at num
  rw [told_winC _ m i 2 h, List.drop_drop]
theorem n1at_winC (zs : List Int) {a m i : Nat} (h : i + 1 ≤ m) : n1at ((zs.drop a).take m) i = n1at zs (a + i) := by
  unfold n1at num
  rw [told_winC _ m i 1 h, List.drop_drop]

end Go.Proofs.Ytdaeffnaoeblpaa

/- The loops of a function's code, to be spoken of one by one. -/
namespace Go.Proofs.Ytdaeffnaoeblpaa
open Go.RowKit

/-- The bodies of the loops of a piece of code, outer ones first. -/
def loopsOf : Code → List Code
  | .loop c => c :: loopsOf c
  | .seq a b => loopsOf a ++ loopsOf b
  | .block _ c => loopsOf c
  | .scope c => loopsOf c
  | .cond _ a b => loopsOf a ++ loopsOf b
  | _ => []

end Go.Proofs.Ytdaeffnaoeblpaa
