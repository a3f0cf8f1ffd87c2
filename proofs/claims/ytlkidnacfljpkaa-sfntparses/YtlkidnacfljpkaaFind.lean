/- What Find and Same answer, the program's and the document's, as contracts over this seat's translation. -/
import Derived.Test.YtlkidnacfljpkaaFew
import Derived.Test.YtlkidnacfljpkaaReg
namespace Go.Proofs.Ytlkidnacfljpkaa
open Go.RowKit Go.Shelf
set_option linter.unusedVariables false

theorem u8s_inj : ∀ {a b : List Int}, Bytes a → Bytes b → u8s a = u8s b → a = b
  | [], [], _, _, _ => rfl
  | [], _ :: _, _, _, h => by simp [u8s] at h
  | _ :: _, [], _, _, h => by simp [u8s] at h
  | x :: a, y :: b, ha, hb, h => by
    simp only [u8s, List.map_cons, List.cons.injEq] at h
    have hx := ha x (by simp)
    have hy := hb y (by simp)
    have h1 := congrArg UInt8.toNat h.1
    simp only [UInt8.toNat_ofNat'] at h1
    have e : x = y := by omega
    rw [e, u8s_inj (fun z hz => ha z (by simp [hz])) (fun z hz => hb z (by simp [hz])) h.2]

theorem u8s_same {a b : List Int} (ha : Bytes a) (hb : Bytes b) : (u8s a == u8s b) = sameB a b := by
  unfold sameB
  rw [Bool.eq_iff_iff]
  simp only [beq_iff_eq, decide_eq_true_eq]
  exact ⟨u8s_inj ha hb, fun h => by rw [h]⟩

theorem equal_any (A B : Option Addr) (n c m d : Nat) (xs ys : List Int) (w : World) (hx : Row w A n (cellsOf .u8 xs)) (hy : Row w B m (cellsOf .u8 ys)) (bx : Bytes xs) (by_ : Bytes ys) :
    Calls Try.prog 51 #[.slice A n c, .slice B m d] w fun e w' => e = .returned (.bool (sameB xs ys)) ∧ w = w' := by
  have h1 := conv_str A n c xs w hx
  have h2 := conv_str B m d ys w hy
  have h3 := u8s_same bx by_
  rw [← strOf_list, ← strOf_list] at h3
  have H3 := Lib.hid h3
  clear hx hy h3
  generalize strOfNums xs = s at *
  generalize strOfNums ys = t at *
  go_enter Try.func51, Try.ntmps51
  go_wp2
  go_ret
  rw [← H3.out]
  exact ⟨rfl, rfl⟩

/-- Are two tables alike? -/
def eqT (x y : Tab) : Bool := decide (x.tag.toList = y.tag.toList) && sameB x.zs y.zs

set_option maxHeartbeats 400000 in
theorem same1_any (x y : Tab) (w : World) (hx : Row w x.A x.n (cellsOf .u8 x.zs)) (hy : Row w y.A y.n (cellsOf .u8 y.zs)) (bx : Bytes x.zs) (by_ : Bytes y.zs) :
    Calls Try.prog 50 #[tabV x, tabV y] w fun e w' => e = .returned (.bool (eqT x y)) ∧ Below w.heap.size w w' := by
  have hW : Below w.heap.size w ((w.alloc (.cells (encT x).toArray 30)).alloc (.cells (encT y).toArray 30)) := ((Below.refl _ _).alloc (Nat.le_refl _) _).alloc (by simp) _
  have he := equal_any x.A y.A x.n x.c y.n y.c x.zs y.zs _ (hx.below hW) (hy.below hW) bx by_
  have HW := Lib.hid hW
  have HE := Lib.hid he
  clear hW he hx hy bx by_
  obtain ⟨xt, xA, xn, xc, xz⟩ := x
  obtain ⟨yt, yA, yn, yc, yz⟩ := y
  simp only [encT] at HE HW
  by_cases ht : xt.toList = yt.toList
  · have h1 : (xt.toList == yt.toList) = true := by simp [ht]
    have H : Hid (eqT ⟨xt, xA, xn, xc, xz⟩ ⟨yt, yA, yn, yc, yz⟩ = sameB xz yz) := by show _ = _; unfold eqT; simp [ht]
    clear ht
    go_enter Try.func50, Try.ntmps50
    go_wp2_with fail
    refine HE.out.mono ?_
    rintro e w' ⟨rfl, rfl⟩
    go_wp2
    go_ret
    rw [H.out]
    exact ⟨rfl, HW.out⟩
  · have h1 : (xt.toList == yt.toList) = false := by simp [ht]
    have H : Hid (eqT ⟨xt, xA, xn, xc, xz⟩ ⟨yt, yA, yn, yc, yz⟩ = false) := by show _ = _; unfold eqT; simp [ht]
    clear ht
    go_enter Try.func50, Try.ntmps50
    go_wp2
    go_ret
    rw [H.out]
    exact ⟨rfl, HW.out⟩

/-- Are the first k alike? -/
def eqK (a b : List Tab) (k : Nat) : Bool := (List.range k).all fun i => eqT (a.getD i default) (b.getD i default)
theorem eqK_succ (a b : List Tab) (k : Nat) : eqK a b (k + 1) = (eqK a b k && eqT (a.getD k default) (b.getD k default)) := by simp [eqK, List.range_succ]
def sameL (a b : List Tab) : Bool := decide (a.length = b.length) && eqK a b a.length
theorem getD_get {l : List Tab} {k : Nat} {t : Tab} (h : l[k]? = some t) : l.getD k default = t := by rw [List.getD_eq_getElem?_getD, h]; rfl

/-- What is asked of tables that are held against one another. -/
def Tab.fair (w : World) (t : Tab) : Prop := Row w t.A t.n (cellsOf .u8 t.zs) ∧ Bytes t.zs
theorem Tab.fair.below {w w' : World} {t : Tab} (h : t.fair w) (hb : Below w.heap.size w w') : t.fair w' := ⟨h.1.below hb, h.2⟩

set_option maxRecDepth 100000 in
set_option maxHeartbeats 1000000 in
theorem equalF_any (A B : Option Addr) (n c m d : Nat) (a b : List Tab) (w : World) (ha : RowS encT 2 w A n a) (hb : RowS encT 2 w B m b) (fa : ∀ t ∈ a, t.fair w) (fb : ∀ t ∈ b, t.fair w) (hn : n ≤ 1000000) (hm : m ≤ 1000000) :
    Calls Try.prog 49 #[.slice A n c, .slice B m d, .func (.func 50) #[] #[]] w (Ret w (.bool (sameL a b))) := by
  have Ha := Lib.hid ha.len
  have Hb := Lib.hid hb.len
  have FA := Lib.hid fa
  have FB := Lib.hid fb
  clear fa fb
  by_cases hnm : n = m
  · subst hnm
    have hne : ((n : Int) != (n : Int)) = false := by simp
    go_enter Try.func49, Try.ntmps49
    go_wp2
    clear hne
    go_loopw [17] (fun i wr => ∃ k : Nat, k ≤ n ∧ i = .int .i64 k ∧ eqK a b k = true ∧ Below w.heap.size w wr) (fun i _ => n - (intOf i).toNat)
    case atStart => exact ⟨0, Nat.zero_le _, rfl, rfl, Below.refl _ _⟩
    case round =>
      obtain ⟨k, hk, rfl, he, hbel⟩ := hrel
      have HE := Lib.hid he
      clear he
      by_cases hlt : k < n
      · obtain ⟨x, ex⟩ : ∃ x, a[k]? = some x := ⟨a[k]'(by have := Ha.out; omega), List.getElem?_eq_getElem (by have := Ha.out; omega)⟩
        obtain ⟨y, ey⟩ : ∃ y, b[k]? = some y := ⟨b[k]'(by have := Hb.out; omega), List.getElem?_eq_getElem (by have := Hb.out; omega)⟩
        obtain ⟨g, off, rfl, hg, hcl⟩ := (ha.below hbel).at encT_len (by omega) ex
        obtain ⟨g2, off2, rfl, hg2, hcl2⟩ := (hb.below hbel).at encT_len (by omega) ey
        have q0 : wr.cell? ⟨g, off + k * 2, none⟩ = some (.string x.tag) := hcl 0 _ rfl
        have q1 : wr.cell? ⟨g, off + k * 2 + 1, none⟩ = some (.slice x.A x.n x.c) := hcl 1 _ rfl
        have p0 : wr.cell? ⟨g2, off2 + k * 2, none⟩ = some (.string y.tag) := hcl2 0 _ rfl
        have p1 : wr.cell? ⟨g2, off2 + k * 2 + 1, none⟩ = some (.slice y.A y.n y.c) := hcl2 1 _ rfl
        have hW : Below wr.heap.size wr ((wr.alloc (.cells (encT x).toArray 30)).alloc (.cells (encT y).toArray 30)) := ((Below.refl _ _).alloc (Nat.le_refl _) _).alloc (by simp) _
        have fx := ((FA.out x (List.mem_of_getElem? ex)).below hbel).below hW
        have fy := ((FB.out y (List.mem_of_getElem? ey)).below hbel).below hW
        have hs1 := same1_any x y _ fx.1 fy.1 fx.2 fy.2
        have hbW := hbel.trans (hW.mono hbel.size)
        have HS : Hid (eqK a b (k + 1) = eqT x y) := by show _ = _; rw [eqK_succ, HE.out, getD_get ex, getD_get ey]; rfl
        have HS1 := Lib.hid hs1
        have HbW := Lib.hid hbW
        clear hs1 hbW fx fy hW hcl hcl2 ex ey hbel
        obtain ⟨xt, xA, xn, xc, xz⟩ := x
        obtain ⟨yt, yA, yn, yc, yz⟩ := y
        simp only [encT] at q0 q1 p0 p1 HS1 HbW
        go_wp2_with fail
        refine HS1.out.mono ?_
        rintro e w1 ⟨rfl, hb1⟩
        have hbf := HbW.out.trans (hb1.mono HbW.out.size)
        clear hb1 HS1 HbW
        generalize hq : eqT ⟨xt, xA, xn, xc, xz⟩ ⟨yt, yA, yn, yc, yz⟩ = q at *
        cases q with
        | true =>
          clear hq
          go_wp2
          go_roundw
          case rel => exact ⟨k + 1, by omega, by go_num, HS.out, hbf⟩
          case measure => simp [intOf]; omega
        | false =>
          have HF : Hid (sameL a b = false) := by
            show _ = _
            unfold sameL
            rw [Bool.and_eq_false_iff]
            right
            unfold eqK
            rw [List.all_eq_false]
            refine ⟨k, List.mem_range.2 (by have := Ha.out; omega), ?_⟩
            have := HS.out
            rw [eqK_succ, HE.out, Bool.true_and] at this
            rw [this]
            simp
          clear hq
          go_wp2
          go_ret
          rw [HF.out]
          exact ⟨rfl, hbf⟩
      · have HF : Hid (sameL a b = true) := by
          show _ = _
          unfold sameL
          rw [Ha.out, Hb.out, show n = k by omega, HE.out]
          simp
        go_wp2
        go_ret
        rw [HF.out]
        exact ⟨rfl, hbel⟩
  · have hne : ((n : Int) != (m : Int)) = true := by simp; omega
    have HF : Hid (sameL a b = false) := by
      show _ = _
      unfold sameL
      rw [Ha.out, Hb.out]
      simp [hnm]
    go_enter Try.func49, Try.ntmps49
    go_wp2
    go_ret
    rw [HF.out]
    exact ⟨rfl, Below.refl _ _⟩

theorem sameT_any (A B : Option Addr) (n c m d : Nat) (a b : List Tab) (w : World) (ha : RowS encT 2 w A n a) (hb : RowS encT 2 w B m b) (fa : ∀ t ∈ a, t.fair w) (fb : ∀ t ∈ b, t.fair w) (hn : n ≤ 1000000) (hm : m ≤ 1000000) :
    Calls Try.prog 19 #[.slice A n c, .slice B m d] w (Ret w (.bool (sameL a b))) := by
  have H := Lib.hid (equalF_any A B n c m d a b w ha hb fa fb hn hm)
  clear ha hb fa fb
  go_enter Try.func19, Try.ntmps19
  go_wp2_with fail
  refine H.out.mono ?_
  rintro e w1 ⟨rfl, hb1⟩
  go_wp2
  go_ret
  exact ⟨rfl, hb1⟩

/-- The first table of a tag. -/
def findIx (tag : List UInt8) : List Tab → Option Nat
  | [] => none
  | t :: r => if t.tag.toList = tag then some 0 else (findIx tag r).map (· + 1)
theorem findIx_some (tag : List UInt8) : ∀ (l : List Tab) (i : Nat), findIx tag l = some i → ∃ t, l[i]? = some t ∧ t.tag.toList = tag
  | [], i, h => by simp [findIx] at h
  | t :: r, i, h => by
    unfold findIx at h
    split at h
    · simp at h
      subst h
      exact ⟨t, rfl, by assumption⟩
    · cases hr : findIx tag r with
      | none => simp [hr] at h
      | some j =>
        simp [hr] at h
        subst h
        obtain ⟨t', h1, h2⟩ := findIx_some tag r j hr
        exact ⟨t', by simpa using h1, h2⟩
def ixI : Option Nat → Int
  | none => -1
  | some j => (j : Int)
theorem findIx_by (tag : List UInt8) : ∀ (l : List Tab) (i : Nat), Lib.idxByFrom (fun _ (y : Tab) => y.tag.toList == tag) default l i = match findIx tag l with | none => -1 | some j => ((i + j : Nat) : Int)
  | [], _ => rfl
  | t :: r, i => by
    have ih := findIx_by tag r (i + 1)
    unfold Lib.idxByFrom findIx
    by_cases hb : t.tag.toList = tag
    · rw [if_pos hb, if_pos (by simp [hb])]
      simp
    · rw [if_neg hb, if_neg (by simp [hb]), ih]
      cases hr : findIx tag r with
      | none => rfl
      | some j =>
        show ((i + 1 + j : Nat) : Int) = ((i + (j + 1) : Nat) : Int)
        rw [show i + 1 + j = i + (j + 1) by omega]

theorem predF (tag : ByteArray) (B : Nat) (w : World) (hB : B < w.heap.size) (hcell : w.cell? ⟨B, 0, none⟩ = some (.string tag)) :
    PredBelow Try.prog 48 #[.pointer (some ⟨B, 0, none⟩)] (fun x => .agg (encT x).toArray) (fun x => x.tag.toList == tag.toList) w := fun W x hb => by
  have hc : W.cell? ⟨B, 0, none⟩ = some (.string tag) := (hb.cell (p := ⟨B, 0, none⟩) hB).trans hcell
  have hBW : B < W.heap.size := Nat.lt_of_lt_of_le hB hb.size
  have hne : B ≠ W.heap.size := by omega
  obtain ⟨xt, xA, xn, xc, xz⟩ := x
  show Calls Try.prog 48 #[.agg #[.string xt, .slice xA xn xc], .pointer (some ⟨B, 0, none⟩)] W _
  have hA := hb.alloc hb.size (.cells #[.string xt, .slice xA xn xc] 30)
  have HA := Lib.hid hA
  clear hcell hb hA
  go_enter Try.func48, Try.ntmps48
  go_wp2
  go_ret
  exact ⟨rfl, HA.out⟩

/-- What Find leaves. -/
def RetFind (w : World) (l : List Tab) (tag : List UInt8) (e : Ending) (w' : World) : Prop :=
  (findIx tag l = none ∧ e = .returned (.tuple #[.slice none 0 0, .bool false]) ∧ Below w.heap.size w w') ∨
  ∃ i t A n c, findIx tag l = some i ∧ l[i]? = some t ∧ e = .returned (.tuple #[.slice A n c, .bool true]) ∧ OwnB w' w.heap.size A n c t.zs ∧ Below w.heap.size w w'

theorem slices_none (A : Option Addr) (c : Nat) : True := trivial

set_option maxHeartbeats 1000000 in
theorem find_any (A : Option Addr) (n c : Nat) (l : List Tab) (tag : ByteArray) (w : World) (hr : RowS encT 2 w A n l) (h0 : 0 < n) (hn : n ≤ 1000000) (fa : ∀ t ∈ l, t.fair w ∧ t.n ≤ 100000000) :
    Calls Try.prog 18 #[.slice A n c, .string tag] w (RetFind w l tag.toList) := by
  obtain ⟨g, off, rfl, hg, _⟩ := hr.2.2 (by omega)
  have eg : ∀ args w, (callFunc 48 args).run Try.prog w = .ok (.enter 48 args) w := enters_of Try.func48 (by kernel_rfl) rfl
  have hA : Below w.heap.size w (w.alloc (.cells #[.string tag] 9)) := (Below.refl _ _).alloc (Nat.le_refl _) _
  have hr1 := hr.below hA
  have Hn := Lib.hid hr.len
  have FA := Lib.hid fa
  clear fa
  have hcon := AnyQ.slices_IndexFunc Try.layIndexT 2 Try.isAgg30 Try.sizeOf30 encT encT_len (fun x => x.tag.toList == tag.toList) 48 #[.pointer (some ⟨w.heap.size, 0, none⟩)] eg g off n c l (w.alloc (.cells #[.string tag] 9))
    (predF tag w.heap.size _ (by simp) (by simp)) (by have := Hn.out; omega) (by omega) (by simp; omega) (fun j hj i v hi => by
      obtain ⟨g', off', e', _, hc⟩ := hr1.at encT_len (by omega) (j := j) (x := l[j]!) (by rw [getElem!_pos l j hj]; exact List.getElem?_eq_getElem hj)
      simp only [Option.some.injEq, Addr.mk.injEq, and_true] at e'
      obtain ⟨rfl, rfl⟩ := e'
      exact hc i v hi)
  change Calls Try.prog 28 _ _ _ at hcon
  rw [List.take_of_length_le (by have := Hn.out; omega)] at hcon
  rw [show Lib.idxBy (fun _ (y : Tab) => y.tag.toList == tag.toList) l default = ixI (findIx tag.toList l) by unfold Lib.idxBy; rw [findIx_by]; cases findIx tag.toList l <;> simp [ixI]] at hcon
  have HC := Lib.hid hcon
  clear hcon
  have HA := Lib.hid hA
  clear hA hr1
  go_enter Try.func18, Try.ntmps18
  go_wp2_with fail
  refine HC.out.mono ?_
  rintro e w1 ⟨rfl, hb1⟩
  have hb := HA.out.trans (hb1.mono HA.out.size)
  clear hb1 HC HA
  cases hix : findIx tag.toList l with
  | none =>
    simp only [ixI]
    go_wp2
    go_ret2
    exact .inl ⟨hix, rfl, hb⟩
  | some i =>
    obtain ⟨t, ht, _⟩ := findIx_some _ _ _ hix
    have hi : i < n := by have := (List.getElem?_eq_some_iff.1 ht).1; have := Hn.out; omega
    obtain ⟨g', off', e', _, hc⟩ := (hr.below hb).at encT_len (by omega) ht
    simp only [Option.some.injEq, Addr.mk.injEq, and_true] at e'
    obtain ⟨rfl, rfl⟩ := e'
    have q1 : w1.cell? ⟨g, off + i * 2 + 1, none⟩ = some (.slice t.A t.n t.c) := hc 1 _ rfl
    have hf := FA.out t (List.mem_of_getElem? ht)
    have Hix := Lib.hid hix
    have Ht := Lib.hid ht
    have hsz := hb.size
    clear hc hix ht
    simp only [ixI]
    go_wp2_with fail
    refine (clone_any _ _ _ t.zs _ (hf.1.below hb).1 (by omega)).mono ?_
    rintro e w2 ⟨A2, n2, c2, rfl, hown, hb2⟩
    go_wp2
    go_ret2
    exact .inr ⟨i, t, A2, n2, c2, Hix.out, Ht.out, rfl, hown.mono hsz, hb.trans (hb2.mono hsz)⟩

set_option maxHeartbeats 1000000 in
theorem rfind_any (A : Option Addr) (n c : Nat) (l : List Tab) (tag : ByteArray) (w : World) (hr : RowS encT 2 w A n l) (hn : n ≤ 1000000) :
    Calls Try.prog 43 #[.slice A n c, .string tag] w (Ret w (.int .i64 (ixI (findIx tag.toList l)))) := by
  have Hn := Lib.hid hr.len
  have key : ∀ (l : List Tab) (k : Nat) (t : Tab), l[k]? = some t → findIx tag.toList (l.take k) = none → (t.tag.toList = tag.toList → findIx tag.toList l = some k) ∧ (t.tag.toList ≠ tag.toList → findIx tag.toList (l.take (k + 1)) = none) := by
    intro l
    induction l with
    | nil => intro k t h; simp at h
    | cons x l ih =>
      intro k t h hno
      cases k with
      | zero =>
        simp at h
        subst h
        exact ⟨fun e => by rw [findIx, if_pos e], fun e => by simp [findIx, e]⟩
      | succ k =>
        rw [List.take_succ_cons, findIx] at hno
        split at hno
        · cases hno
        · rename_i hx
          have hno' : findIx tag.toList (l.take k) = none := by cases h' : findIx tag.toList (l.take k) with | none => rfl | some j => rw [h'] at hno; simp at hno
          have := ih k t (by simpa using h) hno'
          exact ⟨fun e => by rw [findIx, if_neg hx, this.1 e]; rfl, fun e => by rw [List.take_succ_cons, findIx, if_neg hx, this.2 e]; rfl⟩
  have KEY := Lib.hid key
  clear key
  go_enter Try.func43, Try.ntmps43
  go_wp2
  go_loopw [9] (fun i wr => ∃ k : Nat, k ≤ n ∧ i = .int .i64 k ∧ findIx tag.toList (l.take k) = none ∧ Below w.heap.size w wr) (fun i _ => n - (intOf i).toNat)
  case atStart => exact ⟨0, Nat.zero_le _, rfl, rfl, Below.refl _ _⟩
  case round =>
    obtain ⟨k, hk, rfl, hno, hb⟩ := hrel
    have Hno := Lib.hid hno
    clear hno
    by_cases hlt : k < n
    · obtain ⟨t, ht⟩ : ∃ t, l[k]? = some t := ⟨l[k]'(by have := Hn.out; omega), List.getElem?_eq_getElem (by have := Hn.out; omega)⟩
      obtain ⟨g, off, rfl, hg, hcl⟩ := (hr.below hb).at encT_len (by omega) ht
      have q0 : wr.cell? ⟨g, off + k * 2, none⟩ = some (.string t.tag) := hcl 0 _ rfl
      have q1 : wr.cell? ⟨g, off + k * 2 + 1, none⟩ = some (.slice t.A t.n t.c) := hcl 1 _ rfl
      have hk2 := KEY.out l k t ht Hno.out
      have HB := Lib.hid (hb.alloc hb.size (.cells (encT t).toArray 36))
      clear hcl ht hb
      obtain ⟨xt, xA, xn, xc, xz⟩ := t
      simp only [encT] at q0 q1 HB hk2
      by_cases he : xt.toList = tag.toList
      · have h1 : (xt.toList == tag.toList) = true := by simp [he]
        have H := Lib.hid (hk2.1 he)
        clear hk2 he
        go_wp2
        go_ret
        rw [H.out]
        exact ⟨rfl, HB.out⟩
      · have h1 : (xt.toList == tag.toList) = false := by simp [he]
        have H := Lib.hid (hk2.2 he)
        clear hk2 he
        go_wp2
        go_roundw
        case rel => exact ⟨k + 1, by omega, by go_num, H.out, HB.out⟩
        case measure => simp [intOf]; omega
    · have H : Hid (findIx tag.toList l = none) := by
        have := Hno.out
        rwa [List.take_of_length_le (by have := Hn.out; omega)] at this
      go_wp2
      go_ret
      rw [H.out]
      exact ⟨rfl, hb⟩

end Go.Proofs.Ytlkidnacfljpkaa
