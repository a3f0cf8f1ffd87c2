/- What slices.Clone, slices.SortFunc by tags and slices.IndexFunc answer for tables, as contracts over this seat's translation. -/
import Derived.Test.YtlkidnacfljpkaaOrder
import Derived.Test.YtlkidnacfljpkaaBuildable
namespace Go.Proofs.Ytlkidnacfljpkaa
open Go.RowKit Go.Shelf Go.Lib Go.Sort
set_option linter.unusedVariables false

theorem Try.tabinfo : (Try.prog.info? 30).map (fun i => (i.zero, i.size, i.bytes)) = some (some (.agg #[.string ByteArray.empty, .slice none 0 0]), 2, 40) := by kernel_rfl

theorem cloneT_any (g off n c : Nat) (l : List Tab) (w : World) (hr : RowS encT 2 w (some ⟨g, off, none⟩) n l) (hn : n ≤ 1000000) (h0 : 0 < n) :
    Calls Try.prog 22 #[.slice (some ⟨g, off, none⟩) n c] w (RetS 30 encT 2 w l) := by
  obtain ⟨i0, hi, hz0, hz1, hz2⟩ := info_parts Try.tabinfo
  have hl := hr.len
  obtain ⟨g', off', e', _, hc⟩ := hr.2.2 (by omega)
  simp only [Option.some.injEq, Addr.mk.injEq, and_true] at e'
  obtain ⟨rfl, rfl⟩ := e'
  have hcon := AnyE.slices_Clone Try.layClone i0 _ 2 40 hi hz0 hz1 hz2 rfl (by omega) Try.sizeOf30 g off n c (flat encT l) w (by rw [flat_length encT_len, hl]) (by simp only [maxLen]; omega) (by omega) hc
    (fun u hu => by unfold flat at hu; obtain ⟨x, _, hx⟩ := List.mem_flatMap.1 hu; exact encT_one x u hx)
  change Calls Try.prog 22 _ _ _ at hcon
  refine hcon.mono ?_
  rintro e w' ⟨v', rfl, ho, _, hb⟩
  obtain ⟨A, c', rfl, hown⟩ := ownS_shape hl ho
  exact ⟨A, n, c', rfl, hown, hb⟩

/-- How two tables stand to one another. -/
def cfT (x y : Tab) : Int := Lib.compareBytes x.tag.data.toList y.tag.data.toList
theorem cfT_eq (x y : Tab) : cfT x y = cb x.tag.toList y.tag.toList := by unfold cfT; rw [ByteArray.toList_eq, ByteArray.toList_eq]

theorem swoT : SWO (ltOf cfT) where
  irrefl x := by simp [ltOf, cfT_eq, cb_self]
  trans x y z h1 h2 := by
    simp only [ltOf, cfT_eq, decide_eq_true_eq] at *
    exact cb_lt_trans h1 h2
  ntrans x y z h1 h2 := by
    simp only [ltOf, cfT_eq, decide_eq_false_iff_not, Int.not_lt] at *
    have h := (cb_trans z.tag.toList y.tag.toList x.tag.toList (by rw [cb_anti]; omega) (by rw [cb_anti]; omega)).1
    rw [cb_anti] at h
    omega

set_option maxHeartbeats 1000000 in
theorem cmp_any (x y : Tab) (W : World) : Calls Try.prog 24 #[tabV x, tabV y] W fun e w' => e = .returned (.int .i64 (cfT x y)) ∧ ∃ q os', w' = grow (W.drewN q) os' := by
  have hcon := fun W' => Any.strings_Compare Try.layCompare x.tag y.tag W'
  change ∀ W', Calls Try.prog 25 _ _ _ at hcon
  unfold cfT
  obtain ⟨xt, xA, xn, xc, xz⟩ := x
  obtain ⟨yt, yA, yn, yc, yz⟩ := y
  simp only at hcon ⊢
  generalize Lib.compareBytes xt.data.toList yt.data.toList = r at hcon ⊢
  have HC := Lib.hid hcon
  clear hcon
  go_enter Try.func24, Try.ntmps24
  go_wp2_with fail
  refine (HC.out _).mono ?_
  rintro e w' ⟨rfl, rfl⟩
  go_wp2
  go_ret
  exact ⟨rfl, 0, _, by rw [alloc_eq_grow, alloc_eq_grow, grow_grow]; rfl⟩

theorem cmpLaysT (blk off size : Nat) (w : World) : CmpLays Try.prog 24 #[] encT 2 cfT blk off size w := fun _ _ _ _ x y => cmp_any x y _

/-- A fresh row of tables, in the sort's words. -/
theorem holdsK_own {w : World} {B g n c : Nat} {l : List Tab} (h : OwnS 30 encT 2 w B (some ⟨g, 0, none⟩) n c l) : HoldsK encT 2 w g 0 l.toArray := by
  intro j hj
  rw [size_flatK] at hj
  have hj2 : j < l.length * 2 := by simpa using hj
  refine ⟨?_, h.thaw _⟩
  have hr := h.row encT_len
  have hl := h.len
  obtain ⟨g', off', e', _, hc⟩ := hr.2.2 (by omega)
  simp only [Option.some.injEq, Addr.mk.injEq, and_true] at e'
  obtain ⟨rfl, rfl⟩ := e'
  refine hc j _ ?_
  rw [get_flatK _ _ _ _ hj]
  have hq : j / 2 < l.length := by omega
  have h1 := flat_get encT_len (l := l) (j := j / 2) (x := l[j / 2]) (List.getElem?_eq_getElem hq) (i := j % 2) (by omega)
  rw [show j / 2 * 2 + j % 2 = j by omega] at h1
  rw [h1]
  have h2 : l.toArray[j / 2]! = l[j / 2] := by rw [getElem!_pos _ _ (by simpa using hq)]; simp
  rw [h2]
  have h3 : j % 2 < (encT l[j / 2]).length := by rw [encT_len]; omega
  simp only [id_eq]
  rw [getElem!_pos (encT l[j / 2]) (j % 2) h3, List.getElem?_eq_getElem h3]

theorem rowS_holdsK {w : World} {g : Nat} (hg : g < w.heap.size) {d : Array Tab} (h : HoldsK encT 2 w g 0 d) : RowS encT 2 w (some ⟨g, 0, none⟩) d.size d.toList := by
  refine ⟨by simp, by rw [flat_length encT_len]; simp, fun _ => ⟨g, 0, rfl, hg, fun j u hu => ?_⟩⟩
  have hj := (List.getElem?_eq_some_iff.1 hu).1
  rw [flat_length encT_len] at hj
  have hj2 : j < d.size * 2 := by simpa using hj
  have h1 := (h j (by rw [size_flatK]; exact hj2)).1
  rw [h1, get_flatK _ _ _ _ hj2]
  have hq : j / 2 < d.size := by omega
  have h2 := flat_get encT_len (l := d.toList) (j := j / 2) (x := d[j / 2]) (by simp [hq]) (i := j % 2) (by omega)
  rw [show j / 2 * 2 + j % 2 = j by omega, hu] at h2
  rw [getElem!_pos d (j / 2) hq]
  have h3 : j % 2 < (encT d[j / 2]).length := by rw [encT_len]; omega
  rw [h2, getElem!_pos (encT d[j / 2]) (j % 2) h3, List.getElem?_eq_getElem h3]
  rfl

/-- Behind the sort: the row holds the tables by their tags; nothing else has turned. -/
def Sorted (w : World) (g n : Nat) (l : List Tab) (e : Ending) (w' : World) : Prop :=
  e = .returned (.tuple #[]) ∧ ∃ l' : List Tab, l'.Perm l ∧ l'.Pairwise (fun x y => cb y.tag.toList x.tag.toList ≥ 0) ∧ RowS encT 2 w' (some ⟨g, 0, none⟩) n l' ∧ w.grownBy w' (some g)

theorem sortT_any (g n c B : Nat) (l : List Tab) (w : World) (h : OwnS 30 encT 2 w B (some ⟨g, 0, none⟩) n c l) (hn : n ≤ 1000000) :
    Calls Try.prog 23 #[.slice (some ⟨g, 0, none⟩) n c, .func (.func 24) #[] #[]] w (Sorted w g n l) := by
  have eg : ∀ args w, (callFunc 24 args).run Try.prog w = .ok (.enter 24 args) w := enters_of Try.func24 (by kernel_rfl) rfl
  have hl := h.len
  have hH := holdsK_own h
  have hg : g < w.heap.size := (h.from_ g rfl).2
  have hcon := AnyQ.slices_SortFunc Try.laySort 2 Try.isAgg30 Try.sizeOf30 encT encT_len encT_one cfT swoT 24 #[] g 0 c l.toArray w eg (cmpLaysT g 0 _ w) hH hg (by simp; omega)
  change Calls Try.prog 23 _ _ _ at hcon
  simp only [List.size_toArray, hl] at hcon
  refine hcon.mono ?_
  rintro e w' ⟨rfl, d', m, os, hp, hs, rfl⟩
  have hsz : d'.size = n := by have := hp.1; simpa [hl] using this
  refine ⟨rfl, d'.toList, ?_, ?_, ?_, ?_⟩
  · have h3 := hp.2.2
    rw [show d'.extract 0 n = d' by rw [← hsz]; simp, show l.toArray.extract 0 n = l.toArray by rw [← hl]; simp] at h3
    simpa using h3
  · rw [List.pairwise_iff_getElem]
    intro i j hi hj hij
    have h4 := hs i j (Nat.zero_le _) hij (by simpa [hsz] using hj)
    rw [getElem!_pos _ _ (by simpa using hj), getElem!_pos _ _ (by simpa using hi)] at h4
    simp only [ltOf, cfT_eq, decide_eq_false_iff_not, Int.not_lt] at h4
    simpa using h4
  · have hK : HoldsK encT 2 (sortWorldK encT 2 w g 0 m d' os) g 0 d' := by
      have h5 := holdsK_putRowK encT 2 (Sort.ahead w m) g 0 l.toArray d' hH (by simp [hsz, hl])
      intro j hj
      have h6 := h5 j hj
      unfold sortWorldK
      rw [cell?_grow _ _ _ (by simpa [putRowK] using hg)]
      refine ⟨h6.1, ?_⟩
      rw [frozen?_grow _ _ _ (by simpa [putRowK] using hg)]
      exact h6.2
    have := rowS_holdsK (by unfold sortWorldK; simp [putRowK]; omega) hK
    rw [hsz] at this
    exact this
  · refine ⟨rfl, rfl, rfl, by simp [sortWorldK, putRowK], fun k hk hne => ?_⟩
    unfold sortWorldK
    rw [heap_grow_old _ _ (by simpa [putRowK] using hk)]
    have : g ≠ k := fun e => hne (by rw [e])
    simp [putRowK, putRow, mapBlock, Sort.ahead, Array.getElem?_modify, this]

end Go.Proofs.Ytlkidnacfljpkaa
