/- The document's table of groups, as a contract over this seat's translation. -/
import Derived.Test.YthkaeimpflggjaaDoorGrpT
import Derived.Test.YthkaeimpflggjaaDoorGot
namespace Go.Proofs.YthkaeimpflggjaaDoor
open Go.RowKit
set_option linter.unusedVariables false

theorem atQ {w : World} {A : Option Addr} {n : Nat} {l : List Pr} {j : Nat} {p : Pr} (h : RowS encQ 2 w A n l) (hj : l[j]? = some p) :
    ∃ g off, A = some ⟨g, off, none⟩ ∧ g < w.heap.size ∧ w.cell? ⟨g, off + j * 2, none⟩ = some (.int .i64 p.code) ∧ w.cell? ⟨g, off + j * 2 + 1, none⟩ = some (.int .i64 p.glyph) := by
  obtain ⟨g, off, e, hg, hc⟩ := h.at encQ_len (by omega) hj
  exact ⟨g, off, e, hg, hc 0 _ rfl, hc 1 _ rfl⟩

/-- Nothing goes on from what stands ahead of place i. -/
def bnd (fol : Pr → Pr → Bool) (l : List Pr) (i : Nat) : Prop := ∀ j q p, i = j + 1 → l[j]? = some q → l[j + 1]? = some p → fol q p = false

theorem runs_begin {fol : Pr → Pr → Bool} {l : List Pr} {i : Nat} {p : Pr} (hb : bnd fol l i) (h : l[i]? = some p) : runsF fol (l.take (i + 1)) = runsF fol (l.take i) ++ [⟨p.code, p.code, p.glyph⟩] := by
  cases i with
  | zero => rw [runs_first fol h]; rfl
  | succ j =>
    obtain ⟨q, hq⟩ := getP (l := l) (j := j) (by have := (List.getElem?_eq_some_iff.1 h).1; omega)
    exact (runs_step fol hq h).1 (hb j q p rfl hq h)

theorem runs_go {fol : Pr → Pr → Bool} {l : List Pr} {j : Nat} {q p : Pr} {R : List Rn} {a b g : Int} (hq : l[j]? = some q) (hp : l[j + 1]? = some p) (hf : fol q p = true) (h : runsF fol (l.take (j + 1)) = R ++ [⟨a, b, g⟩]) : runsF fol (l.take (j + 1 + 1)) = R ++ [⟨a, p.code, g⟩] := by
  obtain ⟨s, x, e1, e2⟩ := (runs_step fol hq hp).2 hf
  rw [h] at e1
  obtain ⟨rfl, hx⟩ := List.append_inj' e1 rfl
  obtain ⟨rfl, _⟩ := List.cons.inj hx
  exact e2

set_option maxRecDepth 100000 in
set_option maxHeartbeats 4000000 in
theorem rbuild10_any (A : Option Addr) (n c : Nat) (l : List Pr) (w : World) (hr : RowS encQ 2 w A n l) (hn : n ≤ 1000000) (hok : ∀ p ∈ l, 0 ≤ p.code ∧ p.code ≤ 1114111 ∧ 0 ≤ p.glyph ∧ p.glyph ≤ 65535) :
    Calls Tryd.prog 31 #[.slice A n c] w (RetB w (gBytes (runsF folG l))) := by
  have Hn := Lib.hid hr.len
  have Hok := Lib.hid hok
  clear hok
  go_enter Tryd.func31, Tryd.ntmps31
  go_wp2
  go_loopw [3, 4, 5] (fun v t s wr => ∃ (i m : Nat) (Ab : Option Addr) (nb cb : Nat), i ≤ n ∧ s = .int .i64 i ∧ t = .int .i64 m ∧ v = .slice Ab nb cb ∧ Hid ((runsF folG (l.take i)).length = m ∧ bnd folG l i) ∧ OwnB wr w.heap.size Ab nb cb ((runsF folG (l.take i)).flatMap gBody) ∧ Below w.heap.size w wr) (fun _ _ s _ => n - (intOf s).toNat)
  case atStart => exact ⟨0, 0, none, 0, 0, Nat.zero_le _, rfl, rfl, rfl, Lib.hid ⟨rfl, fun j q p h => by omega⟩, Own.nil _ _ _ _, Below.refl _ _⟩
  case round =>
    obtain ⟨i, m, Ab, nb, cb, hin, rfl, rfl, rfl, hI, hown, hb⟩ := hrel
    have hmi : m ≤ i := by have h1 := hI.out.1; have h2 := runsF_len folG (l.take i); rw [List.length_take] at h2; omega
    have hlb : ((runsF folG (l.take i)).flatMap gBody).length = 12 * m := by rw [gFlat_len, hI.out.1]
    by_cases hlt : i < n
    · obtain ⟨p, hp⟩ := getP (l := l) (j := i) (by have := Hn.out; omega)
      have hbeg := runs_begin hI.out.2 hp
      have HBeg := Lib.hid hbeg
      have HM := Lib.hid hI.out.1
      have Hp := Lib.hid hp
      have hpo := Hok.out p (List.mem_of_getElem? hp)
      clear hbeg hI hp
      generalize runsF folG (l.take i) = R at *
      generalize hbd : R.flatMap gBody = bd at *
      have HBd := Lib.hid hbd
      clear hbd
      go_wp2
      go_loopw [6] (fun s wr2 => ∃ (j : Nat) (q : Pr), i ≤ j ∧ j < n ∧ s = .int .i64 j ∧ Hid (l[j]? = some q ∧ runsF folG (l.take (j + 1)) = R ++ [⟨p.code, q.code, p.glyph⟩]) ∧ OwnB wr2 w.heap.size Ab nb cb bd ∧ Below w.heap.size w wr2) (fun s _ => n - (intOf s).toNat)
      case atStart => exact ⟨i, p, Nat.le_refl _, hlt, rfl, Lib.hid ⟨Hp.out, HBeg.out⟩, hown, hb⟩
      case round =>
        clear hown hb HBeg
        obtain ⟨j, q, hij, hjn, rfl, hJ, hown, hb⟩ := hrel
        obtain ⟨g, off, rfl, hg, q0, q1⟩ := atQ (hr.below hb) hJ.out.1
        have hqo := Hok.out q (List.mem_of_getElem? hJ.out.1)
        have HC : Hid (∀ W : World, Below w.heap.size w W → W.cell? ⟨g, off + i * 2, none⟩ = some (.int .i64 p.code) ∧ W.cell? ⟨g, off + j * 2, none⟩ = some (.int .i64 q.code) ∧ W.cell? ⟨g, off + i * 2 + 1, none⟩ = some (.int .i64 p.glyph)) := by
          show ∀ _, _
          intro W hW
          obtain ⟨g1, o1, e1, _, x0, x1⟩ := atQ (hr.below hW) Hp.out
          obtain ⟨g2, o2, e2, _, y0, y1⟩ := atQ (hr.below hW) hJ.out.1
          simp only [Option.some.injEq, Addr.mk.injEq, and_true] at e1 e2
          obtain ⟨rfl, rfl⟩ := e1
          obtain ⟨rfl, rfl⟩ := e2
          exact ⟨x0, y0, x1⟩
        have HFin : Hid (∀ (hbn : bnd folG l (j + 1)), runsF folG (l.take (j + 1)) = R ++ [⟨p.code, q.code, p.glyph⟩] ∧ bnd folG l (j + 1)) := fun hbn => ⟨hJ.out.2, hbn⟩
        by_cases hj1 : j + 1 < n
        · obtain ⟨x, hx⟩ := getP (l := l) (j := j + 1) (by have := Hn.out; omega)
          obtain ⟨g3, o3, e3, _, z0, z1⟩ := atQ (hr.below hb) hx
          simp only [Option.some.injEq, Addr.mk.injEq, and_true] at e3
          obtain ⟨rfl, rfl⟩ := e3
          have hxo := Hok.out x (List.mem_of_getElem? hx)
          have HGo : Hid (folG q x = true → l[j + 1]? = some x ∧ runsF folG (l.take (j + 1 + 1)) = R ++ [⟨p.code, x.code, p.glyph⟩]) := fun hf => ⟨hx, runs_go hJ.out.1 hx hf hJ.out.2⟩
          have HStop : Hid (folG q x = false → runsF folG (l.take (j + 1)) = R ++ [⟨p.code, q.code, p.glyph⟩] ∧ bnd folG l (j + 1)) := fun hf => HFin.out (fun j' q' p' e hq' hp' => by
            obtain rfl : j = j' := by omega
            rw [hJ.out.1] at hq'
            rw [hx] at hp'
            cases hq'
            cases hp'
            exact hf)
          clear hx hJ HFin
          obtain ⟨pc, pg⟩ := p
          obtain ⟨qc, qg⟩ := q
          obtain ⟨xc, xg⟩ := x
          simp only at *
          have W1 : IntKind.i64.wrap ((j : Int) + 1) = (j : Int) + 1 := IntWalk.i64_in _ (by omega)
          have W2 : IntKind.i64.wrap (qc + 1) = qc + 1 := IntWalk.i64_in _ (by omega)
          have W3 : IntKind.i64.wrap (qg + 1) = qg + 1 := IntWalk.i64_in _ (by omega)
          have D1 : decide ((j : Int) + 1 < (n : Int)) = true := decide_eq_true (by omega)
          have D2 : (j : Int) + 1 < (n : Int) := by omega
          have D3 : (0 : Int) ≤ (j : Int) + 1 := by omega
          have T1 : ((j : Int) + 1).toNat = j + 1 := by omega
          by_cases h1 : xc = qc + 1
          · have b1 : (xc == qc + 1) = true := by simp [h1]
            by_cases h2 : xg = qg + 1
            · have e2 : (xg == qg + 1) = true := by simp [h2]
              have HN := Lib.hid (HGo.out (by simp [folG, h1, h2]))
              clear h1 h2 HGo HStop HC
              go_wp2_with fail
              go_quiet (fail)
              go_wp2
              go_roundw
              case rel => exact ⟨j + 1, ⟨xc, xg⟩, by omega, by omega, by go_num, HN, hown.drewN nq, below_drewN hb nq⟩
              case measure => simp [intOf]; omega
            · have e2 : (xg == qg + 1) = false := by simp [h2]
              have HN := Lib.hid (HStop.out (by simp [folG, h2]))
              clear h1 h2 HGo HStop
              go_wp2_with fail
              go_quiet (fail)
              have hsz := hb.size
              have hB := below_drewN hb nq
              have hown2 := hown.drewN nq
              go_upto_region 8 with fail
              generalize (wr.drewN nq) = V at *
              have hgt := (Got.nil V).put (c := cb) hown2.row
              replace hgt := hgt.drew
              replace hB := hB.drew
              have F1 : IntKind.u32.wrap pc = pc := IntWalk.u32_in _ (by omega)
              have F2 : IntKind.u32.wrap qc = qc := IntWalk.u32_in _ (by omega)
              have F3 : IntKind.u32.wrap pg = pg := IntWalk.u32_in _ (by omega)
              clear hown hown2 hb q0 q1
              go_region_held3 (fun w' => w'.cell? ⟨g, off + i * 2, none⟩ = some (.int .i64 pc) ∧ w'.cell? ⟨g, off + j * 2, none⟩ = some (.int .i64 qc) ∧ w'.cell? ⟨g, off + i * 2 + 1, none⟩ = some (.int .i64 pg))
                (first | exact HC.out _ hB | exact HC.out _ (hB.alloc hB.size _))
                (first
                  | (go_at_call 21; refine (b4_any _ _ (by omega) (by omega)).mono ?_; rintro e w2 ⟨A2, n2, c2, rfl, o, hb2⟩; replace hgt := hgt.add (c := c2) hb2 o; replace hB := hB.trans (hb2.mono hB.size); clear o hb2)
                  | (go_at_call 19; refine (joinN_any _ _ _ 4 _ rfl rfl rfl hgt (by omega) (by simp [joined, b4, b2]; omega)).mono ?_; rintro e w2 ⟨A2, n2, c2, rfl, o, hb2⟩; simp only [joined, List.nil_append, List.cons_append, List.flatMap_cons, List.flatMap_nil, List.append_nil] at o; replace o := o.mono hB.size; clear hgt; replace hB := hB.trans (hb2.mono hB.size); clear hb2))
              all_goals
                have HQ : Hid (bd ++ (b4 pc ++ (b4 qc ++ b4 pg)) = (runsF folG (l.take (j + 1))).flatMap gBody) := by
                  show _ = _
                  rw [HN.out.1, List.flatMap_append, HBd.out]
                  rfl
                rw [HQ.out] at o
                go_wp2
                go_roundw
                case rel => exact ⟨j + 1, m + 1, A2, n2, c2, by omega, by go_num, by go_num, rfl, Lib.hid ⟨by rw [HN.out.1, List.length_append, HM.out]; rfl, HN.out.2⟩, o, hB⟩
                case measure => simp [intOf]; omega
          · have b1 : (xc == qc + 1) = false := by simp [h1]
            have HN := Lib.hid (HStop.out (by simp [folG, h1]))
            clear h1 HGo HStop
            go_wp2_with fail
            go_quiet (fail)
            have hsz := hb.size
            have hB := below_drewN hb nq
            have hown2 := hown.drewN nq
            go_upto_region 8 with fail
            generalize (wr.drewN nq) = V at *
            have hgt := (Got.nil V).put (c := cb) hown2.row
            replace hgt := hgt.drew
            replace hB := hB.drew
            have F1 : IntKind.u32.wrap pc = pc := IntWalk.u32_in _ (by omega)
            have F2 : IntKind.u32.wrap qc = qc := IntWalk.u32_in _ (by omega)
            have F3 : IntKind.u32.wrap pg = pg := IntWalk.u32_in _ (by omega)
            clear hown hown2 hb q0 q1
            go_region_held3 (fun w' => w'.cell? ⟨g, off + i * 2, none⟩ = some (.int .i64 pc) ∧ w'.cell? ⟨g, off + j * 2, none⟩ = some (.int .i64 qc) ∧ w'.cell? ⟨g, off + i * 2 + 1, none⟩ = some (.int .i64 pg))
              (first | exact HC.out _ hB | exact HC.out _ (hB.alloc hB.size _))
              (first
                | (go_at_call 21; refine (b4_any _ _ (by omega) (by omega)).mono ?_; rintro e w2 ⟨A2, n2, c2, rfl, o, hb2⟩; replace hgt := hgt.add (c := c2) hb2 o; replace hB := hB.trans (hb2.mono hB.size); clear o hb2)
                | (go_at_call 19; refine (joinN_any _ _ _ 4 _ rfl rfl rfl hgt (by omega) (by simp [joined, b4, b2]; omega)).mono ?_; rintro e w2 ⟨A2, n2, c2, rfl, o, hb2⟩; simp only [joined, List.nil_append, List.cons_append, List.flatMap_cons, List.flatMap_nil, List.append_nil] at o; replace o := o.mono hB.size; clear hgt; replace hB := hB.trans (hb2.mono hB.size); clear hb2))
            all_goals
              have HQ : Hid (bd ++ (b4 pc ++ (b4 qc ++ b4 pg)) = (runsF folG (l.take (j + 1))).flatMap gBody) := by
                show _ = _
                rw [HN.out.1, List.flatMap_append, HBd.out]
                rfl
              rw [HQ.out] at o
              go_wp2
              go_roundw
              case rel => exact ⟨j + 1, m + 1, A2, n2, c2, by omega, by go_num, by go_num, rfl, Lib.hid ⟨by rw [HN.out.1, List.length_append, HM.out]; rfl, HN.out.2⟩, o, hB⟩
              case measure => simp [intOf]; omega
        · have HN := Lib.hid (HFin.out (fun j' q' p' e hq' hp' => by
            have := (List.getElem?_eq_some_iff.1 hp').1
            have := Hn.out
            omega))
          clear hJ HFin
          obtain ⟨pc, pg⟩ := p
          obtain ⟨qc, qg⟩ := q
          simp only at *
          have W1 : IntKind.i64.wrap ((j : Int) + 1) = (j : Int) + 1 := IntWalk.i64_in _ (by omega)
          have D1 : decide ((j : Int) + 1 < (n : Int)) = false := decide_eq_false (by omega)
          have D2 : ¬ (j : Int) + 1 < (n : Int) := by omega
          go_wp2_with fail
          go_quiet (fail)
          have hsz := hb.size
          have hB := below_drewN hb nq
          have hown2 := hown.drewN nq
          go_upto_region 8 with fail
          generalize (wr.drewN nq) = V at *
          have hgt := (Got.nil V).put (c := cb) hown2.row
          replace hgt := hgt.drew
          replace hB := hB.drew
          have F1 : IntKind.u32.wrap pc = pc := IntWalk.u32_in _ (by omega)
          have F2 : IntKind.u32.wrap qc = qc := IntWalk.u32_in _ (by omega)
          have F3 : IntKind.u32.wrap pg = pg := IntWalk.u32_in _ (by omega)
          clear hown hown2 hb q0 q1
          go_region_held3 (fun w' => w'.cell? ⟨g, off + i * 2, none⟩ = some (.int .i64 pc) ∧ w'.cell? ⟨g, off + j * 2, none⟩ = some (.int .i64 qc) ∧ w'.cell? ⟨g, off + i * 2 + 1, none⟩ = some (.int .i64 pg))
            (first | exact HC.out _ hB | exact HC.out _ (hB.alloc hB.size _))
            (first
              | (go_at_call 21; refine (b4_any _ _ (by omega) (by omega)).mono ?_; rintro e w2 ⟨A2, n2, c2, rfl, o, hb2⟩; replace hgt := hgt.add (c := c2) hb2 o; replace hB := hB.trans (hb2.mono hB.size); clear o hb2)
              | (go_at_call 19; refine (joinN_any _ _ _ 4 _ rfl rfl rfl hgt (by omega) (by simp [joined, b4, b2]; omega)).mono ?_; rintro e w2 ⟨A2, n2, c2, rfl, o, hb2⟩; simp only [joined, List.nil_append, List.cons_append, List.flatMap_cons, List.flatMap_nil, List.append_nil] at o; replace o := o.mono hB.size; clear hgt; replace hB := hB.trans (hb2.mono hB.size); clear hb2))
          all_goals
            have HQ : Hid (bd ++ (b4 pc ++ (b4 qc ++ b4 pg)) = (runsF folG (l.take (j + 1))).flatMap gBody) := by
              show _ = _
              rw [HN.out.1, List.flatMap_append, HBd.out]
              rfl
            rw [HQ.out] at o
            go_wp2
            go_roundw
            case rel => exact ⟨j + 1, m + 1, A2, n2, c2, by omega, by go_num, by go_num, rfl, Lib.hid ⟨by rw [HN.out.1, List.length_append, HM.out]; rfl, HN.out.2⟩, o, hB⟩
            case measure => simp [intOf]; omega
    · obtain rfl : i = n := by omega
      have HE : Hid (runsF folG (l.take i) = runsF folG l) := by show _ = _; rw [List.take_of_length_le (by have := Hn.out; omega)]
      have HM := Lib.hid hI.out.1
      rw [HE.out] at hown hlb
      rw [HE.out] at HM
      clear hI HE
      have hsz := hb.size
      have F1 : IntKind.u32.wrap (16 + 12 * (m : Int)) = 16 + 12 * (m : Int) := IntWalk.u32_in _ (by omega)
      have F2 : IntKind.u32.wrap (m : Int) = (m : Int) := IntWalk.u32_in _ (by omega)
      generalize runsF folG l = rs at *
      generalize hbd : rs.flatMap gBody = bd at *
      have HBd := Lib.hid hbd
      clear hbd
      go_wp2_with fail
      refine (b2_any 12 _ (by omega) (by omega)).mono ?_
      rintro e w1 ⟨A1, n1, c1, rfl, o1, hb1⟩
      have hgt := (Got.nil wr).add (c := c1) hb1 o1
      have hB := hb.trans (hb1.mono hb.size)
      have ho := hown.below hb1
      clear o1 hb1 hb hown
      go_wp2_with fail
      refine (b2_any 0 _ (by omega) (by omega)).mono ?_
      rintro e w2 ⟨A2, n2, c2, rfl, o2, hb2⟩
      replace hgt := hgt.add (c := c2) hb2 o2
      replace hB := hB.trans (hb2.mono hB.size)
      replace ho := ho.below hb2
      clear o2 hb2
      go_wp2_with fail
      refine (b4_any (16 + 12 * (m : Int)) _ (by omega) (by omega)).mono ?_
      rintro e w3 ⟨A3, n3, c3, rfl, o3, hb3⟩
      replace hgt := hgt.add (c := c3) hb3 o3
      replace hB := hB.trans (hb3.mono hB.size)
      replace ho := ho.below hb3
      clear o3 hb3
      go_wp2_with fail
      refine (b4_any 0 _ (by omega) (by omega)).mono ?_
      rintro e w4 ⟨A4, n4, c4, rfl, o4, hb4⟩
      replace hgt := hgt.add (c := c4) hb4 o4
      replace hB := hB.trans (hb4.mono hB.size)
      replace ho := ho.below hb4
      clear o4 hb4
      go_wp2_with fail
      refine (b4_any (m : Int) _ (by omega) (by omega)).mono ?_
      rintro e w5 ⟨A5, n5, c5, rfl, o5, hb5⟩
      replace hgt := hgt.add (c := c5) hb5 o5
      replace hB := hB.trans (hb5.mono hB.size)
      replace ho := ho.below hb5
      clear o5 hb5
      replace hgt := hgt.put (c := cb) ho.row
      have HJ := Lib.hid (joinN_any w5 _ _ 6 _ rfl rfl rfl hgt (by omega) (by simp [joined, b4, b2]; omega))
      simp only [joined, List.nil_append, List.cons_append, List.flatMap_cons, List.flatMap_nil, List.append_nil, List.map_cons, List.map_nil, BsV.val] at HJ
      clear hgt ho
      go_wp2_with fail
      refine HJ.out.mono ?_
      rintro e w6 ⟨A6, n6, c6, rfl, o6, hb6⟩
      have HG : Hid (b2 12 ++ (b2 0 ++ (b4 (16 + 12 * (m : Int)) ++ (b4 0 ++ (b4 (m : Int) ++ bd)))) = gBytes rs) := by
        show _ = _
        rw [gBytes, gHead, HM.out, Int.mul_comm (m : Int) 12, HBd.out]
        simp
      rw [HG.out] at o6
      go_wp2
      go_ret
      exact ⟨A6, n6, c6, rfl, o6.mono hB.size, hB.trans (hb6.mono hB.size)⟩

end Go.Proofs.YthkaeimpflggjaaDoor
