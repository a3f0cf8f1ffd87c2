/- The contracts of hhea with its struct kept closed: the walk then never opens its seventeen cells. -/
import Derived.Test.YtmbncdhpfhlobaaHheaP
import Derived.Laws.Rows
import Derived.Laws.Tables
import Derived.Deep.MidRow
namespace Go.Proofs.Ytmbncdhpfhlobaa
open Go.RowKit
set_option linter.unusedVariables false

def hhA (m : Hh) : Array Value := hhC m
abbrev hhU (m : Hh) : Value := .agg (hhA m)
def hfA (m : Hh) : Array Value := hfC m
theorem hhA_size (m : Hh) : (hhA m).size = 17 := rfl
theorem hhA_all (m : Hh) : (hhA m).all (·.oneCell') = true := by simp [hhA, Value.oneCell']
theorem hhA_info (m : Hh) : (Try.prog.info? 52).map (·.size) = some (hhA m).size := by rw [hhA_size]; kernel_rfl
theorem hhZ_size (m : Hh) : hhZ.size = (hhA m).size := rfl
theorem hfA_info (m : Hh) : (Try.prog.info? 50).map (·.size) = some (hfA m).toList.length := by
  show _ = some 16
  kernel_rfl
def hhToldO (zs : List Int) : Value := if hhRight zs = true then .tuple #[hhU (hhOf zs), .int .i64 0] else .tuple #[hhU hh0, .int .i64 2]
theorem hhToldO_yes {zs : List Int} (h : hhRight zs = true) : hhToldO zs = .tuple #[hhU (hhOf zs), .int .i64 0] := if_pos h
theorem hhToldO_no {zs : List Int} (h : hhRight zs = false) : hhToldO zs = .tuple #[hhU hh0, .int .i64 2] := if_neg (by rw [h]; decide)
theorem hbytesO (h : Hh) (w : World) (hm : h.ok) : Calls Try.prog 25 #[hhU h] w (RetB w (hhB h)) := hbytes_all h w hm
theorem hphO (A : Option Addr) (n c : Nat) (zs : List Int) (w : World) (hr : Row w A n (cellsOf .u8 zs)) (hB : Bytes zs) : Calls Try.prog 26 #[.slice A n c] w (Ret w (hhToldO zs)) := hph_any A n c zs w hr hB
theorem rhheaO (h : Hh) (w : World) (hm : h.ok) : Calls Try.prog 27 #[.agg (hfA h), .int .u16 h.lg] w (RetB w (hhL h)) := rhhea_any h w hm

set_option maxRecDepth 100000 in
theorem eqO (m : Hh) (w : World) : (Op.equalIn 10000 52 (hhU m) (hhU m)).run Try.prog w = .ok true w := by
  have h := run_eq_front m w 9997
  change (Op.equalIn 10000 52 (.agg (hhC m)) (.agg (hhC m))).run Try.prog w = .ok true w
  obtain ⟨f0, f1, f2, f3, f4, f5, f6, f7, f8, f9, f10, f11, f12, f13, f14, f15, lg⟩ := m
  simp only [hfC] at h
  simp [go_sem, h]

theorem rangeF {w : World} {b : Nat} {m : Hh} (h : w.heap[b]? = some (.cells (hhA m) 52 (0, 0))) : w.rangeAt b 0 (hfA m).toList := World.rangeAt_of_block h 0 16

theorem wpList_load_wanted {P : Program} {ops : Array Oper} {rest : List Oper} {o : Oper} {a : Act} {w : World} {Q : Exit → Act → World → Prop} (hw : Region.wanted o (yielded ops a.tmps) = true) (ty : TypeId) (x : Operand) (ho : o.op = .load ty x)
    (g : Nat) (hx : a.eval x = .pointer (some ⟨g, 0, none⟩)) (t : TypeId) (cs : Array Value) (fr : Nat × Nat) (d : TypeDesc) (hg : w.heap[g]? = some (.cells cs t fr))
    (hu : P.underlying ty = some d) (hd : (match d with | .struct _ | .array _ _ => true | _ => false) = true) (hi : (P.info? ty).map (·.size) = some cs.size)
    (h : wpList P ops Q rest (a.put o.dst (.agg cs)) w) : wpList P ops Q (o :: rest) a w :=
  wpList_step fun K hK => by rw [if_pos hw]; exact wp_load_row ty x ho g hx t cs fr d hg hu hd hi (hK _ _ h)

end Go.Proofs.Ytmbncdhpfhlobaa
