/- The document's example; the law GroupParses. -/
import Derived.Test.YthkaeimpflggjaaDoorGrpT
import Derived.Test.YthkaeimpflggjaaDoorGrpR
import Derived.Test.YthkaeimpflggjaaDoorLaw01
namespace Go.Proofs.YthkaeimpflggjaaDoor
open Go.RowKit
set_option linter.unusedVariables false

/-- A map of groups in memory: of a table, or of none. -/
structure GMap (w : World) (A : Option Addr) (n : Nat) (l : List Rn) : Prop where
  row : RowS encG 3 w A n l
  ok : rnOK 1114111 (-1) l
  fit : ∀ x ∈ l, 0 ≤ x.a ∧ x.b ≤ 1114111 ∧ 0 ≤ x.g ∧ x.a ≤ x.b ∧ x.g + (x.b - x.a) ≤ 65535

theorem GMap.below {w w' : World} {A : Option Addr} {n : Nat} {l : List Rn} (h : GMap w A n l) (hb : Below w.heap.size w w') : GMap w' A n l := ⟨h.row.below hb, h.ok, h.fit⟩
theorem GMap.nil (w : World) : GMap w none 0 [] := ⟨RowS.empty _ _, trivial, fun x hx => by simp at hx⟩
theorem GMap.of {w : World} {zs : List Int} {A : Option Addr} {B c : Nat} (hB : Bytes zs) (hR : gRight zs = true) (h : OwnS 94 encG 3 w B A (gN zs) c (grps zs (gN zs))) : GMap w A (gN zs) (grps zs (gN zs)) := by
  have hk : gOkK zs (gN zs) = true := by unfold gRight at hR; simp at hR; exact hR.2
  exact ⟨h.row encG_len, grps_ok hB hk, grps_fit hB hk⟩
theorem GMap.look {w : World} {A : Option Addr} {n c : Nat} {l : List Rn} (h : GMap w A n l) (hn : n ≤ 1000000) (code : Int) (c0 : -2147483648 ≤ code) (c1 : code ≤ 2147483647) :
    Calls Tryd.prog 33 #[gmV A n c, .int .i32 code] w (Ret w (.int .u16 (lookR l code))) := glook_any A n c l code w h.row hn h.ok h.fit c0 c1
theorem GMap.find {w : World} {A : Option Addr} {n : Nat} {l : List Rn} (h : GMap w A n l) (code : Int) : findG code l = lookR l code := findG_look l (-1) h.ok (fun x hx => by have := h.fit x hx; omega)

def ex10 : List Pr := [⟨65, 3⟩, ⟨66, 4⟩, ⟨128512, 5⟩]
theorem ex10_g : PrG ex10 := by intro p hp; simp [ex10] at hp; rcases hp with rfl | rfl | rfl <;> simp

theorem ret_true {w w' : World} {b : Bool} (h : b = true) (hb : Below w.heap.size w w') : True_ w (.returned (.bool b)) w' := by
  subst h
  exact ⟨rfl, hb⟩

theorem lookR_lt (l : List Rn) (code : Int) : 0 ≤ lookR l code ∧ lookR l code ≤ 65535 := by
  unfold lookR
  split
  · omega
  · split <;> omega

/-- A table's bytes, a map in a box, and codes. -/
structure LP (w wr : World) (Ac : Option Addr) (nc : Nat) (zs : List Int) (bx : Nat) (A2 : Option Addr) (N c2 : Nat) (l : List Rn) (A1 : Option Addr) (n1 : Nat) (z1 : List Int) : Prop where
  row : Row wr Ac nc (cellsOf .u8 zs)
  box : wr.heap[bx]? = some (.cells #[.slice A2 N c2] 32 (0, 0))
  map : GMap wr A2 N l
  cod : Row wr A1 n1 (cellsOf .i32 z1)
  bel : Below w.heap.size w wr
theorem LP.below {w wr w' : World} {Ac : Option Addr} {nc : Nat} {zs : List Int} {bx : Nat} {A2 : Option Addr} {N c2 : Nat} {l : List Rn} {A1 : Option Addr} {n1 : Nat} {z1 : List Int} (h : LP w wr Ac nc zs bx A2 N c2 l A1 n1 z1) (hb : Below wr.heap.size wr w') : LP w w' Ac nc zs bx A2 N c2 l A1 n1 z1 :=
  ⟨h.row.below hb, kept_block h.box hb, h.map.below hb, h.cod.below hb, h.bel.trans (hb.mono h.bel.size)⟩
theorem LP.cell {w wr : World} {Ac : Option Addr} {nc : Nat} {zs : List Int} {bx : Nat} {A2 : Option Addr} {N c2 : Nat} {l : List Rn} {A1 : Option Addr} {n1 : Nat} {z1 : List Int} (h : LP w wr Ac nc zs bx A2 N c2 l A1 n1 z1) : wr.cell? ⟨bx, 0, none⟩ = some (.slice A2 N c2) := cell_of_row _ _ 0 _ _ _ h.box

theorem i32_wf {z1 : List Int} (h : Wf .i32 z1) {j : Nat} {x : Int} (hx : z1[j]? = some x) : -2147483648 ≤ x ∧ x ≤ 2147483647 := bounds_i32 (h x (List.mem_of_getElem? hx))

end Go.Proofs.YthkaeimpflggjaaDoor
