/-
  NARROWER THAN 'FOR EVERY INPUT', by the rows' own cells (each row's printed sentence says how): CmapBuilds: laid · CmapParses: laid · CmapChooses: laid · CmapBends: laid · CmapWides: laid.
  DERIVED. THE GIVEN ROWS OF THIS SEAT. 5 by the template 'for every input the law returns true; each argument reads behind the call as it read before'; 0 by the template 'total and deterministic' (their statements: YthkaeimpflggjaaDoorTotals.lean).
  GIVEN WITH THE SEED: the statements are not yours to turn. If you find one false, say at which input.
  Laid BY PROGRAM, IN A SANDBOX (cutbox-rows.mjs): the forced cells as the released guide's own fill.sh prints them over the translation aabe0dd0bdf0b22a… (all of the seat's roots in one cut). By AI agents, Wed Nov 11 2026. No macro, syntax, notation, axiom, sorry.
-/
import Derived.Test.YthkaeimpflggjaaDoorChecked
import GoSem.Claim
import GoSem.ClaimJoined
import GoSem.ClaimMapViews
import Derived.JoinedTies
import Derived.KernelRfl
namespace Go.Proofs.YthkaeimpflggjaaDoor
/- THE CELL 'sum', in the pinned program and in every row, IS THE sha256 OF THE DUMP (.gsa) THAT YthkaeimpflggjaaDoorProg.lean LOADS. Nothing in Lean hashes anything: it is a label: what it is worth is what the hold of that sum in a sandbox is worth. -/
noncomputable def Tryd.pinned : Pinned := { name := "ythkaeimpflggjaadoor", sum := "aabe0dd0bdf0b22ac1d31d6c8b47438dc0b61bd6ba03c2887007c64b80837816", checked := Tryd.checked }
namespace Rows
def none {H : Type} : Left H := { results := [], args := [] }

/- WHAT THE LISTED PACKAGE-LEVEL VARIABLES READ AS WHEN THE CALL BEGINS. Each datum BY PROGRAM (the guide's laid-datum.mjs) off the statement by which the dump's own 'gosem.cut.vars' lays the variable. In a bare row this is a premise. The card (YthkaeimpflggjaaDoorCards.lean) ties it to the program's text. -/
def laid_punchcut_cmap_ranked {H : Type} : DataW H := .agg [.agg [.lit (.int .u16 3), .lit (.int .u16 10)], .agg [.lit (.int .u16 0), .lit (.int .u16 4)], .agg [.lit (.int .u16 3), .lit (.int .u16 1)], .agg [.lit (.int .u16 0), .lit (.int .u16 3)]]

/-- 'punchcutlaw11.CmapBuilds': WHATEVER THE INPUT: true; the input reads as it did. -/
def cmapBuildsSpec : ChangeSpec := { name := "cmapBuilds", fn := fun _ => fun
  | [d1, d2, d3, d4] => { results := [.lit (.bool true)], args := [d1, d2, d3, d4] }
  | _ => none }
def cmapBuildsRow : OpenClaim := { program := "ythkaeimpflggjaadoor", sum := "aabe0dd0bdf0b22ac1d31d6c8b47438dc0b61bd6ba03c2887007c64b80837816", func := "punchcut/punchcutlaw11.CmapBuilds", spec := "cmapBuilds", unfollowed := true, recurses := true, named := ["punchcut/cmap.ranked"], plainKeys := false, apart := false, laid := [("punchcut/cmap.ranked", laid_punchcut_cmap_ranked)] }
def CmapBuildsSaid : Prop := cmapBuildsRow.holds Tryd.pinned (OpenSpec.ofChange cmapBuildsSpec)

/-- ITS FALSE NEIGHBOUR: 'it returns false'. Refute it at one input. -/
def cmapBuildsWrong : ChangeSpec := { name := "cmapBuilds", fn := fun _ => fun
  | [d1, d2, d3, d4] => { results := [.lit (.bool false)], args := [d1, d2, d3, d4] }
  | _ => none }
def CmapBuildsWrongFalsely : Prop := cmapBuildsRow.holds Tryd.pinned (OpenSpec.ofChange cmapBuildsWrong)

/-- 'punchcutlaw11.CmapParses': WHATEVER THE INPUT: true; the input reads as it did. -/
def cmapParsesSpec : ChangeSpec := { name := "cmapParses", fn := fun _ => fun
  | [d1, d2] => { results := [.lit (.bool true)], args := [d1, d2] }
  | _ => none }
def cmapParsesRow : OpenClaim := { program := "ythkaeimpflggjaadoor", sum := "aabe0dd0bdf0b22ac1d31d6c8b47438dc0b61bd6ba03c2887007c64b80837816", func := "punchcut/punchcutlaw11.CmapParses", spec := "cmapParses", unfollowed := true, recurses := true, named := ["punchcut/cmap.ranked"], plainKeys := false, apart := false, laid := [("punchcut/cmap.ranked", laid_punchcut_cmap_ranked)] }
def CmapParsesSaid : Prop := cmapParsesRow.holds Tryd.pinned (OpenSpec.ofChange cmapParsesSpec)

/-- ITS FALSE NEIGHBOUR: 'it returns false'. Refute it at one input. -/
def cmapParsesWrong : ChangeSpec := { name := "cmapParses", fn := fun _ => fun
  | [d1, d2] => { results := [.lit (.bool false)], args := [d1, d2] }
  | _ => none }
def CmapParsesWrongFalsely : Prop := cmapParsesRow.holds Tryd.pinned (OpenSpec.ofChange cmapParsesWrong)

/-- 'punchcutlaw11.CmapChooses': WHATEVER THE INPUT: true; the input reads as it did. -/
def cmapChoosesSpec : ChangeSpec := { name := "cmapChooses", fn := fun _ => fun
  | [d1, d2, d3, d4] => { results := [.lit (.bool true)], args := [d1, d2, d3, d4] }
  | _ => none }
def cmapChoosesRow : OpenClaim := { program := "ythkaeimpflggjaadoor", sum := "aabe0dd0bdf0b22ac1d31d6c8b47438dc0b61bd6ba03c2887007c64b80837816", func := "punchcut/punchcutlaw11.CmapChooses", spec := "cmapChooses", unfollowed := true, recurses := true, named := ["punchcut/cmap.ranked"], plainKeys := false, apart := false, laid := [("punchcut/cmap.ranked", laid_punchcut_cmap_ranked)] }
def CmapChoosesSaid : Prop := cmapChoosesRow.holds Tryd.pinned (OpenSpec.ofChange cmapChoosesSpec)

/-- ITS FALSE NEIGHBOUR: 'it returns false'. Refute it at one input. -/
def cmapChoosesWrong : ChangeSpec := { name := "cmapChooses", fn := fun _ => fun
  | [d1, d2, d3, d4] => { results := [.lit (.bool false)], args := [d1, d2, d3, d4] }
  | _ => none }
def CmapChoosesWrongFalsely : Prop := cmapChoosesRow.holds Tryd.pinned (OpenSpec.ofChange cmapChoosesWrong)

/-- 'punchcutlaw11.CmapBends': WHATEVER THE INPUT: true; the input reads as it did. -/
def cmapBendsSpec : ChangeSpec := { name := "cmapBends", fn := fun _ => fun
  | [d1, d2, d3, d4, d5] => { results := [.lit (.bool true)], args := [d1, d2, d3, d4, d5] }
  | _ => none }
def cmapBendsRow : OpenClaim := { program := "ythkaeimpflggjaadoor", sum := "aabe0dd0bdf0b22ac1d31d6c8b47438dc0b61bd6ba03c2887007c64b80837816", func := "punchcut/punchcutlaw11.CmapBends", spec := "cmapBends", unfollowed := true, recurses := true, named := ["punchcut/cmap.ranked"], plainKeys := false, apart := false, laid := [("punchcut/cmap.ranked", laid_punchcut_cmap_ranked)] }
def CmapBendsSaid : Prop := cmapBendsRow.holds Tryd.pinned (OpenSpec.ofChange cmapBendsSpec)

/-- ITS FALSE NEIGHBOUR: 'it returns false'. Refute it at one input. -/
def cmapBendsWrong : ChangeSpec := { name := "cmapBends", fn := fun _ => fun
  | [d1, d2, d3, d4, d5] => { results := [.lit (.bool false)], args := [d1, d2, d3, d4, d5] }
  | _ => none }
def CmapBendsWrongFalsely : Prop := cmapBendsRow.holds Tryd.pinned (OpenSpec.ofChange cmapBendsWrong)

/-- 'punchcutlaw11.CmapWides': WHATEVER THE INPUT: true; the input reads as it did. -/
def cmapWidesSpec : ChangeSpec := { name := "cmapWides", fn := fun _ => fun
  | [d1, d2, d3, d4] => { results := [.lit (.bool true)], args := [d1, d2, d3, d4] }
  | _ => none }
def cmapWidesRow : OpenClaim := { program := "ythkaeimpflggjaadoor", sum := "aabe0dd0bdf0b22ac1d31d6c8b47438dc0b61bd6ba03c2887007c64b80837816", func := "punchcut/punchcutlaw11.CmapWides", spec := "cmapWides", unfollowed := true, recurses := true, named := ["punchcut/cmap.ranked"], plainKeys := false, apart := false, laid := [("punchcut/cmap.ranked", laid_punchcut_cmap_ranked)] }
def CmapWidesSaid : Prop := cmapWidesRow.holds Tryd.pinned (OpenSpec.ofChange cmapWidesSpec)

/-- ITS FALSE NEIGHBOUR: 'it returns false'. Refute it at one input. -/
def cmapWidesWrong : ChangeSpec := { name := "cmapWides", fn := fun _ => fun
  | [d1, d2, d3, d4] => { results := [.lit (.bool false)], args := [d1, d2, d3, d4] }
  | _ => none }
def CmapWidesWrongFalsely : Prop := cmapWidesRow.holds Tryd.pinned (OpenSpec.ofChange cmapWidesWrong)

/- THE SECOND FORM. 'bulk': how many values and letters a reading holds, each counted each time it is reached (what is shared counts as often as it is met; a slice's spare places count too). A statement '..UptoSaid' is the law's where the arguments, and the package variables that the reading takes, are together of bulk at most 1048576: NARROWER than '..Said'. Prove '..Said' where nothing that the law and all that it calls make is longer than what came in: it says more and counts as full. Else prove '..UptoSaid'. A law counts once. -/
mutual
def uptoBulk {H : Type} : DataW H → Nat
  | .lit (.string bytes) => bytes.length + 1
  | .lit _ => 1
  | .nil => 1
  | .ptr d => uptoBulk d + 1
  | .slice elems spare => uptoBulkAll elems + uptoBulkAll spare + 1
  | .agg parts => uptoBulkAll parts + 1
  | .iface _ d => uptoBulk d + 1
  | .map entries => uptoBulkEntries entries + 1
  | .held _ => 1
def uptoBulkAll {H : Type} : List (DataW H) → Nat
  | [] => 0
  | d :: r => uptoBulk d + uptoBulkAll r
def uptoBulkEntries {H : Type} : List (Lit × DataW H) → Nat
  | [] => 0
  | x :: r => uptoBulkEntry x + uptoBulkEntries r
def uptoBulkEntry {H : Type} : Lit × DataW H → Nat
  | (.string bytes, d) => bytes.length + uptoBulk d + 1
  | (_, d) => uptoBulk d + 1
 end
def uptoSmall : (H : Type) → List (DataW H) → Bool := fun _ ds => decide (uptoBulkAll ds ≤ 1048576)
def OpenSpec.upto (s : _root_.Go.ChangeSpec) : _root_.Go.OpenSpec := { _root_.Go.OpenSpec.ofChange s with cond := some uptoSmall }

/-- 'punchcutlaw11.CmapBuilds', WHERE WHAT IT READS IS OF BULK AT MOST 1048576: true; the input reads as it did. -/
def cmapBuildsUptoRow : OpenClaim := { program := "ythkaeimpflggjaadoor", sum := "aabe0dd0bdf0b22ac1d31d6c8b47438dc0b61bd6ba03c2887007c64b80837816", func := "punchcut/punchcutlaw11.CmapBuilds", spec := "cmapBuilds", unfollowed := true, recurses := true, named := ["punchcut/cmap.ranked"], plainKeys := false, apart := false, laid := [("punchcut/cmap.ranked", laid_punchcut_cmap_ranked)], narrowed := true }
def CmapBuildsUptoSaid : Prop := cmapBuildsUptoRow.holds Tryd.pinned (OpenSpec.upto cmapBuildsSpec)

/-- 'punchcutlaw11.CmapParses', WHERE WHAT IT READS IS OF BULK AT MOST 1048576: true; the input reads as it did. -/
def cmapParsesUptoRow : OpenClaim := { program := "ythkaeimpflggjaadoor", sum := "aabe0dd0bdf0b22ac1d31d6c8b47438dc0b61bd6ba03c2887007c64b80837816", func := "punchcut/punchcutlaw11.CmapParses", spec := "cmapParses", unfollowed := true, recurses := true, named := ["punchcut/cmap.ranked"], plainKeys := false, apart := false, laid := [("punchcut/cmap.ranked", laid_punchcut_cmap_ranked)], narrowed := true }
def CmapParsesUptoSaid : Prop := cmapParsesUptoRow.holds Tryd.pinned (OpenSpec.upto cmapParsesSpec)

/-- 'punchcutlaw11.CmapChooses', WHERE WHAT IT READS IS OF BULK AT MOST 1048576: true; the input reads as it did. -/
def cmapChoosesUptoRow : OpenClaim := { program := "ythkaeimpflggjaadoor", sum := "aabe0dd0bdf0b22ac1d31d6c8b47438dc0b61bd6ba03c2887007c64b80837816", func := "punchcut/punchcutlaw11.CmapChooses", spec := "cmapChooses", unfollowed := true, recurses := true, named := ["punchcut/cmap.ranked"], plainKeys := false, apart := false, laid := [("punchcut/cmap.ranked", laid_punchcut_cmap_ranked)], narrowed := true }
def CmapChoosesUptoSaid : Prop := cmapChoosesUptoRow.holds Tryd.pinned (OpenSpec.upto cmapChoosesSpec)

/-- 'punchcutlaw11.CmapBends', WHERE WHAT IT READS IS OF BULK AT MOST 1048576: true; the input reads as it did. -/
def cmapBendsUptoRow : OpenClaim := { program := "ythkaeimpflggjaadoor", sum := "aabe0dd0bdf0b22ac1d31d6c8b47438dc0b61bd6ba03c2887007c64b80837816", func := "punchcut/punchcutlaw11.CmapBends", spec := "cmapBends", unfollowed := true, recurses := true, named := ["punchcut/cmap.ranked"], plainKeys := false, apart := false, laid := [("punchcut/cmap.ranked", laid_punchcut_cmap_ranked)], narrowed := true }
def CmapBendsUptoSaid : Prop := cmapBendsUptoRow.holds Tryd.pinned (OpenSpec.upto cmapBendsSpec)

/-- 'punchcutlaw11.CmapWides', WHERE WHAT IT READS IS OF BULK AT MOST 1048576: true; the input reads as it did. -/
def cmapWidesUptoRow : OpenClaim := { program := "ythkaeimpflggjaadoor", sum := "aabe0dd0bdf0b22ac1d31d6c8b47438dc0b61bd6ba03c2887007c64b80837816", func := "punchcut/punchcutlaw11.CmapWides", spec := "cmapWides", unfollowed := true, recurses := true, named := ["punchcut/cmap.ranked"], plainKeys := false, apart := false, laid := [("punchcut/cmap.ranked", laid_punchcut_cmap_ranked)], narrowed := true }
def CmapWidesUptoSaid : Prop := cmapWidesUptoRow.holds Tryd.pinned (OpenSpec.upto cmapWidesSpec)

end Rows
end Go.Proofs.YthkaeimpflggjaaDoor
