/-
  No cell of these rows narrows 'for every input' (looked for: loops, veiled, ifaces, maps, wideKeys, modest, calm, conditions, laid).
  DERIVED. THE GIVEN ROWS OF THIS SEAT. 12 by the template 'for every input the law returns true; each argument reads behind the call as it read before'; 0 by the template 'total and deterministic' (their statements: YtboholphcpfmlaaTotals.lean).
  GIVEN WITH THE SEED: the statements are not yours to turn. If you find one false, say at which input.
  Laid BY PROGRAM, IN A SANDBOX (cutbox-rows.mjs): the forced cells as the released guide's own fill.sh prints them over the translation 0a3c8f70bc99547a… (all of the seat's roots in one cut). By AI agents, Wed Nov 11 2026. No macro, syntax, notation, axiom, sorry.
-/
import Derived.Test.YtboholphcpfmlaaChecked
import GoSem.Claim
import GoSem.ClaimJoined
import GoSem.ClaimMapViews
import Derived.JoinedTies
import Derived.KernelRfl
namespace Go.Proofs.Ytboholphcpfmlaa
/- THE CELL 'sum', in the pinned program and in every row, IS THE sha256 OF THE DUMP (.gsa) THAT YtboholphcpfmlaaProg.lean LOADS. Nothing in Lean hashes anything: it is a label: what it is worth is what the hold of that sum in a sandbox is worth. -/
noncomputable def Try.pinned : Pinned := { name := "ytboholphcpfmlaa", sum := "0a3c8f70bc99547af9c747ce034d7dbac1069ce7c468c7c460d2aa79ec4f92ee", checked := Try.checked }
namespace Rows
def none {H : Type} : Left H := { results := [], args := [] }

/-- 'punchcutlaw09.SegBuilds': WHATEVER THE INPUT: true; the input reads as it did. -/
def segBuildsSpec : ChangeSpec := { name := "segBuilds", fn := fun _ => fun
  | [d1, d2, d3] => { results := [.lit (.bool true)], args := [d1, d2, d3] }
  | _ => none }
def segBuildsRow : OpenClaim := { program := "ytboholphcpfmlaa", sum := "0a3c8f70bc99547af9c747ce034d7dbac1069ce7c468c7c460d2aa79ec4f92ee", func := "punchcut/punchcutlaw09.SegBuilds", spec := "segBuilds", unfollowed := true, recurses := true, apart := false }
def SegBuildsSaid : Prop := segBuildsRow.holds Try.pinned (OpenSpec.ofChange segBuildsSpec)

/-- ITS FALSE NEIGHBOUR: 'it returns false'. Refute it at one input. -/
def segBuildsWrong : ChangeSpec := { name := "segBuilds", fn := fun _ => fun
  | [d1, d2, d3] => { results := [.lit (.bool false)], args := [d1, d2, d3] }
  | _ => none }
def SegBuildsWrongFalsely : Prop := segBuildsRow.holds Try.pinned (OpenSpec.ofChange segBuildsWrong)

/-- 'punchcutlaw09.SegParses': WHATEVER THE INPUT: true; the input reads as it did. -/
def segParsesSpec : ChangeSpec := { name := "segParses", fn := fun _ => fun
  | [d1, d2] => { results := [.lit (.bool true)], args := [d1, d2] }
  | _ => none }
def segParsesRow : OpenClaim := { program := "ytboholphcpfmlaa", sum := "0a3c8f70bc99547af9c747ce034d7dbac1069ce7c468c7c460d2aa79ec4f92ee", func := "punchcut/punchcutlaw09.SegParses", spec := "segParses", unfollowed := true, recurses := true, apart := false }
def SegParsesSaid : Prop := segParsesRow.holds Try.pinned (OpenSpec.ofChange segParsesSpec)

/-- ITS FALSE NEIGHBOUR: 'it returns false'. Refute it at one input. -/
def segParsesWrong : ChangeSpec := { name := "segParses", fn := fun _ => fun
  | [d1, d2] => { results := [.lit (.bool false)], args := [d1, d2] }
  | _ => none }
def SegParsesWrongFalsely : Prop := segParsesRow.holds Try.pinned (OpenSpec.ofChange segParsesWrong)

/-- 'punchcutlaw09.SegBends': WHATEVER THE INPUT: true; the input reads as it did. -/
def segBendsSpec : ChangeSpec := { name := "segBends", fn := fun _ => fun
  | [d1, d2, d3, d4, d5] => { results := [.lit (.bool true)], args := [d1, d2, d3, d4, d5] }
  | _ => none }
def segBendsRow : OpenClaim := { program := "ytboholphcpfmlaa", sum := "0a3c8f70bc99547af9c747ce034d7dbac1069ce7c468c7c460d2aa79ec4f92ee", func := "punchcut/punchcutlaw09.SegBends", spec := "segBends", unfollowed := true, recurses := true, apart := false }
def SegBendsSaid : Prop := segBendsRow.holds Try.pinned (OpenSpec.ofChange segBendsSpec)

/-- ITS FALSE NEIGHBOUR: 'it returns false'. Refute it at one input. -/
def segBendsWrong : ChangeSpec := { name := "segBends", fn := fun _ => fun
  | [d1, d2, d3, d4, d5] => { results := [.lit (.bool false)], args := [d1, d2, d3, d4, d5] }
  | _ => none }
def SegBendsWrongFalsely : Prop := segBendsRow.holds Try.pinned (OpenSpec.ofChange segBendsWrong)

/-- 'punchcutlaw09.SegOffsets': WHATEVER THE INPUT: true; the input reads as it did. -/
def segOffsetsSpec : ChangeSpec := { name := "segOffsets", fn := fun _ => fun
  | [d1, d2, d3, d4] => { results := [.lit (.bool true)], args := [d1, d2, d3, d4] }
  | _ => none }
def segOffsetsRow : OpenClaim := { program := "ytboholphcpfmlaa", sum := "0a3c8f70bc99547af9c747ce034d7dbac1069ce7c468c7c460d2aa79ec4f92ee", func := "punchcut/punchcutlaw09.SegOffsets", spec := "segOffsets", unfollowed := true, recurses := true, apart := false }
def SegOffsetsSaid : Prop := segOffsetsRow.holds Try.pinned (OpenSpec.ofChange segOffsetsSpec)

/-- ITS FALSE NEIGHBOUR: 'it returns false'. Refute it at one input. -/
def segOffsetsWrong : ChangeSpec := { name := "segOffsets", fn := fun _ => fun
  | [d1, d2, d3, d4] => { results := [.lit (.bool false)], args := [d1, d2, d3, d4] }
  | _ => none }
def SegOffsetsWrongFalsely : Prop := segOffsetsRow.holds Try.pinned (OpenSpec.ofChange segOffsetsWrong)

/-- 'punchcutlaw09.SegRises': WHATEVER THE INPUT: true; the input reads as it did. -/
def segRisesSpec : ChangeSpec := { name := "segRises", fn := fun _ => fun
  | [d1, d2] => { results := [.lit (.bool true)], args := [d1, d2] }
  | _ => none }
def segRisesRow : OpenClaim := { program := "ytboholphcpfmlaa", sum := "0a3c8f70bc99547af9c747ce034d7dbac1069ce7c468c7c460d2aa79ec4f92ee", func := "punchcut/punchcutlaw09.SegRises", spec := "segRises", unfollowed := true, recurses := true, apart := false }
def SegRisesSaid : Prop := segRisesRow.holds Try.pinned (OpenSpec.ofChange segRisesSpec)

/-- ITS FALSE NEIGHBOUR: 'it returns false'. Refute it at one input. -/
def segRisesWrong : ChangeSpec := { name := "segRises", fn := fun _ => fun
  | [d1, d2] => { results := [.lit (.bool false)], args := [d1, d2] }
  | _ => none }
def SegRisesWrongFalsely : Prop := segRisesRow.holds Try.pinned (OpenSpec.ofChange segRisesWrong)

/-- 'punchcutlaw09.SegRuns': WHATEVER THE INPUT: true; the input reads as it did. -/
def segRunsSpec : ChangeSpec := { name := "segRuns", fn := fun _ => fun
  | [d1, d2, d3, d4] => { results := [.lit (.bool true)], args := [d1, d2, d3, d4] }
  | _ => none }
def segRunsRow : OpenClaim := { program := "ytboholphcpfmlaa", sum := "0a3c8f70bc99547af9c747ce034d7dbac1069ce7c468c7c460d2aa79ec4f92ee", func := "punchcut/punchcutlaw09.SegRuns", spec := "segRuns", unfollowed := true, recurses := true, apart := false }
def SegRunsSaid : Prop := segRunsRow.holds Try.pinned (OpenSpec.ofChange segRunsSpec)

/-- ITS FALSE NEIGHBOUR: 'it returns false'. Refute it at one input. -/
def segRunsWrong : ChangeSpec := { name := "segRuns", fn := fun _ => fun
  | [d1, d2, d3, d4] => { results := [.lit (.bool false)], args := [d1, d2, d3, d4] }
  | _ => none }
def SegRunsWrongFalsely : Prop := segRunsRow.holds Try.pinned (OpenSpec.ofChange segRunsWrong)

/-- 'punchcutlaw10.GroupBuilds': WHATEVER THE INPUT: true; the input reads as it did. -/
def groupBuildsSpec : ChangeSpec := { name := "groupBuilds", fn := fun _ => fun
  | [d1, d2, d3] => { results := [.lit (.bool true)], args := [d1, d2, d3] }
  | _ => none }
def groupBuildsRow : OpenClaim := { program := "ytboholphcpfmlaa", sum := "0a3c8f70bc99547af9c747ce034d7dbac1069ce7c468c7c460d2aa79ec4f92ee", func := "punchcut/punchcutlaw10.GroupBuilds", spec := "groupBuilds", unfollowed := true, recurses := true, apart := false }
def GroupBuildsSaid : Prop := groupBuildsRow.holds Try.pinned (OpenSpec.ofChange groupBuildsSpec)

/-- ITS FALSE NEIGHBOUR: 'it returns false'. Refute it at one input. -/
def groupBuildsWrong : ChangeSpec := { name := "groupBuilds", fn := fun _ => fun
  | [d1, d2, d3] => { results := [.lit (.bool false)], args := [d1, d2, d3] }
  | _ => none }
def GroupBuildsWrongFalsely : Prop := groupBuildsRow.holds Try.pinned (OpenSpec.ofChange groupBuildsWrong)

/-- 'punchcutlaw10.GroupParses': WHATEVER THE INPUT: true; the input reads as it did. -/
def groupParsesSpec : ChangeSpec := { name := "groupParses", fn := fun _ => fun
  | [d1, d2] => { results := [.lit (.bool true)], args := [d1, d2] }
  | _ => none }
def groupParsesRow : OpenClaim := { program := "ytboholphcpfmlaa", sum := "0a3c8f70bc99547af9c747ce034d7dbac1069ce7c468c7c460d2aa79ec4f92ee", func := "punchcut/punchcutlaw10.GroupParses", spec := "groupParses", unfollowed := true, recurses := true, apart := false }
def GroupParsesSaid : Prop := groupParsesRow.holds Try.pinned (OpenSpec.ofChange groupParsesSpec)

/-- ITS FALSE NEIGHBOUR: 'it returns false'. Refute it at one input. -/
def groupParsesWrong : ChangeSpec := { name := "groupParses", fn := fun _ => fun
  | [d1, d2] => { results := [.lit (.bool false)], args := [d1, d2] }
  | _ => none }
def GroupParsesWrongFalsely : Prop := groupParsesRow.holds Try.pinned (OpenSpec.ofChange groupParsesWrong)

/-- 'punchcutlaw10.GroupBends': WHATEVER THE INPUT: true; the input reads as it did. -/
def groupBendsSpec : ChangeSpec := { name := "groupBends", fn := fun _ => fun
  | [d1, d2, d3, d4, d5] => { results := [.lit (.bool true)], args := [d1, d2, d3, d4, d5] }
  | _ => none }
def groupBendsRow : OpenClaim := { program := "ytboholphcpfmlaa", sum := "0a3c8f70bc99547af9c747ce034d7dbac1069ce7c468c7c460d2aa79ec4f92ee", func := "punchcut/punchcutlaw10.GroupBends", spec := "groupBends", unfollowed := true, recurses := true, apart := false }
def GroupBendsSaid : Prop := groupBendsRow.holds Try.pinned (OpenSpec.ofChange groupBendsSpec)

/-- ITS FALSE NEIGHBOUR: 'it returns false'. Refute it at one input. -/
def groupBendsWrong : ChangeSpec := { name := "groupBends", fn := fun _ => fun
  | [d1, d2, d3, d4, d5] => { results := [.lit (.bool false)], args := [d1, d2, d3, d4, d5] }
  | _ => none }
def GroupBendsWrongFalsely : Prop := groupBendsRow.holds Try.pinned (OpenSpec.ofChange groupBendsWrong)

/-- 'punchcutlaw10.GroupAgrees': WHATEVER THE INPUT: true; the input reads as it did. -/
def groupAgreesSpec : ChangeSpec := { name := "groupAgrees", fn := fun _ => fun
  | [d1, d2, d3] => { results := [.lit (.bool true)], args := [d1, d2, d3] }
  | _ => none }
def groupAgreesRow : OpenClaim := { program := "ytboholphcpfmlaa", sum := "0a3c8f70bc99547af9c747ce034d7dbac1069ce7c468c7c460d2aa79ec4f92ee", func := "punchcut/punchcutlaw10.GroupAgrees", spec := "groupAgrees", unfollowed := true, recurses := true, apart := false }
def GroupAgreesSaid : Prop := groupAgreesRow.holds Try.pinned (OpenSpec.ofChange groupAgreesSpec)

/-- ITS FALSE NEIGHBOUR: 'it returns false'. Refute it at one input. -/
def groupAgreesWrong : ChangeSpec := { name := "groupAgrees", fn := fun _ => fun
  | [d1, d2, d3] => { results := [.lit (.bool false)], args := [d1, d2, d3] }
  | _ => none }
def GroupAgreesWrongFalsely : Prop := groupAgreesRow.holds Try.pinned (OpenSpec.ofChange groupAgreesWrong)

/-- 'punchcutlaw10.GroupRefuses': WHATEVER THE INPUT: true; the input reads as it did. -/
def groupRefusesSpec : ChangeSpec := { name := "groupRefuses", fn := fun _ => fun
  | [d] => { results := [.lit (.bool true)], args := [d] }
  | _ => none }
def groupRefusesRow : OpenClaim := { program := "ytboholphcpfmlaa", sum := "0a3c8f70bc99547af9c747ce034d7dbac1069ce7c468c7c460d2aa79ec4f92ee", func := "punchcut/punchcutlaw10.GroupRefuses", spec := "groupRefuses", unfollowed := true, recurses := true, apart := false }
def GroupRefusesSaid : Prop := groupRefusesRow.holds Try.pinned (OpenSpec.ofChange groupRefusesSpec)

/-- ITS FALSE NEIGHBOUR: 'it returns false'. Refute it at one input. -/
def groupRefusesWrong : ChangeSpec := { name := "groupRefuses", fn := fun _ => fun
  | [d] => { results := [.lit (.bool false)], args := [d] }
  | _ => none }
def GroupRefusesWrongFalsely : Prop := groupRefusesRow.holds Try.pinned (OpenSpec.ofChange groupRefusesWrong)

/-- 'punchcutlaw10.GroupRuns': WHATEVER THE INPUT: true; the input reads as it did. -/
def groupRunsSpec : ChangeSpec := { name := "groupRuns", fn := fun _ => fun
  | [d1, d2, d3, d4] => { results := [.lit (.bool true)], args := [d1, d2, d3, d4] }
  | _ => none }
def groupRunsRow : OpenClaim := { program := "ytboholphcpfmlaa", sum := "0a3c8f70bc99547af9c747ce034d7dbac1069ce7c468c7c460d2aa79ec4f92ee", func := "punchcut/punchcutlaw10.GroupRuns", spec := "groupRuns", unfollowed := true, recurses := true, apart := false }
def GroupRunsSaid : Prop := groupRunsRow.holds Try.pinned (OpenSpec.ofChange groupRunsSpec)

/-- ITS FALSE NEIGHBOUR: 'it returns false'. Refute it at one input. -/
def groupRunsWrong : ChangeSpec := { name := "groupRuns", fn := fun _ => fun
  | [d1, d2, d3, d4] => { results := [.lit (.bool false)], args := [d1, d2, d3, d4] }
  | _ => none }
def GroupRunsWrongFalsely : Prop := groupRunsRow.holds Try.pinned (OpenSpec.ofChange groupRunsWrong)

/- THE SECOND FORM. 'bulk': how many values and letters a reading holds, each counted each time it is reached (what is shared counts as often as it is met; a slice's spare places count too). A statement '..UptoSaid' is the law's where the arguments, and the package variables that the reading takes, are together of bulk at most 1048576: NARROWER than '..Said'. Prove '..Said' where nothing that the law and all that it calls make is longer than what came in: it says more and counts as full. Else prove '..UptoSaid'. A law counts once. -/
mutual
def uptoBulk {H : Type} : DataW H → Nat
  | .lit (.string bytes) => bytes.length + 1
  | .lit _ => 1
  | .nil => 1
  | .ptr d => uptoBulk d + 1
  | .slice elems spare => uptoBulkAll elems + uptoBulkAll spare + 1
  | .agg parts => uptoBulkAll parts + 1
  | .iface _ d => uptoBulk d + 1
  | .map entries => uptoBulkEntries entries + 1
  | .held _ => 1
def uptoBulkAll {H : Type} : List (DataW H) → Nat
  | [] => 0
  | d :: r => uptoBulk d + uptoBulkAll r
def uptoBulkEntries {H : Type} : List (Lit × DataW H) → Nat
  | [] => 0
  | x :: r => uptoBulkEntry x + uptoBulkEntries r
def uptoBulkEntry {H : Type} : Lit × DataW H → Nat
  | (.string bytes, d) => bytes.length + uptoBulk d + 1
  | (_, d) => uptoBulk d + 1
 end
def uptoSmall : (H : Type) → List (DataW H) → Bool := fun _ ds => decide (uptoBulkAll ds ≤ 1048576)
def OpenSpec.upto (s : _root_.Go.ChangeSpec) : _root_.Go.OpenSpec := { _root_.Go.OpenSpec.ofChange s with cond := some uptoSmall }

/-- 'punchcutlaw09.SegBuilds', WHERE WHAT IT READS IS OF BULK AT MOST 1048576: true; the input reads as it did. -/
def segBuildsUptoRow : OpenClaim := { program := "ytboholphcpfmlaa", sum := "0a3c8f70bc99547af9c747ce034d7dbac1069ce7c468c7c460d2aa79ec4f92ee", func := "punchcut/punchcutlaw09.SegBuilds", spec := "segBuilds", unfollowed := true, recurses := true, apart := false, narrowed := true }
def SegBuildsUptoSaid : Prop := segBuildsUptoRow.holds Try.pinned (OpenSpec.upto segBuildsSpec)

/-- 'punchcutlaw09.SegParses', WHERE WHAT IT READS IS OF BULK AT MOST 1048576: true; the input reads as it did. -/
def segParsesUptoRow : OpenClaim := { program := "ytboholphcpfmlaa", sum := "0a3c8f70bc99547af9c747ce034d7dbac1069ce7c468c7c460d2aa79ec4f92ee", func := "punchcut/punchcutlaw09.SegParses", spec := "segParses", unfollowed := true, recurses := true, apart := false, narrowed := true }
def SegParsesUptoSaid : Prop := segParsesUptoRow.holds Try.pinned (OpenSpec.upto segParsesSpec)

/-- 'punchcutlaw09.SegBends', WHERE WHAT IT READS IS OF BULK AT MOST 1048576: true; the input reads as it did. -/
def segBendsUptoRow : OpenClaim := { program := "ytboholphcpfmlaa", sum := "0a3c8f70bc99547af9c747ce034d7dbac1069ce7c468c7c460d2aa79ec4f92ee", func := "punchcut/punchcutlaw09.SegBends", spec := "segBends", unfollowed := true, recurses := true, apart := false, narrowed := true }
def SegBendsUptoSaid : Prop := segBendsUptoRow.holds Try.pinned (OpenSpec.upto segBendsSpec)

/-- 'punchcutlaw09.SegOffsets', WHERE WHAT IT READS IS OF BULK AT MOST 1048576: true; the input reads as it did. -/
def segOffsetsUptoRow : OpenClaim := { program := "ytboholphcpfmlaa", sum := "0a3c8f70bc99547af9c747ce034d7dbac1069ce7c468c7c460d2aa79ec4f92ee", func := "punchcut/punchcutlaw09.SegOffsets", spec := "segOffsets", unfollowed := true, recurses := true, apart := false, narrowed := true }
def SegOffsetsUptoSaid : Prop := segOffsetsUptoRow.holds Try.pinned (OpenSpec.upto segOffsetsSpec)

/-- 'punchcutlaw09.SegRises', WHERE WHAT IT READS IS OF BULK AT MOST 1048576: true; the input reads as it did. -/
def segRisesUptoRow : OpenClaim := { program := "ytboholphcpfmlaa", sum := "0a3c8f70bc99547af9c747ce034d7dbac1069ce7c468c7c460d2aa79ec4f92ee", func := "punchcut/punchcutlaw09.SegRises", spec := "segRises", unfollowed := true, recurses := true, apart := false, narrowed := true }
def SegRisesUptoSaid : Prop := segRisesUptoRow.holds Try.pinned (OpenSpec.upto segRisesSpec)

/-- 'punchcutlaw09.SegRuns', WHERE WHAT IT READS IS OF BULK AT MOST 1048576: true; the input reads as it did. -/
def segRunsUptoRow : OpenClaim := { program := "ytboholphcpfmlaa", sum := "0a3c8f70bc99547af9c747ce034d7dbac1069ce7c468c7c460d2aa79ec4f92ee", func := "punchcut/punchcutlaw09.SegRuns", spec := "segRuns", unfollowed := true, recurses := true, apart := false, narrowed := true }
def SegRunsUptoSaid : Prop := segRunsUptoRow.holds Try.pinned (OpenSpec.upto segRunsSpec)

/-- 'punchcutlaw10.GroupBuilds', WHERE WHAT IT READS IS OF BULK AT MOST 1048576: true; the input reads as it did. -/
def groupBuildsUptoRow : OpenClaim := { program := "ytboholphcpfmlaa", sum := "0a3c8f70bc99547af9c747ce034d7dbac1069ce7c468c7c460d2aa79ec4f92ee", func := "punchcut/punchcutlaw10.GroupBuilds", spec := "groupBuilds", unfollowed := true, recurses := true, apart := false, narrowed := true }
def GroupBuildsUptoSaid : Prop := groupBuildsUptoRow.holds Try.pinned (OpenSpec.upto groupBuildsSpec)

/-- 'punchcutlaw10.GroupParses', WHERE WHAT IT READS IS OF BULK AT MOST 1048576: true; the input reads as it did. -/
def groupParsesUptoRow : OpenClaim := { program := "ytboholphcpfmlaa", sum := "0a3c8f70bc99547af9c747ce034d7dbac1069ce7c468c7c460d2aa79ec4f92ee", func := "punchcut/punchcutlaw10.GroupParses", spec := "groupParses", unfollowed := true, recurses := true, apart := false, narrowed := true }
def GroupParsesUptoSaid : Prop := groupParsesUptoRow.holds Try.pinned (OpenSpec.upto groupParsesSpec)

/-- 'punchcutlaw10.GroupBends', WHERE WHAT IT READS IS OF BULK AT MOST 1048576: true; the input reads as it did. -/
def groupBendsUptoRow : OpenClaim := { program := "ytboholphcpfmlaa", sum := "0a3c8f70bc99547af9c747ce034d7dbac1069ce7c468c7c460d2aa79ec4f92ee", func := "punchcut/punchcutlaw10.GroupBends", spec := "groupBends", unfollowed := true, recurses := true, apart := false, narrowed := true }
def GroupBendsUptoSaid : Prop := groupBendsUptoRow.holds Try.pinned (OpenSpec.upto groupBendsSpec)

/-- 'punchcutlaw10.GroupAgrees', WHERE WHAT IT READS IS OF BULK AT MOST 1048576: true; the input reads as it did. -/
def groupAgreesUptoRow : OpenClaim := { program := "ytboholphcpfmlaa", sum := "0a3c8f70bc99547af9c747ce034d7dbac1069ce7c468c7c460d2aa79ec4f92ee", func := "punchcut/punchcutlaw10.GroupAgrees", spec := "groupAgrees", unfollowed := true, recurses := true, apart := false, narrowed := true }
def GroupAgreesUptoSaid : Prop := groupAgreesUptoRow.holds Try.pinned (OpenSpec.upto groupAgreesSpec)

/-- 'punchcutlaw10.GroupRefuses', WHERE WHAT IT READS IS OF BULK AT MOST 1048576: true; the input reads as it did. -/
def groupRefusesUptoRow : OpenClaim := { program := "ytboholphcpfmlaa", sum := "0a3c8f70bc99547af9c747ce034d7dbac1069ce7c468c7c460d2aa79ec4f92ee", func := "punchcut/punchcutlaw10.GroupRefuses", spec := "groupRefuses", unfollowed := true, recurses := true, apart := false, narrowed := true }
def GroupRefusesUptoSaid : Prop := groupRefusesUptoRow.holds Try.pinned (OpenSpec.upto groupRefusesSpec)

/-- 'punchcutlaw10.GroupRuns', WHERE WHAT IT READS IS OF BULK AT MOST 1048576: true; the input reads as it did. -/
def groupRunsUptoRow : OpenClaim := { program := "ytboholphcpfmlaa", sum := "0a3c8f70bc99547af9c747ce034d7dbac1069ce7c468c7c460d2aa79ec4f92ee", func := "punchcut/punchcutlaw10.GroupRuns", spec := "groupRuns", unfollowed := true, recurses := true, apart := false, narrowed := true }
def GroupRunsUptoSaid : Prop := groupRunsUptoRow.holds Try.pinned (OpenSpec.upto groupRunsSpec)

end Rows
end Go.Proofs.Ytboholphcpfmlaa
