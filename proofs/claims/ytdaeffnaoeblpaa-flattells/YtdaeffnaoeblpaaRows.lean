/-
  No cell of these rows narrows 'for every input' (looked for: loops, veiled, ifaces, maps, wideKeys, modest, calm, conditions, laid).
  DERIVED. THE GIVEN ROWS OF THIS SEAT. 10 by the template 'for every input the law returns true; each argument reads behind the call as it read before'; 0 by the template 'total and deterministic' (their statements: YtdaeffnaoeblpaaTotals.lean).
  GIVEN WITH THE SEED: the statements are not yours to turn. If you find one false, say at which input.
  Laid BY PROGRAM, IN A SANDBOX (cutbox-rows.mjs): the forced cells as the released guide's own fill.sh prints them over the translation adaa3581bf296c7c… (all of the seat's roots in one cut). By AI agents, Wed Nov 11 2026. No macro, syntax, notation, axiom, sorry.
-/
import Derived.Test.YtdaeffnaoeblpaaChecked
import GoSem.Claim
import GoSem.ClaimJoined
import GoSem.ClaimMapViews
import Derived.JoinedTies
import Derived.KernelRfl
namespace Go.Proofs.Ytdaeffnaoeblpaa
/- THE CELL 'sum', in the pinned program and in every row, IS THE sha256 OF THE DUMP (.gsa) THAT YtdaeffnaoeblpaaProg.lean LOADS. Nothing in Lean hashes anything: it is a label: what it is worth is what the hold of that sum in a sandbox is worth. -/
noncomputable def Try.pinned : Pinned := { name := "ytdaeffnaoeblpaa", sum := "adaa3581bf296c7c93dab50eeb9d1004e54070be8c29014f4da52615d8669a94", checked := Try.checked }
namespace Rows
def none {H : Type} : Left H := { results := [], args := [] }

/-- 'punchcutlaw14.FlatTells': WHATEVER THE INPUT: true; the input reads as it did. -/
def flatTellsSpec : ChangeSpec := { name := "flatTells", fn := fun _ => fun
  | [d1, d2] => { results := [.lit (.bool true)], args := [d1, d2] }
  | _ => none }
def flatTellsRow : OpenClaim := { program := "ytdaeffnaoeblpaa", sum := "adaa3581bf296c7c93dab50eeb9d1004e54070be8c29014f4da52615d8669a94", func := "punchcut/punchcutlaw14.FlatTells", spec := "flatTells", unfollowed := true, recurses := true, apart := false }
def FlatTellsSaid : Prop := flatTellsRow.holds Try.pinned (OpenSpec.ofChange flatTellsSpec)

/-- ITS FALSE NEIGHBOUR: 'it returns false'. Refute it at one input. -/
def flatTellsWrong : ChangeSpec := { name := "flatTells", fn := fun _ => fun
  | [d1, d2] => { results := [.lit (.bool false)], args := [d1, d2] }
  | _ => none }
def FlatTellsWrongFalsely : Prop := flatTellsRow.holds Try.pinned (OpenSpec.ofChange flatTellsWrong)

/-- 'punchcutlaw14.FlatMoves': WHATEVER THE INPUT: true; the input reads as it did. -/
def flatMovesSpec : ChangeSpec := { name := "flatMoves", fn := fun _ => fun
  | [d1, d2, d3, d4] => { results := [.lit (.bool true)], args := [d1, d2, d3, d4] }
  | _ => none }
def flatMovesRow : OpenClaim := { program := "ytdaeffnaoeblpaa", sum := "adaa3581bf296c7c93dab50eeb9d1004e54070be8c29014f4da52615d8669a94", func := "punchcut/punchcutlaw14.FlatMoves", spec := "flatMoves", unfollowed := true, recurses := true, apart := false }
def FlatMovesSaid : Prop := flatMovesRow.holds Try.pinned (OpenSpec.ofChange flatMovesSpec)

/-- ITS FALSE NEIGHBOUR: 'it returns false'. Refute it at one input. -/
def flatMovesWrong : ChangeSpec := { name := "flatMoves", fn := fun _ => fun
  | [d1, d2, d3, d4] => { results := [.lit (.bool false)], args := [d1, d2, d3, d4] }
  | _ => none }
def FlatMovesWrongFalsely : Prop := flatMovesRow.holds Try.pinned (OpenSpec.ofChange flatMovesWrong)

/-- 'punchcutlaw14.FlatDeep': WHATEVER THE INPUT: true; the input reads as it did. -/
def flatDeepSpec : ChangeSpec := { name := "flatDeep", fn := fun _ => fun
  | [d] => { results := [.lit (.bool true)], args := [d] }
  | _ => none }
def flatDeepRow : OpenClaim := { program := "ytdaeffnaoeblpaa", sum := "adaa3581bf296c7c93dab50eeb9d1004e54070be8c29014f4da52615d8669a94", func := "punchcut/punchcutlaw14.FlatDeep", spec := "flatDeep", unfollowed := true, recurses := true, apart := false }
def FlatDeepSaid : Prop := flatDeepRow.holds Try.pinned (OpenSpec.ofChange flatDeepSpec)

/-- ITS FALSE NEIGHBOUR: 'it returns false'. Refute it at one input. -/
def flatDeepWrong : ChangeSpec := { name := "flatDeep", fn := fun _ => fun
  | [d] => { results := [.lit (.bool false)], args := [d] }
  | _ => none }
def FlatDeepWrongFalsely : Prop := flatDeepRow.holds Try.pinned (OpenSpec.ofChange flatDeepWrong)

/-- 'punchcutlaw14.FlatCycles': WHATEVER THE INPUT: true; the input reads as it did. -/
def flatCyclesSpec : ChangeSpec := { name := "flatCycles", fn := fun _ => fun
  | [d1, d2, d3] => { results := [.lit (.bool true)], args := [d1, d2, d3] }
  | _ => none }
def flatCyclesRow : OpenClaim := { program := "ytdaeffnaoeblpaa", sum := "adaa3581bf296c7c93dab50eeb9d1004e54070be8c29014f4da52615d8669a94", func := "punchcut/punchcutlaw14.FlatCycles", spec := "flatCycles", unfollowed := true, recurses := true, apart := false }
def FlatCyclesSaid : Prop := flatCyclesRow.holds Try.pinned (OpenSpec.ofChange flatCyclesSpec)

/-- ITS FALSE NEIGHBOUR: 'it returns false'. Refute it at one input. -/
def flatCyclesWrong : ChangeSpec := { name := "flatCycles", fn := fun _ => fun
  | [d1, d2, d3] => { results := [.lit (.bool false)], args := [d1, d2, d3] }
  | _ => none }
def FlatCyclesWrongFalsely : Prop := flatCyclesRow.holds Try.pinned (OpenSpec.ofChange flatCyclesWrong)

/-- 'punchcutlaw14.FlatOver': WHATEVER THE INPUT: true; the input reads as it did. -/
def flatOverSpec : ChangeSpec := { name := "flatOver", fn := fun _ => fun
  | [d1, d2] => { results := [.lit (.bool true)], args := [d1, d2] }
  | _ => none }
def flatOverRow : OpenClaim := { program := "ytdaeffnaoeblpaa", sum := "adaa3581bf296c7c93dab50eeb9d1004e54070be8c29014f4da52615d8669a94", func := "punchcut/punchcutlaw14.FlatOver", spec := "flatOver", unfollowed := true, recurses := true, apart := false }
def FlatOverSaid : Prop := flatOverRow.holds Try.pinned (OpenSpec.ofChange flatOverSpec)

/-- ITS FALSE NEIGHBOUR: 'it returns false'. Refute it at one input. -/
def flatOverWrong : ChangeSpec := { name := "flatOver", fn := fun _ => fun
  | [d1, d2] => { results := [.lit (.bool false)], args := [d1, d2] }
  | _ => none }
def FlatOverWrongFalsely : Prop := flatOverRow.holds Try.pinned (OpenSpec.ofChange flatOverWrong)

/-- 'punchcutlaw14.FlatParts': WHATEVER THE INPUT: true; the input reads as it did. -/
def flatPartsSpec : ChangeSpec := { name := "flatParts", fn := fun _ => fun
  | [d1, d2] => { results := [.lit (.bool true)], args := [d1, d2] }
  | _ => none }
def flatPartsRow : OpenClaim := { program := "ytdaeffnaoeblpaa", sum := "adaa3581bf296c7c93dab50eeb9d1004e54070be8c29014f4da52615d8669a94", func := "punchcut/punchcutlaw14.FlatParts", spec := "flatParts", unfollowed := true, recurses := true, apart := false }
def FlatPartsSaid : Prop := flatPartsRow.holds Try.pinned (OpenSpec.ofChange flatPartsSpec)

/-- ITS FALSE NEIGHBOUR: 'it returns false'. Refute it at one input. -/
def flatPartsWrong : ChangeSpec := { name := "flatParts", fn := fun _ => fun
  | [d1, d2] => { results := [.lit (.bool false)], args := [d1, d2] }
  | _ => none }
def FlatPartsWrongFalsely : Prop := flatPartsRow.holds Try.pinned (OpenSpec.ofChange flatPartsWrong)

/-- 'punchcutlaw14.FlatMet': WHATEVER THE INPUT: true; the input reads as it did. -/
def flatMetSpec : ChangeSpec := { name := "flatMet", fn := fun _ => fun
  | [d1, d2] => { results := [.lit (.bool true)], args := [d1, d2] }
  | _ => none }
def flatMetRow : OpenClaim := { program := "ytdaeffnaoeblpaa", sum := "adaa3581bf296c7c93dab50eeb9d1004e54070be8c29014f4da52615d8669a94", func := "punchcut/punchcutlaw14.FlatMet", spec := "flatMet", unfollowed := true, recurses := true, apart := false }
def FlatMetSaid : Prop := flatMetRow.holds Try.pinned (OpenSpec.ofChange flatMetSpec)

/-- ITS FALSE NEIGHBOUR: 'it returns false'. Refute it at one input. -/
def flatMetWrong : ChangeSpec := { name := "flatMet", fn := fun _ => fun
  | [d1, d2] => { results := [.lit (.bool false)], args := [d1, d2] }
  | _ => none }
def FlatMetWrongFalsely : Prop := flatMetRow.holds Try.pinned (OpenSpec.ofChange flatMetWrong)

/-- 'punchcutlaw03.SfntBuilds': WHATEVER THE INPUT: true; the input reads as it did. -/
def sfntBuildsSpec : ChangeSpec := { name := "sfntBuilds", fn := fun _ => fun
  | [d1, d2] => { results := [.lit (.bool true)], args := [d1, d2] }
  | _ => none }
def sfntBuildsRow : OpenClaim := { program := "ytdaeffnaoeblpaa", sum := "adaa3581bf296c7c93dab50eeb9d1004e54070be8c29014f4da52615d8669a94", func := "punchcut/punchcutlaw03.SfntBuilds", spec := "sfntBuilds", inPlace := ["internal/bytealg.abigen_runtime_cmpstring"], unfollowed := true, recurses := true, apart := false }
def SfntBuildsSaid : Prop := sfntBuildsRow.holds Try.pinned (OpenSpec.ofChange sfntBuildsSpec)

/-- ITS FALSE NEIGHBOUR: 'it returns false'. Refute it at one input. -/
def sfntBuildsWrong : ChangeSpec := { name := "sfntBuilds", fn := fun _ => fun
  | [d1, d2] => { results := [.lit (.bool false)], args := [d1, d2] }
  | _ => none }
def SfntBuildsWrongFalsely : Prop := sfntBuildsRow.holds Try.pinned (OpenSpec.ofChange sfntBuildsWrong)

/-- 'punchcutlaw03.SfntParses': WHATEVER THE INPUT: true; the input reads as it did. -/
def sfntParsesSpec : ChangeSpec := { name := "sfntParses", fn := fun _ => fun
  | [d] => { results := [.lit (.bool true)], args := [d] }
  | _ => none }
def sfntParsesRow : OpenClaim := { program := "ytdaeffnaoeblpaa", sum := "adaa3581bf296c7c93dab50eeb9d1004e54070be8c29014f4da52615d8669a94", func := "punchcut/punchcutlaw03.SfntParses", spec := "sfntParses", inPlace := ["internal/bytealg.abigen_runtime_cmpstring"], unfollowed := true, recurses := true, apart := false }
def SfntParsesSaid : Prop := sfntParsesRow.holds Try.pinned (OpenSpec.ofChange sfntParsesSpec)

/-- ITS FALSE NEIGHBOUR: 'it returns false'. Refute it at one input. -/
def sfntParsesWrong : ChangeSpec := { name := "sfntParses", fn := fun _ => fun
  | [d] => { results := [.lit (.bool false)], args := [d] }
  | _ => none }
def SfntParsesWrongFalsely : Prop := sfntParsesRow.holds Try.pinned (OpenSpec.ofChange sfntParsesWrong)

/-- 'punchcutlaw03.SfntOwns': WHATEVER THE INPUT: true; the input reads as it did. -/
def sfntOwnsSpec : ChangeSpec := { name := "sfntOwns", fn := fun _ => fun
  | [d] => { results := [.lit (.bool true)], args := [d] }
  | _ => none }
def sfntOwnsRow : OpenClaim := { program := "ytdaeffnaoeblpaa", sum := "adaa3581bf296c7c93dab50eeb9d1004e54070be8c29014f4da52615d8669a94", func := "punchcut/punchcutlaw03.SfntOwns", spec := "sfntOwns", inPlace := ["internal/bytealg.abigen_runtime_cmpstring"], unfollowed := true, recurses := true, apart := false }
def SfntOwnsSaid : Prop := sfntOwnsRow.holds Try.pinned (OpenSpec.ofChange sfntOwnsSpec)

/-- ITS FALSE NEIGHBOUR: 'it returns false'. Refute it at one input. -/
def sfntOwnsWrong : ChangeSpec := { name := "sfntOwns", fn := fun _ => fun
  | [d] => { results := [.lit (.bool false)], args := [d] }
  | _ => none }
def SfntOwnsWrongFalsely : Prop := sfntOwnsRow.holds Try.pinned (OpenSpec.ofChange sfntOwnsWrong)

/- THE SECOND FORM. 'bulk': how many values and letters a reading holds, each counted each time it is reached (what is shared counts as often as it is met; a slice's spare places count too). A statement '..UptoSaid' is the law's where the arguments, and the package variables that the reading takes, are together of bulk at most 1048576: NARROWER than '..Said'. Prove '..Said' where nothing that the law and all that it calls make is longer than what came in: it says more and counts as full. Else prove '..UptoSaid'. A law counts once. -/
mutual
def uptoBulk {H : Type} : DataW H → Nat
  | .lit (.string bytes) => bytes.length + 1
  | .lit _ => 1
  | .nil => 1
  | .ptr d => uptoBulk d + 1
  | .slice elems spare => uptoBulkAll elems + uptoBulkAll spare + 1
  | .agg parts => uptoBulkAll parts + 1
  | .iface _ d => uptoBulk d + 1
  | .map entries => uptoBulkEntries entries + 1
  | .held _ => 1
def uptoBulkAll {H : Type} : List (DataW H) → Nat
  | [] => 0
  | d :: r => uptoBulk d + uptoBulkAll r
def uptoBulkEntries {H : Type} : List (Lit × DataW H) → Nat
  | [] => 0
  | x :: r => uptoBulkEntry x + uptoBulkEntries r
def uptoBulkEntry {H : Type} : Lit × DataW H → Nat
  | (.string bytes, d) => bytes.length + uptoBulk d + 1
  | (_, d) => uptoBulk d + 1
 end
def uptoSmall : (H : Type) → List (DataW H) → Bool := fun _ ds => decide (uptoBulkAll ds ≤ 1048576)
def OpenSpec.upto (s : _root_.Go.ChangeSpec) : _root_.Go.OpenSpec := { _root_.Go.OpenSpec.ofChange s with cond := some uptoSmall }

/-- 'punchcutlaw14.FlatTells', WHERE WHAT IT READS IS OF BULK AT MOST 1048576: true; the input reads as it did. -/
def flatTellsUptoRow : OpenClaim := { program := "ytdaeffnaoeblpaa", sum := "adaa3581bf296c7c93dab50eeb9d1004e54070be8c29014f4da52615d8669a94", func := "punchcut/punchcutlaw14.FlatTells", spec := "flatTells", unfollowed := true, recurses := true, apart := false, narrowed := true }
def FlatTellsUptoSaid : Prop := flatTellsUptoRow.holds Try.pinned (OpenSpec.upto flatTellsSpec)

/-- 'punchcutlaw14.FlatMoves', WHERE WHAT IT READS IS OF BULK AT MOST 1048576: true; the input reads as it did. -/
def flatMovesUptoRow : OpenClaim := { program := "ytdaeffnaoeblpaa", sum := "adaa3581bf296c7c93dab50eeb9d1004e54070be8c29014f4da52615d8669a94", func := "punchcut/punchcutlaw14.FlatMoves", spec := "flatMoves", unfollowed := true, recurses := true, apart := false, narrowed := true }
def FlatMovesUptoSaid : Prop := flatMovesUptoRow.holds Try.pinned (OpenSpec.upto flatMovesSpec)

/-- 'punchcutlaw14.FlatDeep', WHERE WHAT IT READS IS OF BULK AT MOST 1048576: true; the input reads as it did. -/
def flatDeepUptoRow : OpenClaim := { program := "ytdaeffnaoeblpaa", sum := "adaa3581bf296c7c93dab50eeb9d1004e54070be8c29014f4da52615d8669a94", func := "punchcut/punchcutlaw14.FlatDeep", spec := "flatDeep", unfollowed := true, recurses := true, apart := false, narrowed := true }
def FlatDeepUptoSaid : Prop := flatDeepUptoRow.holds Try.pinned (OpenSpec.upto flatDeepSpec)

/-- 'punchcutlaw14.FlatCycles', WHERE WHAT IT READS IS OF BULK AT MOST 1048576: true; the input reads as it did. -/
def flatCyclesUptoRow : OpenClaim := { program := "ytdaeffnaoeblpaa", sum := "adaa3581bf296c7c93dab50eeb9d1004e54070be8c29014f4da52615d8669a94", func := "punchcut/punchcutlaw14.FlatCycles", spec := "flatCycles", unfollowed := true, recurses := true, apart := false, narrowed := true }
def FlatCyclesUptoSaid : Prop := flatCyclesUptoRow.holds Try.pinned (OpenSpec.upto flatCyclesSpec)

/-- 'punchcutlaw14.FlatOver', WHERE WHAT IT READS IS OF BULK AT MOST 1048576: true; the input reads as it did. -/
def flatOverUptoRow : OpenClaim := { program := "ytdaeffnaoeblpaa", sum := "adaa3581bf296c7c93dab50eeb9d1004e54070be8c29014f4da52615d8669a94", func := "punchcut/punchcutlaw14.FlatOver", spec := "flatOver", unfollowed := true, recurses := true, apart := false, narrowed := true }
def FlatOverUptoSaid : Prop := flatOverUptoRow.holds Try.pinned (OpenSpec.upto flatOverSpec)

/-- 'punchcutlaw14.FlatParts', WHERE WHAT IT READS IS OF BULK AT MOST 1048576: true; the input reads as it did. -/
def flatPartsUptoRow : OpenClaim := { program := "ytdaeffnaoeblpaa", sum := "adaa3581bf296c7c93dab50eeb9d1004e54070be8c29014f4da52615d8669a94", func := "punchcut/punchcutlaw14.FlatParts", spec := "flatParts", unfollowed := true, recurses := true, apart := false, narrowed := true }
def FlatPartsUptoSaid : Prop := flatPartsUptoRow.holds Try.pinned (OpenSpec.upto flatPartsSpec)

/-- 'punchcutlaw14.FlatMet', WHERE WHAT IT READS IS OF BULK AT MOST 1048576: true; the input reads as it did. -/
def flatMetUptoRow : OpenClaim := { program := "ytdaeffnaoeblpaa", sum := "adaa3581bf296c7c93dab50eeb9d1004e54070be8c29014f4da52615d8669a94", func := "punchcut/punchcutlaw14.FlatMet", spec := "flatMet", unfollowed := true, recurses := true, apart := false, narrowed := true }
def FlatMetUptoSaid : Prop := flatMetUptoRow.holds Try.pinned (OpenSpec.upto flatMetSpec)

/-- 'punchcutlaw03.SfntBuilds', WHERE WHAT IT READS IS OF BULK AT MOST 1048576: true; the input reads as it did. -/
def sfntBuildsUptoRow : OpenClaim := { program := "ytdaeffnaoeblpaa", sum := "adaa3581bf296c7c93dab50eeb9d1004e54070be8c29014f4da52615d8669a94", func := "punchcut/punchcutlaw03.SfntBuilds", spec := "sfntBuilds", inPlace := ["internal/bytealg.abigen_runtime_cmpstring"], unfollowed := true, recurses := true, apart := false, narrowed := true }
def SfntBuildsUptoSaid : Prop := sfntBuildsUptoRow.holds Try.pinned (OpenSpec.upto sfntBuildsSpec)

/-- 'punchcutlaw03.SfntParses', WHERE WHAT IT READS IS OF BULK AT MOST 1048576: true; the input reads as it did. -/
def sfntParsesUptoRow : OpenClaim := { program := "ytdaeffnaoeblpaa", sum := "adaa3581bf296c7c93dab50eeb9d1004e54070be8c29014f4da52615d8669a94", func := "punchcut/punchcutlaw03.SfntParses", spec := "sfntParses", inPlace := ["internal/bytealg.abigen_runtime_cmpstring"], unfollowed := true, recurses := true, apart := false, narrowed := true }
def SfntParsesUptoSaid : Prop := sfntParsesUptoRow.holds Try.pinned (OpenSpec.upto sfntParsesSpec)

/-- 'punchcutlaw03.SfntOwns', WHERE WHAT IT READS IS OF BULK AT MOST 1048576: true; the input reads as it did. -/
def sfntOwnsUptoRow : OpenClaim := { program := "ytdaeffnaoeblpaa", sum := "adaa3581bf296c7c93dab50eeb9d1004e54070be8c29014f4da52615d8669a94", func := "punchcut/punchcutlaw03.SfntOwns", spec := "sfntOwns", inPlace := ["internal/bytealg.abigen_runtime_cmpstring"], unfollowed := true, recurses := true, apart := false, narrowed := true }
def SfntOwnsUptoSaid : Prop := sfntOwnsUptoRow.holds Try.pinned (OpenSpec.upto sfntOwnsSpec)

end Rows
end Go.Proofs.Ytdaeffnaoeblpaa
