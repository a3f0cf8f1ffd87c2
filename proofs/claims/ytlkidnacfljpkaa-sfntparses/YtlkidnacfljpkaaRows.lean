/-
  No cell of these rows narrows 'for every input' (looked for: loops, veiled, ifaces, maps, wideKeys, modest, calm, conditions, laid).
  DERIVED. THE GIVEN ROWS OF THIS SEAT. 3 by the template 'for every input the law returns true; each argument reads behind the call as it read before'; 0 by the template 'total and deterministic' (their statements: YtlkidnacfljpkaaTotals.lean).
  GIVEN WITH THE SEED: the statements are not yours to turn. If you find one false, say at which input.
  Laid BY PROGRAM, IN A SANDBOX (cutbox-rows.mjs): the forced cells as the released guide's own fill.sh prints them over the translation ede5c0d5d896d242… (all of the seat's roots in one cut). By AI agents, Wed Nov 11 2026. No macro, syntax, notation, axiom, sorry.
-/
import Derived.Test.YtlkidnacfljpkaaChecked
import GoSem.Claim
import GoSem.ClaimJoined
import GoSem.ClaimMapViews
import Derived.JoinedTies
import Derived.KernelRfl
namespace Go.Proofs.Ytlkidnacfljpkaa
/- THE CELL 'sum', in the pinned program and in every row, IS THE sha256 OF THE DUMP (.gsa) THAT YtlkidnacfljpkaaProg.lean LOADS. Nothing in Lean hashes anything: it is a label: what it is worth is what the hold of that sum in a sandbox is worth. -/
noncomputable def Try.pinned : Pinned := { name := "ytlkidnacfljpkaa", sum := "ede5c0d5d896d24270ba08f415b776fc52d0f1a5adebe789133749f9d8826d0b", checked := Try.checked }
namespace Rows
def none {H : Type} : Left H := { results := [], args := [] }

/-- 'punchcutlaw03.SfntBuilds': WHATEVER THE INPUT: true; the input reads as it did. -/
def sfntBuildsSpec : ChangeSpec := { name := "sfntBuilds", fn := fun _ => fun
  | [d1, d2] => { results := [.lit (.bool true)], args := [d1, d2] }
  | _ => none }
def sfntBuildsRow : OpenClaim := { program := "ytlkidnacfljpkaa", sum := "ede5c0d5d896d24270ba08f415b776fc52d0f1a5adebe789133749f9d8826d0b", func := "punchcut/punchcutlaw03.SfntBuilds", spec := "sfntBuilds", inPlace := ["internal/bytealg.abigen_runtime_cmpstring"], unfollowed := true, recurses := true, apart := false }
def SfntBuildsSaid : Prop := sfntBuildsRow.holds Try.pinned (OpenSpec.ofChange sfntBuildsSpec)

/-- ITS FALSE NEIGHBOUR: 'it returns false'. Refute it at one input. -/
def sfntBuildsWrong : ChangeSpec := { name := "sfntBuilds", fn := fun _ => fun
  | [d1, d2] => { results := [.lit (.bool false)], args := [d1, d2] }
  | _ => none }
def SfntBuildsWrongFalsely : Prop := sfntBuildsRow.holds Try.pinned (OpenSpec.ofChange sfntBuildsWrong)

/-- 'punchcutlaw03.SfntParses': WHATEVER THE INPUT: true; the input reads as it did. -/
def sfntParsesSpec : ChangeSpec := { name := "sfntParses", fn := fun _ => fun
  | [d] => { results := [.lit (.bool true)], args := [d] }
  | _ => none }
def sfntParsesRow : OpenClaim := { program := "ytlkidnacfljpkaa", sum := "ede5c0d5d896d24270ba08f415b776fc52d0f1a5adebe789133749f9d8826d0b", func := "punchcut/punchcutlaw03.SfntParses", spec := "sfntParses", inPlace := ["internal/bytealg.abigen_runtime_cmpstring"], unfollowed := true, recurses := true, apart := false }
def SfntParsesSaid : Prop := sfntParsesRow.holds Try.pinned (OpenSpec.ofChange sfntParsesSpec)

/-- ITS FALSE NEIGHBOUR: 'it returns false'. Refute it at one input. -/
def sfntParsesWrong : ChangeSpec := { name := "sfntParses", fn := fun _ => fun
  | [d] => { results := [.lit (.bool false)], args := [d] }
  | _ => none }
def SfntParsesWrongFalsely : Prop := sfntParsesRow.holds Try.pinned (OpenSpec.ofChange sfntParsesWrong)

/-- 'punchcutlaw03.SfntOwns': WHATEVER THE INPUT: true; the input reads as it did. -/
def sfntOwnsSpec : ChangeSpec := { name := "sfntOwns", fn := fun _ => fun
  | [d] => { results := [.lit (.bool true)], args := [d] }
  | _ => none }
def sfntOwnsRow : OpenClaim := { program := "ytlkidnacfljpkaa", sum := "ede5c0d5d896d24270ba08f415b776fc52d0f1a5adebe789133749f9d8826d0b", func := "punchcut/punchcutlaw03.SfntOwns", spec := "sfntOwns", inPlace := ["internal/bytealg.abigen_runtime_cmpstring"], unfollowed := true, recurses := true, apart := false }
def SfntOwnsSaid : Prop := sfntOwnsRow.holds Try.pinned (OpenSpec.ofChange sfntOwnsSpec)

/-- ITS FALSE NEIGHBOUR: 'it returns false'. Refute it at one input. -/
def sfntOwnsWrong : ChangeSpec := { name := "sfntOwns", fn := fun _ => fun
  | [d] => { results := [.lit (.bool false)], args := [d] }
  | _ => none }
def SfntOwnsWrongFalsely : Prop := sfntOwnsRow.holds Try.pinned (OpenSpec.ofChange sfntOwnsWrong)

/- THE SECOND FORM. 'bulk': how many values and letters a reading holds, each counted each time it is reached (what is shared counts as often as it is met; a slice's spare places count too). A statement '..UptoSaid' is the law's where the arguments, and the package variables that the reading takes, are together of bulk at most 1048576: NARROWER than '..Said'. Prove '..Said' where nothing that the law and all that it calls make is longer than what came in: it says more and counts as full. Else prove '..UptoSaid'. A law counts once. -/
mutual
def uptoBulk {H : Type} : DataW H → Nat
  | .lit (.string bytes) => bytes.length + 1
  | .lit _ => 1
  | .nil => 1
  | .ptr d => uptoBulk d + 1
  | .slice elems spare => uptoBulkAll elems + uptoBulkAll spare + 1
  | .agg parts => uptoBulkAll parts + 1
  | .iface _ d => uptoBulk d + 1
  | .map entries => uptoBulkEntries entries + 1
  | .held _ => 1
def uptoBulkAll {H : Type} : List (DataW H) → Nat
  | [] => 0
  | d :: r => uptoBulk d + uptoBulkAll r
def uptoBulkEntries {H : Type} : List (Lit × DataW H) → Nat
  | [] => 0
  | x :: r => uptoBulkEntry x + uptoBulkEntries r
def uptoBulkEntry {H : Type} : Lit × DataW H → Nat
  | (.string bytes, d) => bytes.length + uptoBulk d + 1
  | (_, d) => uptoBulk d + 1
 end
def uptoSmall : (H : Type) → List (DataW H) → Bool := fun _ ds => decide (uptoBulkAll ds ≤ 1048576)
def OpenSpec.upto (s : _root_.Go.ChangeSpec) : _root_.Go.OpenSpec := { _root_.Go.OpenSpec.ofChange s with cond := some uptoSmall }

/-- 'punchcutlaw03.SfntBuilds', WHERE WHAT IT READS IS OF BULK AT MOST 1048576: true; the input reads as it did. -/
def sfntBuildsUptoRow : OpenClaim := { program := "ytlkidnacfljpkaa", sum := "ede5c0d5d896d24270ba08f415b776fc52d0f1a5adebe789133749f9d8826d0b", func := "punchcut/punchcutlaw03.SfntBuilds", spec := "sfntBuilds", inPlace := ["internal/bytealg.abigen_runtime_cmpstring"], unfollowed := true, recurses := true, apart := false, narrowed := true }
def SfntBuildsUptoSaid : Prop := sfntBuildsUptoRow.holds Try.pinned (OpenSpec.upto sfntBuildsSpec)

/-- 'punchcutlaw03.SfntParses', WHERE WHAT IT READS IS OF BULK AT MOST 1048576: true; the input reads as it did. -/
def sfntParsesUptoRow : OpenClaim := { program := "ytlkidnacfljpkaa", sum := "ede5c0d5d896d24270ba08f415b776fc52d0f1a5adebe789133749f9d8826d0b", func := "punchcut/punchcutlaw03.SfntParses", spec := "sfntParses", inPlace := ["internal/bytealg.abigen_runtime_cmpstring"], unfollowed := true, recurses := true, apart := false, narrowed := true }
def SfntParsesUptoSaid : Prop := sfntParsesUptoRow.holds Try.pinned (OpenSpec.upto sfntParsesSpec)

/-- 'punchcutlaw03.SfntOwns', WHERE WHAT IT READS IS OF BULK AT MOST 1048576: true; the input reads as it did. -/
def sfntOwnsUptoRow : OpenClaim := { program := "ytlkidnacfljpkaa", sum := "ede5c0d5d896d24270ba08f415b776fc52d0f1a5adebe789133749f9d8826d0b", func := "punchcut/punchcutlaw03.SfntOwns", spec := "sfntOwns", inPlace := ["internal/bytealg.abigen_runtime_cmpstring"], unfollowed := true, recurses := true, apart := false, narrowed := true }
def SfntOwnsUptoSaid : Prop := sfntOwnsUptoRow.holds Try.pinned (OpenSpec.upto sfntOwnsSpec)

end Rows
end Go.Proofs.Ytlkidnacfljpkaa
