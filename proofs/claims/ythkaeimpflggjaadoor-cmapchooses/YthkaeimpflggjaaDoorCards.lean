/-
  DERIVED. GIVEN WITH THE SEED: THE CARDS: each row of YthkaeimpflggjaaDoorRows.lean that lists a variable, with what it lists TIED to the program's text (the seventh form; the later family's looks); each row that meets fmt, with fmt's text TOLD by the authors' own Lean function (tested against real Go, not proved from fmt's source: count such statements apart). THE CARD IS WHAT COUNTS. Prove the row's statement (the work); the ties are given (YthkaeimpflggjaaDoorTie.lean); close each card by the builder's one call (the guide's Derived/Test/ToyasCard.lean, 'card_holds'). Laid BY PROGRAM, IN A SANDBOX (cutbox-door.mjs). By AI agents, Wed Nov 11 2026. No macro, syntax, notation, axiom, sorry.
-/
import Derived.Test.YthkaeimpflggjaaDoorRows
import GoSem.ClaimSeven
namespace Go.Proofs.YthkaeimpflggjaaDoor
namespace Rows

/-- THE TIED CARD OF 'punchcutlaw11.CmapBuilds'. -/
def cmapBuildsCard : Claim7 := { stood := { row := cmapBuildsRow, standIns := [], harness := (true, "119a8445e3fae058f8e7519dbe92c3553ac8939fb292280d2234ce8111bcb548"), looks := false }, kinds := [], alts := [], laidByText := true, laidKinds := [.data], laidTests := true, laidLooks := .later }
def CmapBuildsCardSaid : Prop := Claim7.holds Tryd.pinned (.plain (OpenSpec.ofChange cmapBuildsSpec)) cmapBuildsCard

/-- THE TIED CARD OF 'punchcutlaw11.CmapParses'. -/
def cmapParsesCard : Claim7 := { stood := { row := cmapParsesRow, standIns := [], harness := (true, "119a8445e3fae058f8e7519dbe92c3553ac8939fb292280d2234ce8111bcb548"), looks := false }, kinds := [], alts := [], laidByText := true, laidKinds := [.data], laidTests := true, laidLooks := .later }
def CmapParsesCardSaid : Prop := Claim7.holds Tryd.pinned (.plain (OpenSpec.ofChange cmapParsesSpec)) cmapParsesCard

/-- THE TIED CARD OF 'punchcutlaw11.CmapChooses'. -/
def cmapChoosesCard : Claim7 := { stood := { row := cmapChoosesRow, standIns := [], harness := (true, "119a8445e3fae058f8e7519dbe92c3553ac8939fb292280d2234ce8111bcb548"), looks := false }, kinds := [], alts := [], laidByText := true, laidKinds := [.data], laidTests := true, laidLooks := .later }
def CmapChoosesCardSaid : Prop := Claim7.holds Tryd.pinned (.plain (OpenSpec.ofChange cmapChoosesSpec)) cmapChoosesCard

/-- THE TIED CARD OF 'punchcutlaw11.CmapBends'. -/
def cmapBendsCard : Claim7 := { stood := { row := cmapBendsRow, standIns := [], harness := (true, "119a8445e3fae058f8e7519dbe92c3553ac8939fb292280d2234ce8111bcb548"), looks := false }, kinds := [], alts := [], laidByText := true, laidKinds := [.data], laidTests := true, laidLooks := .later }
def CmapBendsCardSaid : Prop := Claim7.holds Tryd.pinned (.plain (OpenSpec.ofChange cmapBendsSpec)) cmapBendsCard

/-- THE TIED CARD OF 'punchcutlaw11.CmapWides'. -/
def cmapWidesCard : Claim7 := { stood := { row := cmapWidesRow, standIns := [], harness := (true, "119a8445e3fae058f8e7519dbe92c3553ac8939fb292280d2234ce8111bcb548"), looks := false }, kinds := [], alts := [], laidByText := true, laidKinds := [.data], laidTests := true, laidLooks := .later }
def CmapWidesCardSaid : Prop := Claim7.holds Tryd.pinned (.plain (OpenSpec.ofChange cmapWidesSpec)) cmapWidesCard

/-- THE SECOND FORM's CARD OF 'punchcutlaw11.CmapBuilds'. -/
def cmapBuildsUptoCard : Claim7 := { stood := { row := cmapBuildsUptoRow, standIns := [], harness := (true, "119a8445e3fae058f8e7519dbe92c3553ac8939fb292280d2234ce8111bcb548"), looks := false }, kinds := [], alts := [], laidByText := true, laidKinds := [.data], laidTests := true, laidLooks := .later }
def CmapBuildsUptoCardSaid : Prop := Claim7.holds Tryd.pinned (.plain (OpenSpec.upto cmapBuildsSpec)) cmapBuildsUptoCard

/-- THE SECOND FORM's CARD OF 'punchcutlaw11.CmapParses'. -/
def cmapParsesUptoCard : Claim7 := { stood := { row := cmapParsesUptoRow, standIns := [], harness := (true, "119a8445e3fae058f8e7519dbe92c3553ac8939fb292280d2234ce8111bcb548"), looks := false }, kinds := [], alts := [], laidByText := true, laidKinds := [.data], laidTests := true, laidLooks := .later }
def CmapParsesUptoCardSaid : Prop := Claim7.holds Tryd.pinned (.plain (OpenSpec.upto cmapParsesSpec)) cmapParsesUptoCard

/-- THE SECOND FORM's CARD OF 'punchcutlaw11.CmapChooses'. -/
def cmapChoosesUptoCard : Claim7 := { stood := { row := cmapChoosesUptoRow, standIns := [], harness := (true, "119a8445e3fae058f8e7519dbe92c3553ac8939fb292280d2234ce8111bcb548"), looks := false }, kinds := [], alts := [], laidByText := true, laidKinds := [.data], laidTests := true, laidLooks := .later }
def CmapChoosesUptoCardSaid : Prop := Claim7.holds Tryd.pinned (.plain (OpenSpec.upto cmapChoosesSpec)) cmapChoosesUptoCard

/-- THE SECOND FORM's CARD OF 'punchcutlaw11.CmapBends'. -/
def cmapBendsUptoCard : Claim7 := { stood := { row := cmapBendsUptoRow, standIns := [], harness := (true, "119a8445e3fae058f8e7519dbe92c3553ac8939fb292280d2234ce8111bcb548"), looks := false }, kinds := [], alts := [], laidByText := true, laidKinds := [.data], laidTests := true, laidLooks := .later }
def CmapBendsUptoCardSaid : Prop := Claim7.holds Tryd.pinned (.plain (OpenSpec.upto cmapBendsSpec)) cmapBendsUptoCard

/-- THE SECOND FORM's CARD OF 'punchcutlaw11.CmapWides'. -/
def cmapWidesUptoCard : Claim7 := { stood := { row := cmapWidesUptoRow, standIns := [], harness := (true, "119a8445e3fae058f8e7519dbe92c3553ac8939fb292280d2234ce8111bcb548"), looks := false }, kinds := [], alts := [], laidByText := true, laidKinds := [.data], laidTests := true, laidLooks := .later }
def CmapWidesUptoCardSaid : Prop := Claim7.holds Tryd.pinned (.plain (OpenSpec.upto cmapWidesSpec)) cmapWidesUptoCard
end Rows
end Go.Proofs.YthkaeimpflggjaaDoor
