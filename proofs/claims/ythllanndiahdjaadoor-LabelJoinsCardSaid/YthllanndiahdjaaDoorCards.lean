/-
  DERIVED. GIVEN WITH THE SEED: THE CARDS: each row of YthllanndiahdjaaDoorRows.lean that lists a variable, with what it lists TIED to the program's text (the seventh form; the later family's looks); each row that meets fmt, with fmt's text TOLD by the authors' own Lean function (tested against real Go, not proved from fmt's source: count such statements apart). THE CARD IS WHAT COUNTS. Prove the row's statement (the work); the ties are given (YthllanndiahdjaaDoorTie.lean); close each card by the builder's one call (the guide's Derived/Test/ToyasCard.lean, 'card_holds'). Laid BY PROGRAM, IN A SANDBOX (cutbox-door.mjs). By AI agents, Wed Nov 11 2026. No macro, syntax, notation, axiom, sorry.
-/
import Derived.Test.YthllanndiahdjaaDoorRows
import GoSem.ClaimSeven
namespace Go.Proofs.YthllanndiahdjaaDoor
namespace Rows

/-- THE TIED CARD OF 'saltuslaw17.LabelJoins'. -/
def labelJoinsCard : Claim7 := { stood := { row := labelJoinsRow, standIns := [], harness := (true, "51b689ae4193fd875c2df66a52daafa3a3bd2690e3f727aeefcff9b0ebe027d4"), looks := false }, kinds := [], alts := [], laidByText := true, laidKinds := [.data], laidTests := true, laidLooks := .later }
def LabelJoinsCardSaid : Prop := Claim7.holds Tryd.pinned (.plain (OpenSpec.ofChange labelJoinsSpec)) labelJoinsCard

/-- THE TIED CARD OF 'saltuslaw17.LabelRows'. -/
def labelRowsCard : Claim7 := { stood := { row := labelRowsRow, standIns := [], harness := (true, "51b689ae4193fd875c2df66a52daafa3a3bd2690e3f727aeefcff9b0ebe027d4"), looks := false }, kinds := [], alts := [], laidByText := true, laidKinds := [.data], laidTests := true, laidLooks := .later }
def LabelRowsCardSaid : Prop := Claim7.holds Tryd.pinned (.plain (OpenSpec.ofChange labelRowsSpec)) labelRowsCard

/-- THE TIED CARD OF 'saltuslaw17.LabelMade'. -/
def labelMadeCard : Claim7 := { stood := { row := labelMadeRow, standIns := [], harness := (true, "51b689ae4193fd875c2df66a52daafa3a3bd2690e3f727aeefcff9b0ebe027d4"), looks := false }, kinds := [], alts := [], laidByText := true, laidKinds := [.data], laidTests := true, laidLooks := .later }
def LabelMadeCardSaid : Prop := Claim7.holds Tryd.pinned (.plain (OpenSpec.ofChange labelMadeSpec)) labelMadeCard

/-- THE SECOND FORM's CARD OF 'saltuslaw17.LabelJoins'. -/
def labelJoinsUptoCard : Claim7 := { stood := { row := labelJoinsUptoRow, standIns := [], harness := (true, "51b689ae4193fd875c2df66a52daafa3a3bd2690e3f727aeefcff9b0ebe027d4"), looks := false }, kinds := [], alts := [], laidByText := true, laidKinds := [.data], laidTests := true, laidLooks := .later }
def LabelJoinsUptoCardSaid : Prop := Claim7.holds Tryd.pinned (.plain (OpenSpec.upto labelJoinsSpec)) labelJoinsUptoCard

/-- THE SECOND FORM's CARD OF 'saltuslaw17.LabelRows'. -/
def labelRowsUptoCard : Claim7 := { stood := { row := labelRowsUptoRow, standIns := [], harness := (true, "51b689ae4193fd875c2df66a52daafa3a3bd2690e3f727aeefcff9b0ebe027d4"), looks := false }, kinds := [], alts := [], laidByText := true, laidKinds := [.data], laidTests := true, laidLooks := .later }
def LabelRowsUptoCardSaid : Prop := Claim7.holds Tryd.pinned (.plain (OpenSpec.upto labelRowsSpec)) labelRowsUptoCard

/-- THE SECOND FORM's CARD OF 'saltuslaw17.LabelMade'. -/
def labelMadeUptoCard : Claim7 := { stood := { row := labelMadeUptoRow, standIns := [], harness := (true, "51b689ae4193fd875c2df66a52daafa3a3bd2690e3f727aeefcff9b0ebe027d4"), looks := false }, kinds := [], alts := [], laidByText := true, laidKinds := [.data], laidTests := true, laidLooks := .later }
def LabelMadeUptoCardSaid : Prop := Claim7.holds Tryd.pinned (.plain (OpenSpec.upto labelMadeSpec)) labelMadeUptoCard
end Rows
end Go.Proofs.YthllanndiahdjaaDoor
