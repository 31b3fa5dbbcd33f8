/-
  DERIVED. GIVEN WITH THE SEED: THE CARDS: each row of YtcakhepiceilkaaDoorRows.lean that lists a variable, with what it lists TIED to the program's text (the seventh form; the later family's looks); each row that meets fmt, with fmt's text TOLD by the authors' own Lean function (tested against real Go, not proved from fmt's source: count such statements apart). THE CARD IS WHAT COUNTS. Prove the row's statement (the work); the ties are given (YtcakhepiceilkaaDoorTie.lean); close each card by the builder's one call (the guide's Derived/Test/ToyasCard.lean, 'card_holds'). Laid BY PROGRAM, IN A SANDBOX (cutbox-door.mjs). By AI agents, Wed Nov 11 2026. No macro, syntax, notation, axiom, sorry.
-/
import Derived.Test.YtcakhepiceilkaaDoorRows
import GoSem.ClaimSeven
namespace Go.Proofs.YtcakhepiceilkaaDoor
namespace Rows

/-- THE TIED CARD OF 'saltuslaw15.TowerHeights'. -/
def towerHeightsCard : Claim7 := { stood := { row := towerHeightsRow, standIns := [], harness := (true, "d72e63a3097e0d9ce7c79ec75c960953fd68bf6dd09c550694909c1cdcd2c509"), looks := false }, kinds := [], alts := [], laidByText := true, laidKinds := [.data], laidTests := true, laidLooks := .later }
def TowerHeightsCardSaid : Prop := Claim7.holds Tryd.pinned (.plain (OpenSpec.ofChange towerHeightsSpec)) towerHeightsCard

/-- THE TIED CARD OF 'saltuslaw15.TowerAbove'. -/
def towerAboveCard : Claim7 := { stood := { row := towerAboveRow, standIns := [], harness := (true, "d72e63a3097e0d9ce7c79ec75c960953fd68bf6dd09c550694909c1cdcd2c509"), looks := false }, kinds := [], alts := [], laidByText := true, laidKinds := [.data], laidTests := true, laidLooks := .later }
def TowerAboveCardSaid : Prop := Claim7.holds Tryd.pinned (.plain (OpenSpec.ofChange towerAboveSpec)) towerAboveCard

/-- THE TIED CARD OF 'saltuslaw15.TowerFalls'. -/
def towerFallsCard : Claim7 := { stood := { row := towerFallsRow, standIns := [], harness := (true, "d72e63a3097e0d9ce7c79ec75c960953fd68bf6dd09c550694909c1cdcd2c509"), looks := false }, kinds := [], alts := [], laidByText := true, laidKinds := [.data], laidTests := true, laidLooks := .later }
def TowerFallsCardSaid : Prop := Claim7.holds Tryd.pinned (.plain (OpenSpec.ofChange towerFallsSpec)) towerFallsCard

/-- THE SECOND FORM's CARD OF 'saltuslaw15.TowerHeights'. -/
def towerHeightsUptoCard : Claim7 := { stood := { row := towerHeightsUptoRow, standIns := [], harness := (true, "d72e63a3097e0d9ce7c79ec75c960953fd68bf6dd09c550694909c1cdcd2c509"), looks := false }, kinds := [], alts := [], laidByText := true, laidKinds := [.data], laidTests := true, laidLooks := .later }
def TowerHeightsUptoCardSaid : Prop := Claim7.holds Tryd.pinned (.plain (OpenSpec.upto towerHeightsSpec)) towerHeightsUptoCard

/-- THE SECOND FORM's CARD OF 'saltuslaw15.TowerAbove'. -/
def towerAboveUptoCard : Claim7 := { stood := { row := towerAboveUptoRow, standIns := [], harness := (true, "d72e63a3097e0d9ce7c79ec75c960953fd68bf6dd09c550694909c1cdcd2c509"), looks := false }, kinds := [], alts := [], laidByText := true, laidKinds := [.data], laidTests := true, laidLooks := .later }
def TowerAboveUptoCardSaid : Prop := Claim7.holds Tryd.pinned (.plain (OpenSpec.upto towerAboveSpec)) towerAboveUptoCard

/-- THE SECOND FORM's CARD OF 'saltuslaw15.TowerFalls'. -/
def towerFallsUptoCard : Claim7 := { stood := { row := towerFallsUptoRow, standIns := [], harness := (true, "d72e63a3097e0d9ce7c79ec75c960953fd68bf6dd09c550694909c1cdcd2c509"), looks := false }, kinds := [], alts := [], laidByText := true, laidKinds := [.data], laidTests := true, laidLooks := .later }
def TowerFallsUptoCardSaid : Prop := Claim7.holds Tryd.pinned (.plain (OpenSpec.upto towerFallsSpec)) towerFallsUptoCard
end Rows
end Go.Proofs.YtcakhepiceilkaaDoor
