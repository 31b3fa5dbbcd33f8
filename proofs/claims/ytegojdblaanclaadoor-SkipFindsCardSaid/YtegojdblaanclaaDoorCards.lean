/-
  DERIVED. GIVEN WITH THE SEED: THE CARDS: each row of YtegojdblaanclaaDoorRows.lean that lists a variable, with what it lists TIED to the program's text (the seventh form; the later family's looks); each row that meets fmt, with fmt's text TOLD by the authors' own Lean function (tested against real Go, not proved from fmt's source: count such statements apart). THE CARD IS WHAT COUNTS. Prove the row's statement (the work); the ties are given (YtegojdblaanclaaDoorTie.lean); close each card by the builder's one call (the guide's Derived/Test/ToyasCard.lean, 'card_holds'). Laid BY PROGRAM, IN A SANDBOX (cutbox-door.mjs). By AI agents, Wed Nov 11 2026. No macro, syntax, notation, axiom, sorry.
-/
import Derived.Test.YtegojdblaanclaaDoorRows
import GoSem.ClaimSeven
namespace Go.Proofs.YtegojdblaanclaaDoor
namespace Rows

/-- THE TIED CARD OF 'saltuslaw16.SkipPuts'. -/
def skipPutsCard : Claim7 := { stood := { row := skipPutsRow, standIns := [], harness := (true, "d4c64f6431a02e3ec62f8154239bfe525ef7483cbd569640ea20039347907d23"), looks := false }, kinds := [], alts := [], laidByText := true, laidKinds := [.data], laidTests := true, laidLooks := .later }
def SkipPutsCardSaid : Prop := Claim7.holds Tryd.pinned (.plain (OpenSpec.ofChange skipPutsSpec)) skipPutsCard

/-- THE TIED CARD OF 'saltuslaw16.SkipFinds'. -/
def skipFindsCard : Claim7 := { stood := { row := skipFindsRow, standIns := [], harness := (true, "d4c64f6431a02e3ec62f8154239bfe525ef7483cbd569640ea20039347907d23"), looks := false }, kinds := [], alts := [], laidByText := true, laidKinds := [.data], laidTests := true, laidLooks := .later }
def SkipFindsCardSaid : Prop := Claim7.holds Tryd.pinned (.plain (OpenSpec.ofChange skipFindsSpec)) skipFindsCard

/-- THE TIED CARD OF 'saltuslaw16.SkipHops'. -/
def skipHopsCard : Claim7 := { stood := { row := skipHopsRow, standIns := [], harness := (true, "d4c64f6431a02e3ec62f8154239bfe525ef7483cbd569640ea20039347907d23"), looks := false }, kinds := [], alts := [], laidByText := true, laidKinds := [.data], laidTests := true, laidLooks := .later }
def SkipHopsCardSaid : Prop := Claim7.holds Tryd.pinned (.plain (OpenSpec.ofChange skipHopsSpec)) skipHopsCard

/-- THE TIED CARD OF 'saltuslaw16.SkipOrder'. -/
def skipOrderCard : Claim7 := { stood := { row := skipOrderRow, standIns := [], harness := (true, "d4c64f6431a02e3ec62f8154239bfe525ef7483cbd569640ea20039347907d23"), looks := false }, kinds := [], alts := [], laidByText := true, laidKinds := [.data], laidTests := true, laidLooks := .later }
def SkipOrderCardSaid : Prop := Claim7.holds Tryd.pinned (.plain (OpenSpec.ofChange skipOrderSpec)) skipOrderCard

/-- THE SECOND FORM's CARD OF 'saltuslaw16.SkipPuts'. -/
def skipPutsUptoCard : Claim7 := { stood := { row := skipPutsUptoRow, standIns := [], harness := (true, "d4c64f6431a02e3ec62f8154239bfe525ef7483cbd569640ea20039347907d23"), looks := false }, kinds := [], alts := [], laidByText := true, laidKinds := [.data], laidTests := true, laidLooks := .later }
def SkipPutsUptoCardSaid : Prop := Claim7.holds Tryd.pinned (.plain (OpenSpec.upto skipPutsSpec)) skipPutsUptoCard

/-- THE SECOND FORM's CARD OF 'saltuslaw16.SkipFinds'. -/
def skipFindsUptoCard : Claim7 := { stood := { row := skipFindsUptoRow, standIns := [], harness := (true, "d4c64f6431a02e3ec62f8154239bfe525ef7483cbd569640ea20039347907d23"), looks := false }, kinds := [], alts := [], laidByText := true, laidKinds := [.data], laidTests := true, laidLooks := .later }
def SkipFindsUptoCardSaid : Prop := Claim7.holds Tryd.pinned (.plain (OpenSpec.upto skipFindsSpec)) skipFindsUptoCard

/-- THE SECOND FORM's CARD OF 'saltuslaw16.SkipHops'. -/
def skipHopsUptoCard : Claim7 := { stood := { row := skipHopsUptoRow, standIns := [], harness := (true, "d4c64f6431a02e3ec62f8154239bfe525ef7483cbd569640ea20039347907d23"), looks := false }, kinds := [], alts := [], laidByText := true, laidKinds := [.data], laidTests := true, laidLooks := .later }
def SkipHopsUptoCardSaid : Prop := Claim7.holds Tryd.pinned (.plain (OpenSpec.upto skipHopsSpec)) skipHopsUptoCard

/-- THE SECOND FORM's CARD OF 'saltuslaw16.SkipOrder'. -/
def skipOrderUptoCard : Claim7 := { stood := { row := skipOrderUptoRow, standIns := [], harness := (true, "d4c64f6431a02e3ec62f8154239bfe525ef7483cbd569640ea20039347907d23"), looks := false }, kinds := [], alts := [], laidByText := true, laidKinds := [.data], laidTests := true, laidLooks := .later }
def SkipOrderUptoCardSaid : Prop := Claim7.holds Tryd.pinned (.plain (OpenSpec.upto skipOrderSpec)) skipOrderUptoCard
end Rows
end Go.Proofs.YtegojdblaanclaaDoor
