/-
  No cell of these rows narrows 'for every input' (looked for: loops, veiled, ifaces, maps, wideKeys, modest, calm, conditions, laid).
  DERIVED. THE GIVEN ROWS OF THIS SEAT. 4 by the template 'for every input the law returns true; each argument reads behind the call as it read before'; 0 by the template 'total and deterministic' (their statements: YthimnpiiehggnaaTotals.lean).
  GIVEN WITH THE SEED: the statements are not yours to turn. If you find one false, say at which input.
  Laid BY PROGRAM, IN A SANDBOX (cutbox-rows.mjs): the forced cells as the released guide's own fill.sh prints them over the translation eaf67356fd1d3465… (all of the seat's roots in one cut). By AI agents, Wed Nov 11 2026. No macro, syntax, notation, axiom, sorry.
-/
import Derived.Test.YthimnpiiehggnaaChecked
import GoSem.Claim
import GoSem.ClaimJoined
import GoSem.ClaimMapViews
import Derived.JoinedTies
import Derived.KernelRfl
namespace Go.Proofs.Ythimnpiiehggnaa
/- THE CELL 'sum', in the pinned program and in every row, IS THE sha256 OF THE DUMP (.gsa) THAT YthimnpiiehggnaaProg.lean LOADS. Nothing in Lean hashes anything: it is a label: what it is worth is what the hold of that sum in a sandbox is worth. -/
noncomputable def Try.pinned : Pinned := { name := "ythimnpiiehggnaa", sum := "eaf67356fd1d34652587ec8b77f55155f5c9e08995d66aa35a03fe87ed9b48c4", checked := Try.checked }
namespace Rows
def none {H : Type} : Left H := { results := [], args := [] }

/-- 'saltuslaw19.ExtentTells': WHATEVER THE INPUT: true; the input reads as it did. -/
def extentTellsSpec : ChangeSpec := { name := "extentTells", fn := fun _ => fun
  | [d1, d2, d3] => { results := [.lit (.bool true)], args := [d1, d2, d3] }
  | _ => none }
def extentTellsRow : OpenClaim := { program := "ythimnpiiehggnaa", sum := "eaf67356fd1d34652587ec8b77f55155f5c9e08995d66aa35a03fe87ed9b48c4", func := "saltus/saltuslaw19.ExtentTells", spec := "extentTells", unfollowed := true, recurses := true, apart := false }
def ExtentTellsSaid : Prop := extentTellsRow.holds Try.pinned (OpenSpec.ofChange extentTellsSpec)

/-- ITS FALSE NEIGHBOUR: 'it returns false'. Refute it at one input. -/
def extentTellsWrong : ChangeSpec := { name := "extentTells", fn := fun _ => fun
  | [d1, d2, d3] => { results := [.lit (.bool false)], args := [d1, d2, d3] }
  | _ => none }
def ExtentTellsWrongFalsely : Prop := extentTellsRow.holds Try.pinned (OpenSpec.ofChange extentTellsWrong)

/-- 'saltuslaw19.ExtentPuts': WHATEVER THE INPUT: true; the input reads as it did. -/
def extentPutsSpec : ChangeSpec := { name := "extentPuts", fn := fun _ => fun
  | [d1, d2, d3] => { results := [.lit (.bool true)], args := [d1, d2, d3] }
  | _ => none }
def extentPutsRow : OpenClaim := { program := "ythimnpiiehggnaa", sum := "eaf67356fd1d34652587ec8b77f55155f5c9e08995d66aa35a03fe87ed9b48c4", func := "saltus/saltuslaw19.ExtentPuts", spec := "extentPuts", unfollowed := true, recurses := true, apart := false }
def ExtentPutsSaid : Prop := extentPutsRow.holds Try.pinned (OpenSpec.ofChange extentPutsSpec)

/-- ITS FALSE NEIGHBOUR: 'it returns false'. Refute it at one input. -/
def extentPutsWrong : ChangeSpec := { name := "extentPuts", fn := fun _ => fun
  | [d1, d2, d3] => { results := [.lit (.bool false)], args := [d1, d2, d3] }
  | _ => none }
def ExtentPutsWrongFalsely : Prop := extentPutsRow.holds Try.pinned (OpenSpec.ofChange extentPutsWrong)

/-- 'saltuslaw19.ExtentQueries': WHATEVER THE INPUT: true; the input reads as it did. -/
def extentQueriesSpec : ChangeSpec := { name := "extentQueries", fn := fun _ => fun
  | [d1, d2] => { results := [.lit (.bool true)], args := [d1, d2] }
  | _ => none }
def extentQueriesRow : OpenClaim := { program := "ythimnpiiehggnaa", sum := "eaf67356fd1d34652587ec8b77f55155f5c9e08995d66aa35a03fe87ed9b48c4", func := "saltus/saltuslaw19.ExtentQueries", spec := "extentQueries", unfollowed := true, recurses := true, apart := false }
def ExtentQueriesSaid : Prop := extentQueriesRow.holds Try.pinned (OpenSpec.ofChange extentQueriesSpec)

/-- ITS FALSE NEIGHBOUR: 'it returns false'. Refute it at one input. -/
def extentQueriesWrong : ChangeSpec := { name := "extentQueries", fn := fun _ => fun
  | [d1, d2] => { results := [.lit (.bool false)], args := [d1, d2] }
  | _ => none }
def ExtentQueriesWrongFalsely : Prop := extentQueriesRow.holds Try.pinned (OpenSpec.ofChange extentQueriesWrong)

/-- 'saltuslaw19.ExtentStays': WHATEVER THE INPUT: true; the input reads as it did. -/
def extentStaysSpec : ChangeSpec := { name := "extentStays", fn := fun _ => fun
  | [d1, d2, d3, d4] => { results := [.lit (.bool true)], args := [d1, d2, d3, d4] }
  | _ => none }
def extentStaysRow : OpenClaim := { program := "ythimnpiiehggnaa", sum := "eaf67356fd1d34652587ec8b77f55155f5c9e08995d66aa35a03fe87ed9b48c4", func := "saltus/saltuslaw19.ExtentStays", spec := "extentStays", unfollowed := true, recurses := true, apart := false }
def ExtentStaysSaid : Prop := extentStaysRow.holds Try.pinned (OpenSpec.ofChange extentStaysSpec)

/-- ITS FALSE NEIGHBOUR: 'it returns false'. Refute it at one input. -/
def extentStaysWrong : ChangeSpec := { name := "extentStays", fn := fun _ => fun
  | [d1, d2, d3, d4] => { results := [.lit (.bool false)], args := [d1, d2, d3, d4] }
  | _ => none }
def ExtentStaysWrongFalsely : Prop := extentStaysRow.holds Try.pinned (OpenSpec.ofChange extentStaysWrong)

/- THE SECOND FORM. 'bulk': how many values and letters a reading holds, each counted each time it is reached (what is shared counts as often as it is met; a slice's spare places count too). A statement '..UptoSaid' is the law's where the arguments, and the package variables that the reading takes, are together of bulk at most 1048576: NARROWER than '..Said'. Prove '..Said' where nothing that the law and all that it calls make is longer than what came in: it says more and counts as full. Else prove '..UptoSaid'. A law counts once. -/
mutual
def uptoBulk {H : Type} : DataW H → Nat
  | .lit (.string bytes) => bytes.length + 1
  | .lit _ => 1
  | .nil => 1
  | .ptr d => uptoBulk d + 1
  | .slice elems spare => uptoBulkAll elems + uptoBulkAll spare + 1
  | .agg parts => uptoBulkAll parts + 1
  | .iface _ d => uptoBulk d + 1
  | .map entries => uptoBulkEntries entries + 1
  | .held _ => 1
def uptoBulkAll {H : Type} : List (DataW H) → Nat
  | [] => 0
  | d :: r => uptoBulk d + uptoBulkAll r
def uptoBulkEntries {H : Type} : List (Lit × DataW H) → Nat
  | [] => 0
  | x :: r => uptoBulkEntry x + uptoBulkEntries r
def uptoBulkEntry {H : Type} : Lit × DataW H → Nat
  | (.string bytes, d) => bytes.length + uptoBulk d + 1
  | (_, d) => uptoBulk d + 1
 end
def uptoSmall : (H : Type) → List (DataW H) → Bool := fun _ ds => decide (uptoBulkAll ds ≤ 1048576)
def OpenSpec.upto (s : _root_.Go.ChangeSpec) : _root_.Go.OpenSpec := { _root_.Go.OpenSpec.ofChange s with cond := some uptoSmall }

/-- 'saltuslaw19.ExtentTells', WHERE WHAT IT READS IS OF BULK AT MOST 1048576: true; the input reads as it did. -/
def extentTellsUptoRow : OpenClaim := { program := "ythimnpiiehggnaa", sum := "eaf67356fd1d34652587ec8b77f55155f5c9e08995d66aa35a03fe87ed9b48c4", func := "saltus/saltuslaw19.ExtentTells", spec := "extentTells", unfollowed := true, recurses := true, apart := false, narrowed := true }
def ExtentTellsUptoSaid : Prop := extentTellsUptoRow.holds Try.pinned (OpenSpec.upto extentTellsSpec)

/-- 'saltuslaw19.ExtentPuts', WHERE WHAT IT READS IS OF BULK AT MOST 1048576: true; the input reads as it did. -/
def extentPutsUptoRow : OpenClaim := { program := "ythimnpiiehggnaa", sum := "eaf67356fd1d34652587ec8b77f55155f5c9e08995d66aa35a03fe87ed9b48c4", func := "saltus/saltuslaw19.ExtentPuts", spec := "extentPuts", unfollowed := true, recurses := true, apart := false, narrowed := true }
def ExtentPutsUptoSaid : Prop := extentPutsUptoRow.holds Try.pinned (OpenSpec.upto extentPutsSpec)

/-- 'saltuslaw19.ExtentQueries', WHERE WHAT IT READS IS OF BULK AT MOST 1048576: true; the input reads as it did. -/
def extentQueriesUptoRow : OpenClaim := { program := "ythimnpiiehggnaa", sum := "eaf67356fd1d34652587ec8b77f55155f5c9e08995d66aa35a03fe87ed9b48c4", func := "saltus/saltuslaw19.ExtentQueries", spec := "extentQueries", unfollowed := true, recurses := true, apart := false, narrowed := true }
def ExtentQueriesUptoSaid : Prop := extentQueriesUptoRow.holds Try.pinned (OpenSpec.upto extentQueriesSpec)

/-- 'saltuslaw19.ExtentStays', WHERE WHAT IT READS IS OF BULK AT MOST 1048576: true; the input reads as it did. -/
def extentStaysUptoRow : OpenClaim := { program := "ythimnpiiehggnaa", sum := "eaf67356fd1d34652587ec8b77f55155f5c9e08995d66aa35a03fe87ed9b48c4", func := "saltus/saltuslaw19.ExtentStays", spec := "extentStays", unfollowed := true, recurses := true, apart := false, narrowed := true }
def ExtentStaysUptoSaid : Prop := extentStaysUptoRow.holds Try.pinned (OpenSpec.upto extentStaysSpec)

end Rows
end Go.Proofs.Ythimnpiiehggnaa
