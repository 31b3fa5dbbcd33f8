/-
  No cell of these rows narrows 'for every input' (looked for: loops, veiled, ifaces, maps, wideKeys, modest, calm, conditions, laid).
  DERIVED. THE GIVEN ROWS OF THIS SEAT. 4 by the template 'for every input the law returns true; each argument reads behind the call as it read before'; 0 by the template 'total and deterministic' (their statements: YtlfghagidajpeaaTotals.lean).
  GIVEN WITH THE SEED: the statements are not yours to turn. If you find one false, say at which input.
  Laid BY PROGRAM, IN A SANDBOX (cutbox-rows.mjs): the forced cells as the released guide's own fill.sh prints them over the translation a65cac9607cfdd53… (all of the seat's roots in one cut). By AI agents, Wed Nov 11 2026. No macro, syntax, notation, axiom, sorry.
-/
import Derived.Test.YtlfghagidajpeaaChecked
import GoSem.Claim
import GoSem.ClaimJoined
import GoSem.ClaimMapViews
import Derived.JoinedTies
import Derived.KernelRfl
namespace Go.Proofs.Ytlfghagidajpeaa
/- THE CELL 'sum', in the pinned program and in every row, IS THE sha256 OF THE DUMP (.gsa) THAT YtlfghagidajpeaaProg.lean LOADS. Nothing in Lean hashes anything: it is a label: what it is worth is what the hold of that sum in a sandbox is worth. -/
noncomputable def Try.pinned : Pinned := { name := "ytlfghagidajpeaa", sum := "a65cac9607cfdd53e4c92a87b9fdd2c3bab386c0d31ca302619e5c38bedcf729", checked := Try.checked }
namespace Rows
def none {H : Type} : Left H := { results := [], args := [] }

/-- 'saltuslaw07.GhashMuls': WHATEVER THE INPUT: true; the input reads as it did. -/
def ghashMulsSpec : ChangeSpec := { name := "ghashMuls", fn := fun _ => fun
  | [d1, d2] => { results := [.lit (.bool true)], args := [d1, d2] }
  | _ => none }
def ghashMulsRow : OpenClaim := { program := "ytlfghagidajpeaa", sum := "a65cac9607cfdd53e4c92a87b9fdd2c3bab386c0d31ca302619e5c38bedcf729", func := "saltus/saltuslaw07.GhashMuls", spec := "ghashMuls", apart := false }
def GhashMulsSaid : Prop := ghashMulsRow.holds Try.pinned (OpenSpec.ofChange ghashMulsSpec)

/-- ITS FALSE NEIGHBOUR: 'it returns false'. Refute it at one input. -/
def ghashMulsWrong : ChangeSpec := { name := "ghashMuls", fn := fun _ => fun
  | [d1, d2] => { results := [.lit (.bool false)], args := [d1, d2] }
  | _ => none }
def GhashMulsWrongFalsely : Prop := ghashMulsRow.holds Try.pinned (OpenSpec.ofChange ghashMulsWrong)

/-- 'saltuslaw07.GhashSums': WHATEVER THE INPUT: true; the input reads as it did. -/
def ghashSumsSpec : ChangeSpec := { name := "ghashSums", fn := fun _ => fun
  | [d1, d2, d3] => { results := [.lit (.bool true)], args := [d1, d2, d3] }
  | _ => none }
def ghashSumsRow : OpenClaim := { program := "ytlfghagidajpeaa", sum := "a65cac9607cfdd53e4c92a87b9fdd2c3bab386c0d31ca302619e5c38bedcf729", func := "saltus/saltuslaw07.GhashSums", spec := "ghashSums", unfollowed := true, recurses := true, apart := false }
def GhashSumsSaid : Prop := ghashSumsRow.holds Try.pinned (OpenSpec.ofChange ghashSumsSpec)

/-- ITS FALSE NEIGHBOUR: 'it returns false'. Refute it at one input. -/
def ghashSumsWrong : ChangeSpec := { name := "ghashSums", fn := fun _ => fun
  | [d1, d2, d3] => { results := [.lit (.bool false)], args := [d1, d2, d3] }
  | _ => none }
def GhashSumsWrongFalsely : Prop := ghashSumsRow.holds Try.pinned (OpenSpec.ofChange ghashSumsWrong)

/-- 'saltuslaw07.GhashField': WHATEVER THE INPUT: true; the input reads as it did. -/
def ghashFieldSpec : ChangeSpec := { name := "ghashField", fn := fun _ => fun
  | [d1, d2, d3] => { results := [.lit (.bool true)], args := [d1, d2, d3] }
  | _ => none }
def ghashFieldRow : OpenClaim := { program := "ytlfghagidajpeaa", sum := "a65cac9607cfdd53e4c92a87b9fdd2c3bab386c0d31ca302619e5c38bedcf729", func := "saltus/saltuslaw07.GhashField", spec := "ghashField", apart := false }
def GhashFieldSaid : Prop := ghashFieldRow.holds Try.pinned (OpenSpec.ofChange ghashFieldSpec)

/-- ITS FALSE NEIGHBOUR: 'it returns false'. Refute it at one input. -/
def ghashFieldWrong : ChangeSpec := { name := "ghashField", fn := fun _ => fun
  | [d1, d2, d3] => { results := [.lit (.bool false)], args := [d1, d2, d3] }
  | _ => none }
def GhashFieldWrongFalsely : Prop := ghashFieldRow.holds Try.pinned (OpenSpec.ofChange ghashFieldWrong)

/-- 'saltuslaw07.GhashApart': WHATEVER THE INPUT: true; the input reads as it did. -/
def ghashApartSpec : ChangeSpec := { name := "ghashApart", fn := fun _ => fun
  | [d1, d2, d3, d4] => { results := [.lit (.bool true)], args := [d1, d2, d3, d4] }
  | _ => none }
def ghashApartRow : OpenClaim := { program := "ytlfghagidajpeaa", sum := "a65cac9607cfdd53e4c92a87b9fdd2c3bab386c0d31ca302619e5c38bedcf729", func := "saltus/saltuslaw07.GhashApart", spec := "ghashApart", unfollowed := true, recurses := true, apart := false }
def GhashApartSaid : Prop := ghashApartRow.holds Try.pinned (OpenSpec.ofChange ghashApartSpec)

/-- ITS FALSE NEIGHBOUR: 'it returns false'. Refute it at one input. -/
def ghashApartWrong : ChangeSpec := { name := "ghashApart", fn := fun _ => fun
  | [d1, d2, d3, d4] => { results := [.lit (.bool false)], args := [d1, d2, d3, d4] }
  | _ => none }
def GhashApartWrongFalsely : Prop := ghashApartRow.holds Try.pinned (OpenSpec.ofChange ghashApartWrong)

/- THE SECOND FORM. 'bulk': how many values and letters a reading holds, each counted each time it is reached (what is shared counts as often as it is met; a slice's spare places count too). A statement '..UptoSaid' is the law's where the arguments, and the package variables that the reading takes, are together of bulk at most 1048576: NARROWER than '..Said'. Prove '..Said' where nothing that the law and all that it calls make is longer than what came in: it says more and counts as full. Else prove '..UptoSaid'. A law counts once. -/
mutual
def uptoBulk {H : Type} : DataW H → Nat
  | .lit (.string bytes) => bytes.length + 1
  | .lit _ => 1
  | .nil => 1
  | .ptr d => uptoBulk d + 1
  | .slice elems spare => uptoBulkAll elems + uptoBulkAll spare + 1
  | .agg parts => uptoBulkAll parts + 1
  | .iface _ d => uptoBulk d + 1
  | .map entries => uptoBulkEntries entries + 1
  | .held _ => 1
def uptoBulkAll {H : Type} : List (DataW H) → Nat
  | [] => 0
  | d :: r => uptoBulk d + uptoBulkAll r
def uptoBulkEntries {H : Type} : List (Lit × DataW H) → Nat
  | [] => 0
  | x :: r => uptoBulkEntry x + uptoBulkEntries r
def uptoBulkEntry {H : Type} : Lit × DataW H → Nat
  | (.string bytes, d) => bytes.length + uptoBulk d + 1
  | (_, d) => uptoBulk d + 1
 end
def uptoSmall : (H : Type) → List (DataW H) → Bool := fun _ ds => decide (uptoBulkAll ds ≤ 1048576)
def OpenSpec.upto (s : _root_.Go.ChangeSpec) : _root_.Go.OpenSpec := { _root_.Go.OpenSpec.ofChange s with cond := some uptoSmall }

/-- 'saltuslaw07.GhashMuls', WHERE WHAT IT READS IS OF BULK AT MOST 1048576: true; the input reads as it did. -/
def ghashMulsUptoRow : OpenClaim := { program := "ytlfghagidajpeaa", sum := "a65cac9607cfdd53e4c92a87b9fdd2c3bab386c0d31ca302619e5c38bedcf729", func := "saltus/saltuslaw07.GhashMuls", spec := "ghashMuls", apart := false, narrowed := true }
def GhashMulsUptoSaid : Prop := ghashMulsUptoRow.holds Try.pinned (OpenSpec.upto ghashMulsSpec)

/-- 'saltuslaw07.GhashSums', WHERE WHAT IT READS IS OF BULK AT MOST 1048576: true; the input reads as it did. -/
def ghashSumsUptoRow : OpenClaim := { program := "ytlfghagidajpeaa", sum := "a65cac9607cfdd53e4c92a87b9fdd2c3bab386c0d31ca302619e5c38bedcf729", func := "saltus/saltuslaw07.GhashSums", spec := "ghashSums", unfollowed := true, recurses := true, apart := false, narrowed := true }
def GhashSumsUptoSaid : Prop := ghashSumsUptoRow.holds Try.pinned (OpenSpec.upto ghashSumsSpec)

/-- 'saltuslaw07.GhashField', WHERE WHAT IT READS IS OF BULK AT MOST 1048576: true; the input reads as it did. -/
def ghashFieldUptoRow : OpenClaim := { program := "ytlfghagidajpeaa", sum := "a65cac9607cfdd53e4c92a87b9fdd2c3bab386c0d31ca302619e5c38bedcf729", func := "saltus/saltuslaw07.GhashField", spec := "ghashField", apart := false, narrowed := true }
def GhashFieldUptoSaid : Prop := ghashFieldUptoRow.holds Try.pinned (OpenSpec.upto ghashFieldSpec)

/-- 'saltuslaw07.GhashApart', WHERE WHAT IT READS IS OF BULK AT MOST 1048576: true; the input reads as it did. -/
def ghashApartUptoRow : OpenClaim := { program := "ytlfghagidajpeaa", sum := "a65cac9607cfdd53e4c92a87b9fdd2c3bab386c0d31ca302619e5c38bedcf729", func := "saltus/saltuslaw07.GhashApart", spec := "ghashApart", unfollowed := true, recurses := true, apart := false, narrowed := true }
def GhashApartUptoSaid : Prop := ghashApartUptoRow.holds Try.pinned (OpenSpec.upto ghashApartSpec)

end Rows
end Go.Proofs.Ytlfghagidajpeaa
