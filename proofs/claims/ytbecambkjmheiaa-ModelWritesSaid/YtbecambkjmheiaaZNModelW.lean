/- ModelWrites is true of every row of cells, quota, place, data and span, and leaves them as they were. -/
import Derived.Test.YtbecambkjmheiaaQ01
import Derived.Test.YtbecambkjmheiaaQ02
import Derived.Test.YtbecambkjmheiaaQ03
import Derived.Test.YtbecambkjmheiaaQ04
import Derived.Test.YtbecambkjmheiaaQ05
import Derived.Test.YtbecambkjmheiaaQ06
import Derived.Test.YtbecambkjmheiaaQ07
import Derived.Test.YtbecambkjmheiaaQ08
import Derived.Test.YtbecambkjmheiaaQ09
import Derived.Test.YtbecambkjmheiaaQ10
import Derived.Test.YtbecambkjmheiaaQ11
import Derived.Test.YtbecambkjmheiaaQ12
import Derived.Test.YtbecambkjmheiaaQ13
import Derived.Test.YtbecambkjmheiaaQ14
import Derived.Test.YtbecambkjmheiaaQ15
import Derived.Test.YtbecambkjmheiaaQ16
import Derived.Test.YtbecambkjmheiaaQ17
import Derived.Test.YtbecambkjmheiaaQ18
import Derived.Test.YtbecambkjmheiaaQ19
import Derived.Test.YtbecambkjmheiaaQ20
import Derived.Test.YtbecambkjmheiaaQ21
import Derived.Test.YtbecambkjmheiaaQ22
import Derived.Test.YtbecambkjmheiaaQ23
import Derived.Test.YtbecambkjmheiaaQ24
import Derived.Test.YtbecambkjmheiaaV01
namespace Go.Proofs.Ytbecambkjmheiaa
open Go.ChangeShapes Go.WideShapes Go.ChangeAt Go.RowKit Go.Joins Go.Deep


set_option maxHeartbeats 1000000 in
set_option maxRecDepth 100000 in
theorem nwrites20_lifted (os : Os) (started : os.Started) (H : Type) (enc : TypeId × Value → H) :
    ReturnsInHanded {} Try.checked os 3 .any (Rows.modelWritesSpec.pre6 enc Try.prog Try.f3 Rows.modelWritesRow.domain false) (Rows.modelWritesSpec.post enc Try.prog Try.f3 false true false false) := by
  refine returnsInHanded_of_change (C := Try.checked) Try.own started (by kernel_rfl) Try.func3
    (ChangeSpec.witness6 (enc := enc) (C := Try.checked) false ⟨#[], #[.slice none 0 0, .int .i64 0, .int .u64 0, .string ⟨#[]⟩, .agg #[.int .u64 0, .int .u64 0]], []⟩ 8 (by kernel_rfl) (by kernel_rfl) (by kernel_rfl) (by kernel_rfl)) ?_
  intro W base args ds gs before hval0 hW _ _
  have hval : ∀ (j : Nat) t v, Try.f3.params[j]? = some t → args[j]? = some v → Value.okWide Try.prog W .any base t v := hval0
  have hW' := hW
  obtain ⟨p, q, hA0, hV, rfl, _, _⟩ := hW
  have hA : DataW.TrodAll enc Try.prog W 0 (fun _ => true) true Try.f3.params.toList args.toList ds p := hA0
  rw [Try.params3] at hA hval
  obtain ⟨rfl, rfl⟩ := trodVars_none hV
  have hAk := hA
  obtain ⟨v0, v1, v2, v3, v4, d0, d1, d2, d3, d4, p0, p1, p2, p3, p4, rfl, rfl, hp, h0, h1, h2, h3, h4⟩ := trodAll_five hA
  have hlt : ∀ x ∈ p, x.block < W.heap.size := fun x hx => hW'.lt x (by simpa using hx)
  obtain ⟨A0, cap0, l0, rfl, hc0, hR0⟩ := open_cells (hval 0 22 v0 rfl rfl) h0
  obtain ⟨n1, rfl, rfl, _, wn1⟩ := open_int Try.underlying3 (hval 1 3 v1 rfl rfl) h1
  have hi1 := i64_bounds wn1
  obtain ⟨n2, rfl, rfl, _, wn2⟩ := open_int Try.underlying23 (hval 2 23 v2 rfl rfl) h2
  obtain ⟨m2, rfl, hm2⟩ := u64_nat wn2
  obtain ⟨s3, rfl, rfl, _, ws3⟩ := ChangeMaps.open_string Try.underlying9 (hval 3 9 v3 rfl rfl) h3
  unfold maxLen at ws3
  obtain ⟨l3, rfl, hz3⟩ := str_list s3
  have hl3 : (l3.length : Int) ≤ 9223372036854775807 := by omega
  obtain ⟨f4, n4, rfl, hf4, hn4⟩ := open_nspan (hval 4 25 v4 rfl rfl) h4
  clear hA0 hval0
  refine (nwrites_holds A0 l0.length cap0 m2 f4 n4 _ l0 l3 W hR0 rfl hc0 hm2 hf4 hn4).mono fun e W' ⟨he, hn⟩ => ?_
  subst he
  refine ⟨_, rfl, ?_⟩
  refine ⟨_, _, _, [], p, [], hW', ?_, trodAll_below_ Try.laidOut hn _ hAk (all_readable (by kernel_rfl)) hlt, rfl, hn.frame _, fun h => by cases h⟩
  exact trodAll_mk1 (shut_bool Try.underlying4 true)

/-- ModelWrites, for every input. -/
theorem nwrites20_holds : Rows.ModelWritesSaid :=
  OpenClaim.holds_of_wide 3 Try.f3 rfl rfl rfl rfl rfl rfl rfl ⟨rfl, rfl, rfl, rfl, rfl⟩ rfl rfl rfl rfl rfl (by kernel_rfl) Try.func3 (by kernel_rfl)
    (of_decide_eq_true (by kernel_rfl)) (by unfold Func.isWrapper; rw [if_neg (of_decide_eq_false (by kernel_rfl))]; exact ⟨rfl, rfl⟩)
    (fun os started H enc _ => nwrites20_lifted os started H enc)
#print axioms nwrites20_holds
end Go.Proofs.Ytbecambkjmheiaa
