/- BitmapFinds answers true for every map and number, and leaves them as they were. -/
import Derived.Test.YthknelpcdoebiaaZFindsW
import Derived.Test.YthknelpcdoebiaaZCount
import Derived.Test.YthknelpcdoebiaaZRCount
import Derived.Test.YthknelpcdoebiaaZRRight
import Derived.Test.YthknelpcdoebiaaZFindC
import Derived.Test.YthknelpcdoebiaaZOpen
import Derived.Test.YthknelpcdoebiaaTrod
namespace Go.Proofs.Ythknelpcdoebiaa
open Go.ChangeShapes Go.WideShapes Go.ChangeAt Go.RowKit Go.Joins Go.Deep


theorem finds_any (N : Int) (A : Option Addr) (n c F : Nat) (L : List Nat) (many : Int) (w : World) (h : ZIn w N A n c L F) (hm : many ≤ 9223372036854775807) :
    Calls Try.prog 5 #[zbv N A n c F, .int .i64 many] w fun e w' => e = .returned (.bool true) ∧ Below w.heap.size w w' := by
  have hM := h.few
  have HFew := Lib.hid (fun W => zfew_any N A n c F W h.cap)
  have HRR := Lib.hid (fun W (hb : Below w.heap.size w W) => zrright_any N A (min n 70) c F (L.take 70) W (hM.later hb))
  have HL := Lib.hid balive_any
  cases hr : zright N (L.take 70) F with
  | false =>
    rw [hr] at HRR
    exact finds_no N A n (min n 70) c F many w HFew (Lib.hid fun W hb => count_bad N A _ c F _ W (hM.later hb) hr) (Lib.hid fun W hb => find_bad N A _ c F _ many W (hM.later hb) hr) HRR HL
  | true =>
    rw [hr] at HRR
    obtain ⟨k, rfl, hR⟩ := zright_iff.1 hr
    have HC := Lib.hid (fun W (hb : Below w.heap.size w W) => count_yes k A _ c F _ W (hM.later hb) hR)
    have HRC := Lib.hid (fun W (hb : Below w.heap.size w W) => rcount_any k A _ c F _ W (hM.later hb) hR)
    by_cases hm1 : many < 1
    · exact finds_yes k A n (min n 70) c F many _ 0 4 0 w HFew HC (Lib.hid fun W hb => find_size k A _ c F _ many W (hM.later hb) hr hm1) HRR HRC (Lib.hid fun W h1 => by omega) HL (.inl ⟨hm1, rfl, rfl⟩)
    · obtain ⟨m, rfl⟩ : ∃ m : Nat, many = (m : Int) := ⟨many.toNat, by omega⟩
      have HF := Lib.hid (fun W (hb : Below w.heap.size w W) => find_yes k A _ c F m _ W (hM.later hb) hR (by omega) hm)
      have HRF := Lib.hid (fun W (_ : 1 ≤ (m : Int)) (hb : Below w.heap.size w W) => rfind_any k A _ c F m _ W (hM.later hb) hR (by omega) hm)
      cases hf : zfind k (ztk (L.take 70)) m with
      | none =>
        rw [hf] at HF HRF
        exact finds_yes k A n (min n 70) c F m _ 0 6 (-1) w HFew HC HF HRR HRC HRF HL (.inr (.inl ⟨by omega, rfl, rfl, rfl⟩))
      | some s =>
        rw [hf] at HF HRF
        exact finds_yes k A n (min n 70) c F m _ (s : Int) 0 (s : Int) w HFew HC HF HRR HRC HRF HL (.inr (.inr ⟨by omega, by omega, rfl, rfl⟩))

set_option maxHeartbeats 1000000 in
set_option maxRecDepth 100000 in
theorem finds_lifted (os : Os) (started : os.Started) (H : Type) (enc : TypeId × Value → H) :
    ReturnsInHanded {} Try.checked os 5 .any (Rows.bitmapFindsSpec.pre6 enc Try.prog Try.f5 Rows.bitmapFindsRow.domain false) (Rows.bitmapFindsSpec.post enc Try.prog Try.f5 false true false false) := by
  refine returnsInHanded_of_change (C := Try.checked) Try.own started (by kernel_rfl) Try.func5
    (ChangeSpec.witness6 (enc := enc) (C := Try.checked) false ⟨#[], #[.agg #[.int .i64 0, .slice none 0 0, .int .u64 0], .int .i64 0], []⟩ 8 (by kernel_rfl) (by kernel_rfl) (by kernel_rfl) (by kernel_rfl)) ?_
  intro W base args ds gs before hval0 hW _ _
  have hval : ∀ (j : Nat) t v, Try.f5.params[j]? = some t → args[j]? = some v → Value.okWide Try.prog W .any base t v := hval0
  have hW' := hW
  obtain ⟨p, q, hA0, hV, rfl, _, _⟩ := hW
  have hA : DataW.TrodAll enc Try.prog W 0 (fun _ => true) true Try.f5.params.toList args.toList ds p := hA0
  rw [Try.params5] at hA hval
  obtain ⟨rfl, rfl⟩ := trodVars_none hV
  have hAk := hA
  obtain ⟨v0, v1, d0, d1, p0, p1, rfl, rfl, hp, h0, h1⟩ := trodAll_two hA
  have hlt : ∀ x ∈ p, x.block < W.heap.size := fun x hx => hW'.lt x (by simpa using hx)
  obtain ⟨N0, A0, u0, c0, F0, L0, rfl, hM0⟩ := open_bits (hval 0 25 v0 rfl rfl) h0
  obtain ⟨n1, rfl, rfl, _, wn1⟩ := open_int Try.underlying3 (hval 1 3 v1 rfl rfl) h1
  have hi1 := i64_bounds wn1
  clear hA0 hval0
  refine (finds_any N0 A0 u0 c0 F0 L0 n1 W hM0 hi1.2).mono fun e W' ⟨he, hn⟩ => ?_
  subst he
  refine ⟨_, rfl, ?_⟩
  refine ⟨_, _, _, [], p, [], hW', ?_, trodAll_below_ Try.laidOut hn _ hAk (all_readable (by kernel_rfl)) hlt, rfl, hn.frame _, fun h => by cases h⟩
  exact trodAll_mk1 (shut_bool Try.underlying4 true)

/-- BitmapFinds, for every input. -/
theorem finds_holds : Rows.BitmapFindsSaid :=
  OpenClaim.holds_of_wide 5 Try.f5 rfl rfl rfl rfl rfl rfl rfl ⟨rfl, rfl, rfl, rfl, rfl⟩ rfl rfl rfl rfl rfl (by kernel_rfl) Try.func5 (by kernel_rfl)
    (of_decide_eq_true (by kernel_rfl)) (by unfold Func.isWrapper; rw [if_neg (of_decide_eq_false (by kernel_rfl))]; exact ⟨rfl, rfl⟩)
    (fun os started H enc _ => finds_lifted os started H enc)
#print axioms finds_holds
end Go.Proofs.Ythknelpcdoebiaa
