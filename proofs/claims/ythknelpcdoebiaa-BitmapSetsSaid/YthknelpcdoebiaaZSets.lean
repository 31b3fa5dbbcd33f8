/- BitmapSets answers true for every map, number and bool, and leaves them as they were. -/
import Derived.Test.YthknelpcdoebiaaZSetsW
import Derived.Test.YthknelpcdoebiaaZSet
import Derived.Test.YthknelpcdoebiaaZRSet
import Derived.Test.YthknelpcdoebiaaZRRight
import Derived.Test.YthknelpcdoebiaaZFindC
import Derived.Test.YthknelpcdoebiaaZOpen
import Derived.Test.YthknelpcdoebiaaTrod
namespace Go.Proofs.Ythknelpcdoebiaa
open Go.ChangeShapes Go.WideShapes Go.ChangeAt Go.RowKit Go.Joins Go.Deep


theorem zsame_refl (N : Int) (L : List Nat) (F : Nat) : zsame N L F N L F = true := by simp [zsame]
theorem zero_same (W : World) : Calls Try.prog 12 #[.agg #[.int .i64 0, .slice none 0 0, .int .u64 0], .agg #[.int .i64 0, .slice none 0 0, .int .u64 0]] W fun e w' => e = .returned (.bool true) ∧ Below W.heap.size W w' := by
  have := zsame_any 0 0 none none 0 0 0 0 0 0 [] [] W (ZM.none W) (ZM.none W)
  rwa [zsame_refl] at this

theorem sets_any (N : Int) (A : Option Addr) (n c F : Nat) (L : List Nat) (i : Int) (b : Bool) (w : World) (h : ZIn w N A n c L F) :
    Calls Try.prog 4 #[zbv N A n c F, .int .i64 i, .bool b] w fun e w' => e = .returned (.bool true) ∧ Below w.heap.size w w' := by
  have hM := h.few
  have HFew := Lib.hid (fun W => zfew_any N A n c F W h.cap)
  have HRR := Lib.hid (fun W (hb : Below w.heap.size w W) => zrright_any N A (min n 70) c F (L.take 70) W (hM.later hb))
  have HZ := Lib.hid zero_same
  have HL := Lib.hid balive_any
  cases hr : zright N (L.take 70) F with
  | false =>
    rw [hr] at HRR
    exact sets_no N i A n (min n 70) c F b 1 false w HFew (Lib.hid fun W hb => set_bad N A _ c F _ i b W (hM.later hb) hr) (Lib.hid fun W hb => get_bad N A _ c F _ i W (hM.later hb) hr) HRR HZ HL (.inl ⟨rfl, rfl⟩)
  | true =>
    rw [hr] at HRR
    by_cases hi : 0 ≤ i ∧ i < N
    · obtain ⟨k, rfl, hR⟩ := zright_iff.1 hr
      obtain ⟨j, rfl⟩ : ∃ j : Nat, i = (j : Int) := ⟨i.toNat, by omega⟩
      have h6 := hR.len64
      have hl := hM.len
      exact sets_yes k j A n (min n 70) c F _ (zset (L.take 70) j b) b (ztk (L.take 70) j) w HFew (Lib.hid fun W hb => set_yes k A _ c F _ j b W (hM.later hb) hR (by omega)) (Lib.hid fun W hb => get_yes k A _ c F _ j W (hM.later hb) hR (by omega)) HRR
        (Lib.hid fun W hb => taken_any k A _ c F _ j W (hM.later hb) (by omega)) (Lib.hid fun W hb => rset_any k A _ c F _ j b W (hM.later hb) hR (by omega))
        (Lib.hid fun W A1 c1 A2 c2 h1 h2 => by have := zsame_any k k A1 A2 _ c1 _ _ c2 _ _ _ W h1 h2; rwa [zsame_refl] at this) HL hi.1 hi.2
    · exact sets_no N i A n (min n 70) c F b 2 true w HFew (Lib.hid fun W hb => set_range N A _ c F _ i b W (hM.later hb) hr hi) (Lib.hid fun W hb => get_range N A _ c F _ i W (hM.later hb) hr hi) HRR HZ HL (.inr (by
        by_cases h0 : i < 0
        · exact .inl ⟨rfl, rfl, h0⟩
        · exact .inr ⟨rfl, rfl, by omega, by omega⟩))

set_option maxHeartbeats 1000000 in
set_option maxRecDepth 100000 in
theorem sets_lifted (os : Os) (started : os.Started) (H : Type) (enc : TypeId × Value → H) :
    ReturnsInHanded {} Try.checked os 4 .any (Rows.bitmapSetsSpec.pre6 enc Try.prog Try.f4 Rows.bitmapSetsRow.domain false) (Rows.bitmapSetsSpec.post enc Try.prog Try.f4 false true false false) := by
  refine returnsInHanded_of_change (C := Try.checked) Try.own started (by kernel_rfl) Try.func4
    (ChangeSpec.witness6 (enc := enc) (C := Try.checked) false ⟨#[], #[.agg #[.int .i64 0, .slice none 0 0, .int .u64 0], .int .i64 0, .bool false], []⟩ 8 (by kernel_rfl) (by kernel_rfl) (by kernel_rfl) (by kernel_rfl)) ?_
  intro W base args ds gs before hval0 hW _ _
  have hval : ∀ (j : Nat) t v, Try.f4.params[j]? = some t → args[j]? = some v → Value.okWide Try.prog W .any base t v := hval0
  have hW' := hW
  obtain ⟨p, q, hA0, hV, rfl, _, _⟩ := hW
  have hA : DataW.TrodAll enc Try.prog W 0 (fun _ => true) true Try.f4.params.toList args.toList ds p := hA0
  rw [Try.params4] at hA hval
  obtain ⟨rfl, rfl⟩ := trodVars_none hV
  have hAk := hA
  obtain ⟨v0, v1, v2, d0, d1, d2, p0, p1, p2, rfl, rfl, hp, h0, h1, h2⟩ := trodAll_three hA
  have hlt : ∀ x ∈ p, x.block < W.heap.size := fun x hx => hW'.lt x (by simpa using hx)
  obtain ⟨N0, A0, u0, c0, F0, L0, rfl, hM0⟩ := open_bits (hval 0 25 v0 rfl rfl) h0
  obtain ⟨n1, rfl, rfl, _, wn1⟩ := open_int Try.underlying3 (hval 1 3 v1 rfl rfl) h1
  have hi1 := i64_bounds wn1
  obtain ⟨b2, rfl, rfl, _⟩ := open_bool Try.underlying4 (hval 2 4 v2 rfl rfl) h2
  clear hA0 hval0
  refine (sets_any N0 A0 u0 c0 F0 L0 n1 b2 W hM0).mono fun e W' ⟨he, hn⟩ => ?_
  subst he
  refine ⟨_, rfl, ?_⟩
  refine ⟨_, _, _, [], p, [], hW', ?_, trodAll_below_ Try.laidOut hn _ hAk (all_readable (by kernel_rfl)) hlt, rfl, hn.frame _, fun h => by cases h⟩
  exact trodAll_mk1 (shut_bool Try.underlying4 true)

/-- BitmapSets, for every input. -/
theorem sets_holds : Rows.BitmapSetsSaid :=
  OpenClaim.holds_of_wide 4 Try.f4 rfl rfl rfl rfl rfl rfl rfl ⟨rfl, rfl, rfl, rfl, rfl⟩ rfl rfl rfl rfl rfl (by kernel_rfl) Try.func4 (by kernel_rfl)
    (of_decide_eq_true (by kernel_rfl)) (by unfold Func.isWrapper; rw [if_neg (of_decide_eq_false (by kernel_rfl))]; exact ⟨rfl, rfl⟩)
    (fun os started H enc _ => sets_lifted os started H enc)
#print axioms sets_holds
end Go.Proofs.Ythknelpcdoebiaa
