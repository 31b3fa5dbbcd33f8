/- BitmapNew answers true for every two maps and every number, and leaves them as they were. -/
import Derived.Test.YthknelpcdoebiaaZNewsW
import Derived.Test.YthknelpcdoebiaaZNew
import Derived.Test.YthknelpcdoebiaaZRNew
import Derived.Test.YthknelpcdoebiaaZRRight
import Derived.Test.YthknelpcdoebiaaZFindC
import Derived.Test.YthknelpcdoebiaaZOpen
import Derived.Test.YthknelpcdoebiaaTrod
namespace Go.Proofs.Ythknelpcdoebiaa
open Go.ChangeShapes Go.WideShapes Go.ChangeAt Go.RowKit Go.Joins Go.Deep


theorem zsame_refl' (N : Int) (L : List Nat) (F : Nat) : zsame N L F N L F = true := by simp [zsame]
theorem zero_same' (W : World) : Calls Try.prog 12 #[.agg #[.int .i64 0, .slice none 0 0, .int .u64 0], .agg #[.int .i64 0, .slice none 0 0, .int .u64 0]] W fun e w' => e = .returned (.bool true) ∧ Below W.heap.size W w' := by
  have := zsame_any 0 0 none none 0 0 0 0 0 0 [] [] W (ZM.none W) (ZM.none W)
  rwa [zsame_refl'] at this

theorem news_any (N1 N2 : Int) (A1 A2 : Option Addr) (n1 c1 F1 n2 c2 F2 : Nat) (L1 L2 : List Nat) (k : Int) (w : World) (h1 : ZIn w N1 A1 n1 c1 L1 F1) (h2 : ZIn w N2 A2 n2 c2 L2 F2) :
    Calls Try.prog 3 #[zbv N1 A1 n1 c1 F1, zbv N2 A2 n2 c2 F2, .int .i64 k] w fun e w' => e = .returned (.bool true) ∧ Below w.heap.size w w' := by
  have m1 := h1.few
  have m2 := h2.few
  have HF1 := Lib.hid (fun W => zfew_any N1 A1 n1 c1 F1 W h1.cap)
  have HF2 := Lib.hid (fun W => zfew_any N2 A2 n2 c2 F2 W h2.cap)
  have HRA := Lib.hid (fun W (hb : Below w.heap.size w W) => zright_any N1 A1 _ c1 F1 _ W (m1.later hb))
  have HRB := Lib.hid (fun W (hb : Below w.heap.size w W) => zrright_any N1 A1 _ c1 F1 _ W (m1.later hb))
  have HLI := Lib.hid (fun W (hb : Below w.heap.size w W) => zlike_any N1 N2 A1 A2 _ c1 F1 _ c2 F2 _ _ W (m1.later hb) (m2.later hb))
  have HSA := Lib.hid (fun W (hb : Below w.heap.size w W) => zsame_any N1 N2 A1 A2 _ c1 F1 _ c2 F2 _ _ W (m1.later hb) (m2.later hb))
  have HLA := Lib.hid (fun W (hb : Below w.heap.size w W) => zlike_any N1 N1 A1 A1 _ c1 F1 _ c1 F1 _ _ W (m1.later hb) (m1.later hb))
  rw [zsame_refl'] at HLA
  have HL := Lib.hid balive_any
  by_cases hk : 1 ≤ k ∧ k ≤ 4096
  · obtain ⟨q, rfl⟩ : ∃ q : Nat, k = (q : Int) := ⟨k.toNat, by omega⟩
    have hR := znew_right (n := q) (by omega) (by omega)
    exact bnews_yes N1 N2 A1 A2 _ _ c1 F1 _ _ c2 F2 q (zW q) (znew q) _ _ w HF1 HF2 HRA HRB HLI HSA HLA HL (Lib.hid fun W => bnew_yes q W (by omega) (by omega)) (Lib.hid fun W => rnew_any q W (by omega))
      (Lib.hid fun W B1 d1 B2 d2 h3 h4 => by have := zsame_any q q B1 B2 _ d1 _ _ d2 _ _ _ W h3 h4; rwa [zsame_refl'] at this)
      (Lib.hid fun W B h3 => by have := zright_any q B _ _ _ _ W h3; rwa [zright_mk hR] at this) (by omega) (by omega)
  · exact bnews_no N1 N2 A1 A2 _ _ c1 F1 _ _ c2 F2 k _ _ w HF1 HF2 HRA HRB HLI HSA HLA HL (Lib.hid fun W _ => bnew_no k W hk) (Lib.hid zero_same') (by omega)

set_option maxHeartbeats 1000000 in
set_option maxRecDepth 100000 in
theorem news_lifted (os : Os) (started : os.Started) (H : Type) (enc : TypeId × Value → H) :
    ReturnsInHanded {} Try.checked os 3 .any (Rows.bitmapNewSpec.pre6 enc Try.prog Try.f3 Rows.bitmapNewRow.domain false) (Rows.bitmapNewSpec.post enc Try.prog Try.f3 false true false false) := by
  refine returnsInHanded_of_change (C := Try.checked) Try.own started (by kernel_rfl) Try.func3
    (ChangeSpec.witness6 (enc := enc) (C := Try.checked) false ⟨#[], #[.agg #[.int .i64 0, .slice none 0 0, .int .u64 0], .agg #[.int .i64 0, .slice none 0 0, .int .u64 0], .int .i64 0], []⟩ 8 (by kernel_rfl) (by kernel_rfl) (by kernel_rfl) (by kernel_rfl)) ?_
  intro W base args ds gs before hval0 hW _ _
  have hval : ∀ (j : Nat) t v, Try.f3.params[j]? = some t → args[j]? = some v → Value.okWide Try.prog W .any base t v := hval0
  have hW' := hW
  obtain ⟨p, q, hA0, hV, rfl, _, _⟩ := hW
  have hA : DataW.TrodAll enc Try.prog W 0 (fun _ => true) true Try.f3.params.toList args.toList ds p := hA0
  rw [Try.params3] at hA hval
  obtain ⟨rfl, rfl⟩ := trodVars_none hV
  have hAk := hA
  obtain ⟨v0, v1, v2, d0, d1, d2, p0, p1, p2, rfl, rfl, hp, h0, h1, h2⟩ := trodAll_three hA
  have hlt : ∀ x ∈ p, x.block < W.heap.size := fun x hx => hW'.lt x (by simpa using hx)
  obtain ⟨N0, A0, u0, c0, F0, L0, rfl, hM0⟩ := open_bits (hval 0 25 v0 rfl rfl) h0
  obtain ⟨N1, A1, u1, c1, F1, L1, rfl, hM1⟩ := open_bits (hval 1 25 v1 rfl rfl) h1
  obtain ⟨n2, rfl, rfl, _, wn2⟩ := open_int Try.underlying3 (hval 2 3 v2 rfl rfl) h2
  have hi2 := i64_bounds wn2
  clear hA0 hval0
  refine (news_any N0 N1 A0 A1 u0 c0 F0 u1 c1 F1 L0 L1 n2 W hM0 hM1).mono fun e W' ⟨he, hn⟩ => ?_
  subst he
  refine ⟨_, rfl, ?_⟩
  refine ⟨_, _, _, [], p, [], hW', ?_, trodAll_below_ Try.laidOut hn _ hAk (all_readable (by kernel_rfl)) hlt, rfl, hn.frame _, fun h => by cases h⟩
  exact trodAll_mk1 (shut_bool Try.underlying4 true)

/-- BitmapNew, for every input. -/
theorem news_holds : Rows.BitmapNewSaid :=
  OpenClaim.holds_of_wide 3 Try.f3 rfl rfl rfl rfl rfl rfl rfl ⟨rfl, rfl, rfl, rfl, rfl⟩ rfl rfl rfl rfl rfl (by kernel_rfl) Try.func3 (by kernel_rfl)
    (of_decide_eq_true (by kernel_rfl)) (by unfold Func.isWrapper; rw [if_neg (of_decide_eq_false (by kernel_rfl))]; exact ⟨rfl, rfl⟩)
    (fun os started H enc _ => news_lifted os started H enc)
#print axioms news_holds
end Go.Proofs.Ythknelpcdoebiaa
