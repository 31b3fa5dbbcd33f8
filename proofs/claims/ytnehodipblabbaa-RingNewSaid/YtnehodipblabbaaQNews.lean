/- RingNew answers true for every two rings and every number, and leaves them as they were. -/
import Derived.Test.YtnehodipblabbaaQNewsW
import Derived.Test.YtnehodipblabbaaQRight
import Derived.Test.YtnehodipblabbaaQRRight
import Derived.Test.YtnehodipblabbaaQLike
import Derived.Test.YtnehodipblabbaaQAlive
import Derived.Test.YtnehodipblabbaaQOpen
import Derived.Test.YtnehodipblabbaaTrod
namespace Go.Proofs.Ytnehodipblabbaa
open Go.ChangeShapes Go.WideShapes Go.ChangeAt Go.RowKit Go.Joins Go.Deep

theorem qnews_any (f1 m1 f2 m2 : Int) (A1 A2 : Option Addr) (n1 c1 n2 c2 : Nat) (L1 L2 : List (List UInt8)) (k : Int) (w : World) (h1 : QIn w A1 n1 c1 f1 m1 L1) (h2 : QIn w A2 n2 c2 f2 m2 L2) :
    Calls Try.prog 3 #[qv A1 n1 c1 f1 m1, qv A2 n2 c2 f2 m2, .int .i64 k] w fun e w' => e = .returned (.bool true) ∧ Below w.heap.size w w' := by
  have q1 := h1.few
  have q2 := h2.few
  have HF1 := Lib.hid (fun W => qfew_any A1 n1 c1 f1 m1 W h1.cap)
  have HF2 := Lib.hid (fun W => qfew_any A2 n2 c2 f2 m2 W h2.cap)
  have HRA := Lib.hid (fun W (hb : Below w.heap.size w W) => qright_any A1 _ c1 f1 m1 _ W (q1.later hb))
  have HRB := Lib.hid (fun W (hb : Below w.heap.size w W) => qrright_any A1 _ c1 f1 m1 _ W (q1.later hb))
  have HLI := Lib.hid (fun W (hb : Below w.heap.size w W) => qlike_any A1 A2 _ c1 _ c2 f1 m1 f2 m2 _ _ W (q1.later hb) (q2.later hb))
  have HSA := Lib.hid (fun W (hb : Below w.heap.size w W) => qsame_any A1 A2 _ c1 _ c2 f1 m1 f2 m2 _ _ W (q1.later hb) (q2.later hb))
  have HLA := Lib.hid (fun W (hb : Below w.heap.size w W) => qlike_any A1 A1 _ c1 _ c1 f1 m1 f1 m1 _ _ W (q1.later hb) (q1.later hb))
  rw [qsame_refl] at HLA
  have HL := Lib.hid qalive_any
  by_cases hk : 1 ≤ k ∧ k ≤ 64
  · obtain ⟨q, rfl⟩ : ∃ q : Nat, k = (q : Int) := ⟨k.toNat, by omega⟩
    exact qnews_yes f1 m1 f2 m2 A1 A2 _ _ c1 _ _ c2 q _ _ w HF1 HF2 HRA HRB HLI HSA HLA HL (Lib.hid fun W => qnew_yes q W (by omega) (by omega))
      (Lib.hid fun W B1 d1 B2 d2 h3 h4 => by have := qsame_any B1 B2 _ d1 _ d2 0 0 0 0 _ _ W h3 h4; rwa [qsame_refl] at this) (by omega) (by omega)
  · exact qnews_no f1 m1 f2 m2 A1 A2 _ _ c1 _ _ c2 k _ _ w HF1 HF2 HRA HRB HLI HSA HLA HL (Lib.hid fun W _ => qnew_no k W hk) (Lib.hid qsame_none) (by omega)

set_option maxHeartbeats 1000000 in
set_option maxRecDepth 100000 in
theorem qnews_lifted (os : Os) (started : os.Started) (H : Type) (enc : TypeId × Value → H) :
    ReturnsInHanded {} Try.checked os 3 .any (Rows.ringNewSpec.pre6 enc Try.prog Try.f3 Rows.ringNewRow.domain false) (Rows.ringNewSpec.post enc Try.prog Try.f3 false true false false) := by
  refine returnsInHanded_of_change (C := Try.checked) Try.own started (by kernel_rfl) Try.func3
    (ChangeSpec.witness6 (enc := enc) (C := Try.checked) false ⟨#[], #[.agg #[.slice none 0 0, .int .i64 0, .int .i64 0], .agg #[.slice none 0 0, .int .i64 0, .int .i64 0], .int .i64 0], []⟩ 8 (by kernel_rfl) (by kernel_rfl) (by kernel_rfl) (by kernel_rfl)) ?_
  intro W base args ds gs before hval0 hW _ _
  have hval : ∀ (j : Nat) t v, Try.f3.params[j]? = some t → args[j]? = some v → Value.okWide Try.prog W .any base t v := hval0
  have hW' := hW
  obtain ⟨p, q, hA0, hV, rfl, _, _⟩ := hW
  have hA : DataW.TrodAll enc Try.prog W 0 (fun _ => true) true Try.f3.params.toList args.toList ds p := hA0
  rw [Try.params3] at hA hval
  obtain ⟨rfl, rfl⟩ := trodVars_none hV
  have hAk := hA
  obtain ⟨v0, v1, v2, d0, d1, d2, p0, p1, p2, rfl, rfl, hp, h0, h1, h2⟩ := trodAll_three hA
  have hlt : ∀ x ∈ p, x.block < W.heap.size := fun x hx => hW'.lt x (by simpa using hx)
  obtain ⟨A0, u0, c0, f0, m0, L0, rfl, hM0⟩ := open_ring (hval 0 24 v0 rfl rfl) h0
  obtain ⟨A1, u1, c1, f1, m1, L1, rfl, hM1⟩ := open_ring (hval 1 24 v1 rfl rfl) h1
  obtain ⟨n2, rfl, rfl, _, wn2⟩ := open_int Try.underlying3 (hval 2 3 v2 rfl rfl) h2
  have hi2 := i64_bounds wn2
  clear hA0 hval0
  refine (qnews_any f0 m0 f1 m1 A0 A1 u0 c0 u1 c1 L0 L1 n2 W hM0 hM1).mono fun e W' ⟨he, hn⟩ => ?_
  subst he
  refine ⟨_, rfl, ?_⟩
  refine ⟨_, _, _, [], p, [], hW', ?_, trodAll_below_ Try.laidOut hn _ hAk (all_readable (by kernel_rfl)) hlt, rfl, hn.frame _, fun h => by cases h⟩
  exact trodAll_mk1 (shut_bool Try.underlying4 true)

/-- RingNew, for every input. -/
theorem qnews_holds : Rows.RingNewSaid :=
  OpenClaim.holds_of_wide 3 Try.f3 rfl rfl rfl rfl rfl rfl rfl ⟨rfl, rfl, rfl, rfl, rfl⟩ rfl rfl rfl rfl rfl (by kernel_rfl) Try.func3 (by kernel_rfl)
    (of_decide_eq_true (by kernel_rfl)) (by unfold Func.isWrapper; rw [if_neg (of_decide_eq_false (by kernel_rfl))]; exact ⟨rfl, rfl⟩)
    (fun os started H enc _ => qnews_lifted os started H enc)
#print axioms qnews_holds
end Go.Proofs.Ytnehodipblabbaa
