/- RingOrder answers true for every ring, row of texts and two numbers, and leaves them as they were. -/
import Derived.Test.YtnehodipblabbaaQOrderW
import Derived.Test.YtnehodipblabbaaQDrop
import Derived.Test.YtnehodipblabbaaQAlive
import Derived.Test.YtnehodipblabbaaQOpen
import Derived.Test.YtnehodipblabbaaTrod
namespace Go.Proofs.Ytnehodipblabbaa
open Go.ChangeShapes Go.WideShapes Go.ChangeAt Go.RowKit Go.Joins Go.Deep

theorem qorder_any (A : Option Addr) (n c : Nat) (f m : Int) (L : List (List UInt8)) (B : Option Addr) (d : Nat) (X : List (List UInt8)) (k1 k2 : Int) (w : World) (h : QIn w A n c f m L) (hd : X.length ≤ d) (hX : (X.length : Int) ≤ 9223372036854775807) (hB : SR w B X) :
    Calls Try.prog 5 #[qv A n c f m, .slice B X.length d, .int .i64 k1, .int .i64 k2] w fun e w' => e = .returned (.bool true) ∧ Below w.heap.size w w' := by
  have q := h.few
  have HFew := Lib.hid (fun W => qfew_any A n c f m W h.cap)
  have HAL := Lib.hid qalive_any
  clear h
  generalize L.take 70 = L at *
  generalize min n 70 = n' at *
  cases hr : qright L f m with
  | false => exact qorder_bad A n n' c f m B X.length (min X.length 70) d k1 k2 w HFew rfl hX hd HAL (Lib.hid fun W hb => items_bad A n' c f m L W (q.later hb) hr)
  | true =>
    obtain ⟨a, b, rfl, rfl, hR⟩ := qright_iff.1 hr
    have hl := q.len
    have g1 := hR.lo
    have g2 := hR.hi
    rw [hl] at g1 g2
    have hoff : ∀ x : Addr, A = some x → x.block < w.heap.size := fun x hx => by
      obtain ⟨g, off, e, hc⟩ := q.row 0 (by omega)
      rw [hx] at e
      cases e
      exact World.block_lt_of_cell? _ _ hc
    exact qorder_good A n n' c a b L (X.take 70) B X.length (min X.length 70) d k1 k2 w HFew rfl hX hd HAL g2 g1 (Lib.hid ⟨q, hR, hoff⟩)
      (Lib.hid fun W A c f q L h1 h2 => items_yes A n' c f q L W h1 h2)
      (Lib.hid fun W A c f q L s h1 h2 h3 => push_yes A n' c f q L s W h1 h2 h3)
      (Lib.hid fun W A c f L s h1 h2 => push_full A n' c f L s W h1 h2)
      (Lib.hid fun W A c f q k L h1 h2 h3 => (drop_yes A n' c f q k L W h1 h2 h3).mono fun e w' ⟨g, c', e1, e2, e3⟩ => ⟨g, c', e1, e2.qm (by omega), e3⟩)
      (Lib.hid fun W A c f q L h1 h2 => by have := qright_any A n' c f q L W h1; rwa [qright_mk h2] at this)
      (Lib.hid fun W A c A' c' f q L h1 h2 => by have := qsame_any A A' n' c n' c' f q f q L L W h1 h2; rwa [qsame_refl] at this)
      (Lib.hid fun W A c A' c' m T h1 h2 h3 h4 => by have := qtexts_any A A' c c' m m T T W h1 h2 h3 h3 (by omega) (by omega); rwa [decide_eq_true rfl] at this)
      (Lib.hid ⟨hB.take 70, by rw [List.length_take, Nat.min_comm]⟩)

set_option maxHeartbeats 1000000 in
set_option maxRecDepth 100000 in
theorem qorder_lifted (os : Os) (started : os.Started) (H : Type) (enc : TypeId × Value → H) :
    ReturnsInHanded {} Try.checked os 5 .any (Rows.ringOrderSpec.pre6 enc Try.prog Try.f5 Rows.ringOrderRow.domain false) (Rows.ringOrderSpec.post enc Try.prog Try.f5 false true false false) := by
  refine returnsInHanded_of_change (C := Try.checked) Try.own started (by kernel_rfl) Try.func5
    (ChangeSpec.witness6 (enc := enc) (C := Try.checked) false ⟨#[], #[.agg #[.slice none 0 0, .int .i64 0, .int .i64 0], .slice none 0 0, .int .i64 0, .int .i64 0], []⟩ 8 (by kernel_rfl) (by kernel_rfl) (by kernel_rfl) (by kernel_rfl)) ?_
  intro W base args ds gs before hval0 hW _ _
  have hval : ∀ (j : Nat) t v, Try.f5.params[j]? = some t → args[j]? = some v → Value.okWide Try.prog W .any base t v := hval0
  have hW' := hW
  obtain ⟨p, q, hA0, hV, rfl, _, _⟩ := hW
  have hA : DataW.TrodAll enc Try.prog W 0 (fun _ => true) true Try.f5.params.toList args.toList ds p := hA0
  rw [Try.params5] at hA hval
  obtain ⟨rfl, rfl⟩ := trodVars_none hV
  have hAk := hA
  obtain ⟨v0, v1, v2, v3, d0, d1, d2, d3, p0, p1, p2, p3, rfl, rfl, hp, h0, h1, h2, h3⟩ := trodAll_four hA
  have hlt : ∀ x ∈ p, x.block < W.heap.size := fun x hx => hW'.lt x (by simpa using hx)
  obtain ⟨A0, u0, c0, f0, m0, L0, rfl, hM0⟩ := open_ring (hval 0 24 v0 rfl rfl) h0
  obtain ⟨A1, cap1, l1, rfl, hc1, hL1, hS1, hR1⟩ := open_texts (hval 1 22 v1 rfl rfl) h1
  obtain ⟨n2, rfl, rfl, _, wn2⟩ := open_int Try.underlying3 (hval 2 3 v2 rfl rfl) h2
  have hi2 := i64_bounds wn2
  obtain ⟨n3, rfl, rfl, _, wn3⟩ := open_int Try.underlying3 (hval 3 3 v3 rfl rfl) h3
  have hi3 := i64_bounds wn3
  clear hA0 hval0
  refine (qorder_any A0 u0 c0 f0 m0 L0 A1 cap1 l1 n2 n3 W hM0 hc1 hL1 hR1).mono fun e W' ⟨he, hn⟩ => ?_
  subst he
  refine ⟨_, rfl, ?_⟩
  refine ⟨_, _, _, [], p, [], hW', ?_, trodAll_below_ Try.laidOut hn _ hAk (all_readable (by kernel_rfl)) hlt, rfl, hn.frame _, fun h => by cases h⟩
  exact trodAll_mk1 (shut_bool Try.underlying4 true)

/-- RingOrder, for every input. -/
theorem qorder_holds : Rows.RingOrderSaid :=
  OpenClaim.holds_of_wide 5 Try.f5 rfl rfl rfl rfl rfl rfl rfl ⟨rfl, rfl, rfl, rfl, rfl⟩ rfl rfl rfl rfl rfl (by kernel_rfl) Try.func5 (by kernel_rfl)
    (of_decide_eq_true (by kernel_rfl)) (by unfold Func.isWrapper; rw [if_neg (of_decide_eq_false (by kernel_rfl))]; exact ⟨rfl, rfl⟩)
    (fun os started H enc _ => qorder_lifted os started H enc)
#print axioms qorder_holds
end Go.Proofs.Ytnehodipblabbaa
