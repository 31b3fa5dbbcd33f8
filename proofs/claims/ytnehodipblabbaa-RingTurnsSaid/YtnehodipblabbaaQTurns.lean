/- RingTurns answers true for every ring, text and number, and leaves them as they were. -/
import Derived.Test.YtnehodipblabbaaQTurnsW
import Derived.Test.YtnehodipblabbaaQDrop
import Derived.Test.YtnehodipblabbaaQRRight
import Derived.Test.YtnehodipblabbaaQRDrop
import Derived.Test.YtnehodipblabbaaQAlive
import Derived.Test.YtnehodipblabbaaQOpen
import Derived.Test.YtnehodipblabbaaTrod
namespace Go.Proofs.Ytnehodipblabbaa
open Go.ChangeShapes Go.WideShapes Go.ChangeAt Go.RowKit Go.Joins Go.Deep

/-- A ring that was made: its parts, and what it holds. -/
def QV (n : Nat) (T : List (List UInt8)) (f m : Int) (W : World) (r : RV) : Prop := (r.n = n ∧ r.f = f ∧ r.m = m) ∧ QM W r.a n r.c T
theorem QV.later {n : Nat} {T : List (List UInt8)} {f m : Int} {W W' : World} {r : RV} (h : QV n T f m W r) (hb : Below W.heap.size W W') : QV n T f m W' r := ⟨h.1, h.2.later hb⟩
def QZ (_ : World) (r : RV) : Prop := r = ⟨none, 0, 0, 0, 0⟩
theorem qz_same (W : World) (r : RV) (h : QZ W r) : Calls Try.prog 11 #[qv r.a r.n r.c r.f r.m, qv none 0 0 0 0] W fun e w' => e = .returned (.bool true) ∧ Below W.heap.size W w' := by
  unfold QZ at h
  subst h
  exact qsame_none W
theorem qv_same {n : Nat} {T : List (List UInt8)} {f m : Int} (W : World) (r r' : RV) (h : QV n T f m W r) (h' : QV n T f m W r') : Calls Try.prog 11 #[qv r.a r.n r.c r.f r.m, qv r'.a r'.n r'.c r'.f r'.m] W fun e w' => e = .returned (.bool true) ∧ Below W.heap.size W w' := by
  obtain ⟨a, nn, c, ff, mm⟩ := r
  obtain ⟨a', nn', c', ff', mm'⟩ := r'
  obtain ⟨⟨h1, h2, h3⟩, h4⟩ := h
  obtain ⟨⟨g1, g2, g3⟩, g4⟩ := h'
  simp only at h1 h2 h3 g1 g2 g3 h4 g4
  subst h1 h2 h3 g1 g2 g3
  have := qsame_any a a' nn' c nn' c' ff' mm' ff' mm' T T W h4 g4
  rwa [qsame_refl] at this

theorem qturns_any (A : Option Addr) (n c : Nat) (f m : Int) (L : List (List UInt8)) (s : List UInt8) (k : Int) (w : World) (h : QIn w A n c f m L) :
    Calls Try.prog 4 #[qv A n c f m, sv s, .int .i64 k] w fun e w' => e = .returned (.bool true) ∧ Below w.heap.size w w' := by
  have q := h.few
  have HFew := Lib.hid (fun W => qfew_any A n c f m W h.cap)
  have HAL := Lib.hid qalive_any
  have HR := Lib.hid (fun W (hb : Below w.heap.size w W) => qrright_any A _ c f m _ W (q.later hb))
  clear h
  generalize L.take 70 = L at *
  generalize min n 70 = n' at *
  cases hr : qright L f m with
  | false =>
    rw [hr] at HR
    exact qturns_bad A n n' c f m s k QZ QZ w HFew
      (Lib.hid fun W hb => (push_bad A n' c f m L s W (q.later hb) hr).mono fun e w' ⟨h1, h2⟩ => ⟨⟨⟨none, 0, 0, 0, 0⟩, h1, rfl⟩, h2⟩)
      (Lib.hid fun W hb => (drop_bad A n' c f m k L W (q.later hb) hr).mono fun e w' ⟨h1, h2⟩ => ⟨⟨⟨none, 0, 0, 0, 0⟩, h1, rfl⟩, h2⟩)
      (Lib.hid fun _ _ _ h _ => h) (Lib.hid fun _ _ _ h _ => h) HAL (Lib.hid fun W hb => items_bad A n' c f m L W (q.later hb) hr) HR (Lib.hid qz_same) (Lib.hid qz_same)
  | true =>
    rw [hr] at HR
    obtain ⟨a, b, rfl, rfl, hR⟩ := qright_iff.1 hr
    have hl := q.len
    have g1 := hR.lo
    have g2 := hR.hi
    have g3 := hR.start
    have g4 := hR.many
    rw [hl] at g1 g2 g3 g4
    have H1 : ∃ (ee : Int) (PP RP : World → RV → Prop), (∀ W, Below w.heap.size w W → Calls Try.prog 13 #[qv A n' c a b, sv s] W fun e w' => (∃ r : RV, e = .returned (.tuple #[qv r.a r.n r.c r.f r.m, .int .i64 ee]) ∧ PP w' r) ∧ Below W.heap.size W w') ∧ (∀ W W' r, PP W r → Below W.heap.size W W' → PP W' r) ∧
        ((((b : Int) == (n' : Int)) = true ∧ ee = 6 ∧ (∀ W r, PP W r → Calls Try.prog 11 #[qv r.a r.n r.c r.f r.m, qv none 0 0 0 0] W fun e w' => e = .returned (.bool true) ∧ Below W.heap.size W w')) ∨
         (((b : Int) == (n' : Int)) = false ∧ ee = 0 ∧ (∀ W, Below w.heap.size w W → Calls Try.prog 18 #[qv A n' c a b, sv s] W fun e w' => ∃ r : RV, e = .returned (qv r.a r.n r.c r.f r.m) ∧ RP w' r ∧ Below W.heap.size W w') ∧
          (∀ W r r', PP W r → RP W r' → Calls Try.prog 11 #[qv r.a r.n r.c r.f r.m, qv r'.a r'.n r'.c r'.f r'.m] W fun e w' => e = .returned (.bool true) ∧ Below W.heap.size W w'))) := by
      by_cases hb : b = n'
      · subst hb
        exact ⟨6, QZ, QZ, fun W hb => (push_full A b c a L s W (q.later hb) hR).mono fun e w' ⟨h1, h2⟩ => ⟨⟨⟨none, 0, 0, 0, 0⟩, h1, rfl⟩, h2⟩, fun _ _ _ h _ => h, .inl ⟨by simp, rfl, qz_same⟩⟩
      · refine ⟨0, QV n' (qpush L a b s) (a : Int) ((b + 1 : Nat) : Int), QV n' (qpush L a b s) (a : Int) ((b + 1 : Nat) : Int), fun W hb2 => (push_yes A n' c a b L s W (q.later hb2) hR (by omega)).mono ?_, fun _ _ _ h hb => h.later hb, .inr ⟨by simp only [beq_eq_false_iff_ne]; omega, rfl, fun W hb2 => (rpush_any A n' c a b L s W (q.later hb2) hR (by omega)).mono ?_, fun W r r' => qv_same W r r'⟩⟩
        · rintro e w' ⟨g, c', rfl, hq, _, hb3⟩
          exact ⟨⟨⟨some ⟨g, 0, none⟩, n', c', (a : Int), ((b + 1 : Nat) : Int)⟩, rfl, ⟨rfl, rfl, rfl⟩, hq.qm (by omega)⟩, hb3⟩
        · rintro e w' ⟨A', c', rfl, hq, hb3⟩
          exact ⟨⟨A', n', c', (a : Int), ((b + 1 : Nat) : Int)⟩, rfl, ⟨⟨rfl, rfl, rfl⟩, hq⟩, hb3⟩
    have H2 : ∃ (ff : Int) (DD RD : World → RV → Prop), (∀ W, Below w.heap.size w W → Calls Try.prog 14 #[qv A n' c a b, .int .i64 k] W fun e w' => (∃ r : RV, e = .returned (.tuple #[qv r.a r.n r.c r.f r.m, .int .i64 ff]) ∧ DD w' r) ∧ Below W.heap.size W w') ∧ (∀ W W' r, DD W r → Below W.heap.size W W' → DD W' r) ∧
        ((k < 0 ∧ ff = 2 ∧ (∀ W r, DD W r → Calls Try.prog 11 #[qv r.a r.n r.c r.f r.m, qv none 0 0 0 0] W fun e w' => e = .returned (.bool true) ∧ Below W.heap.size W w')) ∨
         (0 ≤ k ∧ (b : Int) < k ∧ ff = 2 ∧ (∀ W r, DD W r → Calls Try.prog 11 #[qv r.a r.n r.c r.f r.m, qv none 0 0 0 0] W fun e w' => e = .returned (.bool true) ∧ Below W.heap.size W w')) ∨
         (0 ≤ k ∧ k ≤ (b : Int) ∧ ff = 0 ∧ (∀ W, Below w.heap.size w W → Calls Try.prog 19 #[qv A n' c a b, .int .i64 k] W fun e w' => ∃ r : RV, e = .returned (qv r.a r.n r.c r.f r.m) ∧ RD w' r ∧ Below W.heap.size W w') ∧
          (∀ W r r', DD W r → RD W r' → Calls Try.prog 11 #[qv r.a r.n r.c r.f r.m, qv r'.a r'.n r'.c r'.f r'.m] W fun e w' => e = .returned (.bool true) ∧ Below W.heap.size W w'))) := by
      by_cases hk : 0 ≤ k ∧ k ≤ (b : Int)
      · obtain ⟨j, rfl⟩ : ∃ j : Nat, k = (j : Int) := ⟨k.toNat, by omega⟩
        refine ⟨0, QV n' (qdrop L a j) ((qs n' a j : Nat) : Int) ((b - j : Nat) : Int), QV n' (qdrop L a j) ((qs n' a j : Nat) : Int) ((b - j : Nat) : Int), fun W hb2 => (drop_yes A n' c a b j L W (q.later hb2) hR (by omega)).mono ?_, fun _ _ _ h hb => h.later hb, .inr (.inr ⟨hk.1, hk.2, rfl, fun W hb2 => (rdrop_any A n' c a b j L W (q.later hb2) hR (by omega)).mono ?_, fun W r r' => qv_same W r r'⟩)⟩
        · rintro e w' ⟨g, c', rfl, hq, hb3⟩
          exact ⟨⟨⟨some ⟨g, 0, none⟩, n', c', ((qs n' a j : Nat) : Int), ((b - j : Nat) : Int)⟩, rfl, ⟨rfl, rfl, rfl⟩, hq.qm (by omega)⟩, hb3⟩
        · rintro e w' ⟨A', c', rfl, hq, hb3⟩
          exact ⟨⟨A', n', c', ((qs n' a j : Nat) : Int), ((b - j : Nat) : Int)⟩, rfl, ⟨⟨rfl, rfl, rfl⟩, hq⟩, hb3⟩
      · have hd : ∀ W, Below w.heap.size w W → Calls Try.prog 14 #[qv A n' c a b, .int .i64 k] W fun e w' => (∃ r : RV, e = .returned (.tuple #[qv r.a r.n r.c r.f r.m, .int .i64 2]) ∧ QZ w' r) ∧ Below W.heap.size W w' := fun W hb => (drop_range A n' c a b k L W (q.later hb) hr hk).mono fun e w' ⟨h1, h2⟩ => ⟨⟨⟨none, 0, 0, 0, 0⟩, h1, rfl⟩, h2⟩
        by_cases h0 : k < 0
        · exact ⟨2, QZ, QZ, hd, fun _ _ _ h _ => h, .inl ⟨h0, rfl, qz_same⟩⟩
        · exact ⟨2, QZ, QZ, hd, fun _ _ _ h _ => h, .inr (.inl ⟨by omega, by omega, rfl, qz_same⟩)⟩
    obtain ⟨ee, PP, RP, u1, u2, u3⟩ := H1
    obtain ⟨ff, DD, RD, v1, v2, v3⟩ := H2
    exact qturns_good A n n' c b (a : Int) (b : Int) s k ee ff (qitems L a b) PP DD RP RD w HFew (Lib.hid u1) (Lib.hid v1) (Lib.hid u2) (Lib.hid v2) HAL
      (Lib.hid fun W hb => (items_yes A n' c a b L W (q.later hb) hR).mono fun e w' ⟨A', c', h1, h2, h3⟩ => ⟨⟨A', c', h1, own_SR' h2 (qitems_len _ _ _)⟩, h3⟩) HR
      (Lib.hid fun W hb => (ritems_any A n' c a b L W (q.later hb) g1 g2 g3 g4).mono fun e w' ⟨g', c', h1, h2, h3⟩ => ⟨⟨_, c', h1, own_SR h2 (qitems_len _ _ _)⟩, h3⟩)
      (Lib.hid fun W A' c' A'' c'' h1 h2 => by have := qtexts_any A' A'' c' c'' b b _ _ W h1 h2 (qitems_len _ _ _) (qitems_len _ _ _) (by omega) (by omega); rwa [decide_eq_true rfl] at this) (Lib.hid u3) (Lib.hid v3)

set_option maxHeartbeats 1000000 in
set_option maxRecDepth 100000 in
theorem qturns_lifted (os : Os) (started : os.Started) (H : Type) (enc : TypeId × Value → H) :
    ReturnsInHanded {} Try.checked os 4 .any (Rows.ringTurnsSpec.pre6 enc Try.prog Try.f4 Rows.ringTurnsRow.domain false) (Rows.ringTurnsSpec.post enc Try.prog Try.f4 false true false false) := by
  refine returnsInHanded_of_change (C := Try.checked) Try.own started (by kernel_rfl) Try.func4
    (ChangeSpec.witness6 (enc := enc) (C := Try.checked) false ⟨#[], #[.agg #[.slice none 0 0, .int .i64 0, .int .i64 0], .string ⟨#[]⟩, .int .i64 0], []⟩ 8 (by kernel_rfl) (by kernel_rfl) (by kernel_rfl) (by kernel_rfl)) ?_
  intro W base args ds gs before hval0 hW _ _
  have hval : ∀ (j : Nat) t v, Try.f4.params[j]? = some t → args[j]? = some v → Value.okWide Try.prog W .any base t v := hval0
  have hW' := hW
  obtain ⟨p, q, hA0, hV, rfl, _, _⟩ := hW
  have hA : DataW.TrodAll enc Try.prog W 0 (fun _ => true) true Try.f4.params.toList args.toList ds p := hA0
  rw [Try.params4] at hA hval
  obtain ⟨rfl, rfl⟩ := trodVars_none hV
  have hAk := hA
  obtain ⟨v0, v1, v2, d0, d1, d2, p0, p1, p2, rfl, rfl, hp, h0, h1, h2⟩ := trodAll_three hA
  have hlt : ∀ x ∈ p, x.block < W.heap.size := fun x hx => hW'.lt x (by simpa using hx)
  obtain ⟨A0, u0, c0, f0, m0, L0, rfl, hM0⟩ := open_ring (hval 0 24 v0 rfl rfl) h0
  obtain ⟨s1, rfl, rfl, _, ws1⟩ := ChangeMaps.open_string Try.underlying9 (hval 1 9 v1 rfl rfl) h1
  unfold maxLen at ws1
  obtain ⟨l1, rfl, hz1⟩ := str_list s1
  have hl1 : (l1.length : Int) ≤ 9223372036854775807 := by omega
  obtain ⟨n2, rfl, rfl, _, wn2⟩ := open_int Try.underlying3 (hval 2 3 v2 rfl rfl) h2
  have hi2 := i64_bounds wn2
  clear hA0 hval0
  refine (qturns_any A0 u0 c0 f0 m0 L0 l1 n2 W hM0).mono fun e W' ⟨he, hn⟩ => ?_
  subst he
  refine ⟨_, rfl, ?_⟩
  refine ⟨_, _, _, [], p, [], hW', ?_, trodAll_below_ Try.laidOut hn _ hAk (all_readable (by kernel_rfl)) hlt, rfl, hn.frame _, fun h => by cases h⟩
  exact trodAll_mk1 (shut_bool Try.underlying4 true)

/-- RingTurns, for every input. -/
theorem qturns_holds : Rows.RingTurnsSaid :=
  OpenClaim.holds_of_wide 4 Try.f4 rfl rfl rfl rfl rfl rfl rfl ⟨rfl, rfl, rfl, rfl, rfl⟩ rfl rfl rfl rfl rfl (by kernel_rfl) Try.func4 (by kernel_rfl)
    (of_decide_eq_true (by kernel_rfl)) (by unfold Func.isWrapper; rw [if_neg (of_decide_eq_false (by kernel_rfl))]; exact ⟨rfl, rfl⟩)
    (fun os started H enc _ => qturns_lifted os started H enc)
#print axioms qturns_holds
end Go.Proofs.Ytnehodipblabbaa
