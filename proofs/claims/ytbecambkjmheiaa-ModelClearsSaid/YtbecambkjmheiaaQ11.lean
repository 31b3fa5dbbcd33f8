/- Texts of this seat, one behind the other: Ends, ERound. -/
import Derived.Deep.RegionHeld3
import Derived.Test.YtbecambkjmheiaaQ07
import Derived.Test.YtbecambkjmheiaaQ10
/- Contracts of endsOf, bothEnds, common, none and span, each for every input. -/
namespace Go.Proofs.Ytbecambkjmheiaa
open Go.RowKit

set_option maxHeartbeats 400000 in
theorem ends_ok (f n : Int) (w : World) (f0 : 0 ≤ f) (n1 : 1 ≤ n) (fn : f + n ≤ 18446744073709551616) :
    Calls Try.prog 64 #[.agg #[.int .u64 f, .int .u64 n]] w fun e w' => e = .returned (.tuple #[.agg #[.int .u64 f, .int .u64 (f + (n - 1))], .int .i64 0]) ∧ Below w.heap.size w w' := by
  go_enter Try.func64, Try.ntmps64
  go_wp2_with (go_at_call 80; refine (last_ok f n _ f0 n1 fn).mono ?_; rintro e w1 ⟨rfl, hb⟩; obtain ⟨hc, hf⟩ := bcell hb; have hz : w.heap.size + 1 < w1.heap.size := by have := hb.size; simp at this; omega)
  refine bodyPost_ret (v := .tuple #[.agg #[.int .u64 f, .int .u64 (f + (n - 1))], .int .i64 0]) (by simp [results, Try.results64, go_sem, hc]) rfl ⟨rfl, ?_⟩
  exact bs (bs (bt (ba (ba (Below.refl _ _) _) _) hb) (by omega) _) (by omega) _
set_option maxHeartbeats 400000 in
theorem ends_bad (f n e : Int) (w : World) (f0 : 0 ≤ f) (f1 : f ≤ 18446744073709551615) (n1 : n ≤ 18446744073709551615) (h : Bad f n e) (e1 : 1 ≤ e) :
    Calls Try.prog 64 #[.agg #[.int .u64 f, .int .u64 n]] w fun e' w' => e' = .returned (.tuple #[.agg #[.int .u64 0, .int .u64 0], .int .i64 e]) ∧ Below w.heap.size w w' := by
  go_enter Try.func64, Try.ntmps64
  go_wp2_with (go_at_call 80; refine (last_bad f n e _ f0 f1 n1 h e1).mono ?_; rintro e w1 ⟨rfl, hb⟩; obtain ⟨hc, hf⟩ := bcell hb; have hz : w.heap.size + 1 < w1.heap.size := by have := hb.size; simp at this; omega)
  refine bodyPost_ret (v := .tuple #[.agg #[.int .u64 0, .int .u64 0], .int .i64 e]) (by simp [results, Try.results64, go_sem, hc]) rfl ⟨rfl, ?_⟩
  exact bs (bs (bt (ba (ba (Below.refl _ _) _) _) hb) (by omega) _) (by omega) _

set_option maxHeartbeats 400000 in
theorem common_any (a b c d : Int) (w : World) :
    Calls Try.prog 67 #[.agg #[.int .u64 a, .int .u64 b], .agg #[.int .u64 c, .int .u64 d]] w fun e w' => e = .returned (.agg #[.int .u64 (max a c), .int .u64 (min b d)]) ∧ Below w.heap.size w w' := by
  go_enter Try.func67, Try.ntmps67
  go_wp2
  all_goals
    refine bodyPost_ret (v := .agg #[.int .u64 (max a c), .int .u64 (min b d)]) (by simp [results, Try.results67, go_sem] <;> omega) rfl ⟨rfl, ?_⟩
    exact ba (ba (ba (Below.refl _ _) _) _) _

set_option maxHeartbeats 400000 in
theorem none_yes (a b : Int) (w : World) (h : b < a) :
    Calls Try.prog 68 #[.agg #[.int .u64 a, .int .u64 b]] w fun e w' => e = .returned (.bool true) ∧ Below w.heap.size w w' := by
  go_enter Try.func68, Try.ntmps68
  go_wp2
  go_ret
  exact ⟨rfl, ba (Below.refl _ _) _⟩
set_option maxHeartbeats 400000 in
theorem none_no (a b : Int) (w : World) (h : a ≤ b) :
    Calls Try.prog 68 #[.agg #[.int .u64 a, .int .u64 b]] w fun e w' => e = .returned (.bool false) ∧ Below w.heap.size w w' := by
  have h' : decide (b < a) = false := by simpa using h
  go_enter Try.func68, Try.ntmps68
  go_wp2
  go_ret
  exact ⟨rfl, ba (Below.refl _ _) _⟩

set_option maxHeartbeats 400000 in
theorem span_ok (a b : Int) (w : World) (h0 : 0 ≤ a) (h : a ≤ b) (hb : b ≤ 18446744073709551615) (hw : a = 0 → b ≠ 18446744073709551615) :
    Calls Try.prog 65 #[.agg #[.int .u64 a, .int .u64 b]] w fun e w' => e = .returned (.tuple #[.agg #[.int .u64 a, .int .u64 (b - a + 1)], .int .i64 0]) ∧ Below w.heap.size w w' := by
  by_cases ha : a = 0
  · have hb' := hw ha
    subst ha
    clear hw
    go_enter Try.func65, Try.ntmps65
    go_wp2
    refine bodyPost_ret (v := .tuple #[.agg #[.int .u64 0, .int .u64 (b - 0 + 1)], .int .i64 0]) (by simp [results, Try.results65, go_sem]) rfl ⟨rfl, ?_⟩
    exact ba (ba (Below.refl _ _) _) _
  · clear hw
    go_enter Try.func65, Try.ntmps65
    go_wp2
    refine bodyPost_ret (v := .tuple #[.agg #[.int .u64 a, .int .u64 (b - a + 1)], .int .i64 0]) (by simp [results, Try.results65, go_sem]) rfl ⟨rfl, ?_⟩
    exact ba (ba (Below.refl _ _) _) _
set_option maxHeartbeats 400000 in
theorem span_whole (w : World) :
    Calls Try.prog 65 #[.agg #[.int .u64 0, .int .u64 18446744073709551615]] w fun e w' => e = .returned (.tuple #[.agg #[.int .u64 0, .int .u64 0], .int .i64 2]) ∧ Below w.heap.size w w' := by
  go_enter Try.func65, Try.ntmps65
  go_wp2
  refine bodyPost_ret (v := .tuple #[.agg #[.int .u64 0, .int .u64 0], .int .i64 2]) (by simp [results, Try.results65, go_sem]) rfl ⟨rfl, ?_⟩
  exact ba (ba (Below.refl _ _) _) _

set_option maxHeartbeats 400000 in
theorem both_ok (f n g m : Int) (w : World) (f0 : 0 ≤ f) (n1 : 1 ≤ n) (fn : f + n ≤ 18446744073709551616) (g0 : 0 ≤ g) (m1 : 1 ≤ m) (gm : g + m ≤ 18446744073709551616) :
    Calls Try.prog 66 #[.agg #[.int .u64 f, .int .u64 n], .agg #[.int .u64 g, .int .u64 m]] w fun e w' => e = .returned (.tuple #[.agg #[.int .u64 f, .int .u64 (f + (n - 1))], .agg #[.int .u64 g, .int .u64 (g + (m - 1))], .int .i64 0]) ∧ Below w.heap.size w w' := by
  go_enter Try.func66, Try.ntmps66
  go_wp2_with fail
  refine (ends_ok f n _ f0 n1 fn).mono ?_
  rintro e w1 ⟨rfl, hb⟩
  obtain ⟨c0, _⟩ := At.later (v := .int .u64 g) (b := w.heap.size + 1) (o := 0) ⟨by go_simp, by go_simp⟩ hb
  obtain ⟨c1, _⟩ := At.later (v := .int .u64 m) (b := w.heap.size + 1) (o := 1) ⟨by go_simp, by go_simp⟩ hb
  have D0 := At.later (v := .int .u64 0) (b := w.heap.size + 1 + 1) (o := 0) ⟨by go_simp, by go_simp⟩ hb
  have D1 := At.later (v := .int .u64 0) (b := w.heap.size + 1 + 1) (o := 1) ⟨by go_simp, by go_simp⟩ hb
  have E0 := At.later (v := .int .u64 0) (b := w.heap.size + 1 + 1 + 1) (o := 0) ⟨by go_simp, by go_simp⟩ hb
  have E1 := At.later (v := .int .u64 0) (b := w.heap.size + 1 + 1 + 1) (o := 1) ⟨by go_simp, by go_simp⟩ hb
  have z3 : w.heap.size + 1 + 1 + 1 < w1.heap.size := by have := hb.size; simp at this; omega
  have z2 : w.heap.size + 1 + 1 < w1.heap.size := by omega
  have z1 : w.heap.size + 1 < w1.heap.size := by omega
  go_wp2_with fail
  refine (ends_ok g m _ g0 m1 gm).mono ?_
  rintro e w2 ⟨rfl, hb2⟩
  obtain ⟨d0, e0⟩ := (D0.alloc _).later hb2
  obtain ⟨d1, e1⟩ := (D1.alloc _).later hb2
  obtain ⟨d2, e2⟩ := (E0.alloc _).later hb2
  obtain ⟨d3, e3⟩ := (E1.alloc _).later hb2
  obtain ⟨k0, l0⟩ := (At.new w1 #[.int .u64 f, .int .u64 (f + (n - 1))] 98 (o := 0) rfl).later hb2
  obtain ⟨k1, l1⟩ := (At.new w1 #[.int .u64 f, .int .u64 (f + (n - 1))] 98 (o := 1) rfl).later hb2
  have y0 : w1.heap.size < w2.heap.size := by have := hb2.size; simp at this; omega
  have y1 : w.heap.size + 1 + 1 + 1 < w2.heap.size := by omega
  have y2 : w.heap.size + 1 + 1 < w2.heap.size := by omega
  go_wp2
  go_region
  go_wp2
  refine bodyPost_ret (v := .tuple #[.agg #[.int .u64 f, .int .u64 (f + (n - 1))], .agg #[.int .u64 g, .int .u64 (g + (m - 1))], .int .i64 0]) (by simp [results, Try.results66, go_sem, d0, d1, d2, d3, y1, y2]) rfl ⟨rfl, ?_⟩
  exact (ba (bs (bs (bs (bs (bt (ba (bt (ba (ba (ba (ba (Below.refl _ _) _) _) _) _) hb) _) hb2) (by omega) _) (by omega) _) (by omega) _) (by omega) _) _).drew

set_option maxHeartbeats 400000 in
theorem both_bad1 (f n g m e : Int) (w : World) (f0 : 0 ≤ f) (f1 : f ≤ 18446744073709551615) (n1 : n ≤ 18446744073709551615) (h : Bad f n e) (e1 : 1 ≤ e) :
    Calls Try.prog 66 #[.agg #[.int .u64 f, .int .u64 n], .agg #[.int .u64 g, .int .u64 m]] w fun e' w' => e' = .returned (.tuple #[.agg #[.int .u64 0, .int .u64 0], .agg #[.int .u64 0, .int .u64 0], .int .i64 e]) ∧ Below w.heap.size w w' := by
  go_enter Try.func66, Try.ntmps66
  go_wp2_with fail
  refine (ends_bad f n e _ f0 f1 n1 h e1).mono ?_
  rintro e' w1 ⟨rfl, hb⟩
  obtain ⟨d0, e0⟩ := At.later (v := .int .u64 0) (b := w.heap.size + 1 + 1) (o := 0) ⟨by go_simp, by go_simp⟩ hb
  obtain ⟨d1, e1⟩ := At.later (v := .int .u64 0) (b := w.heap.size + 1 + 1) (o := 1) ⟨by go_simp, by go_simp⟩ hb
  obtain ⟨d2, e2⟩ := At.later (v := .int .u64 0) (b := w.heap.size + 1 + 1 + 1) (o := 0) ⟨by go_simp, by go_simp⟩ hb
  obtain ⟨d3, e3⟩ := At.later (v := .int .u64 0) (b := w.heap.size + 1 + 1 + 1) (o := 1) ⟨by go_simp, by go_simp⟩ hb
  have z3 : w.heap.size + 1 + 1 + 1 < w1.heap.size := by have := hb.size; simp at this; omega
  have z2 : w.heap.size + 1 + 1 < w1.heap.size := by omega
  go_wp2
  refine bodyPost_ret (v := .tuple #[.agg #[.int .u64 0, .int .u64 0], .agg #[.int .u64 0, .int .u64 0], .int .i64 e]) (by simp [results, Try.results66, go_sem, d0, d1, d2, d3, z3, z2]) rfl ⟨rfl, ?_⟩
  exact ba (bs (bs (bs (bs (bt (ba (ba (ba (ba (Below.refl _ _) _) _) _) _) hb) (by omega) _) (by omega) _) (by omega) _) (by omega) _) _

set_option maxHeartbeats 400000 in
theorem both_bad2 (f n g m e : Int) (w : World) (f0 : 0 ≤ f) (n1 : 1 ≤ n) (fn : f + n ≤ 18446744073709551616) (g0 : 0 ≤ g) (g1 : g ≤ 18446744073709551615) (m1 : m ≤ 18446744073709551615) (h : Bad g m e) (e1 : 1 ≤ e) :
    Calls Try.prog 66 #[.agg #[.int .u64 f, .int .u64 n], .agg #[.int .u64 g, .int .u64 m]] w fun e' w' => e' = .returned (.tuple #[.agg #[.int .u64 0, .int .u64 0], .agg #[.int .u64 0, .int .u64 0], .int .i64 e]) ∧ Below w.heap.size w w' := by
  go_enter Try.func66, Try.ntmps66
  go_wp2_with fail
  refine (ends_ok f n _ f0 n1 fn).mono ?_
  rintro e' w1 ⟨rfl, hb⟩
  obtain ⟨c0, _⟩ := At.later (v := .int .u64 g) (b := w.heap.size + 1) (o := 0) ⟨by go_simp, by go_simp⟩ hb
  obtain ⟨c1, _⟩ := At.later (v := .int .u64 m) (b := w.heap.size + 1) (o := 1) ⟨by go_simp, by go_simp⟩ hb
  have D0 := At.later (v := .int .u64 0) (b := w.heap.size + 1 + 1) (o := 0) ⟨by go_simp, by go_simp⟩ hb
  have D1 := At.later (v := .int .u64 0) (b := w.heap.size + 1 + 1) (o := 1) ⟨by go_simp, by go_simp⟩ hb
  have E0 := At.later (v := .int .u64 0) (b := w.heap.size + 1 + 1 + 1) (o := 0) ⟨by go_simp, by go_simp⟩ hb
  have E1 := At.later (v := .int .u64 0) (b := w.heap.size + 1 + 1 + 1) (o := 1) ⟨by go_simp, by go_simp⟩ hb
  have z3 : w.heap.size + 1 + 1 + 1 < w1.heap.size := by have := hb.size; simp at this; omega
  have z2 : w.heap.size + 1 + 1 < w1.heap.size := by omega
  have z1 : w.heap.size + 1 < w1.heap.size := by omega
  go_wp2_with fail
  refine (ends_bad g m e _ g0 g1 m1 h e1).mono ?_
  rintro e' w2 ⟨rfl, hb2⟩
  obtain ⟨d0, e0⟩ := (D0.alloc _).later hb2
  obtain ⟨d1, e1⟩ := (D1.alloc _).later hb2
  obtain ⟨d2, e2⟩ := (E0.alloc _).later hb2
  obtain ⟨d3, e3⟩ := (E1.alloc _).later hb2
  have y0 : w1.heap.size < w2.heap.size := by have := hb2.size; simp at this; omega
  have y1 : w.heap.size + 1 + 1 + 1 < w2.heap.size := by omega
  have y2 : w.heap.size + 1 + 1 < w2.heap.size := by omega
  go_wp2
  refine bodyPost_ret (v := .tuple #[.agg #[.int .u64 0, .int .u64 0], .agg #[.int .u64 0, .int .u64 0], .int .i64 e]) (by simp [results, Try.results66, go_sem, d0, d1, d2, d3, y1, y2]) rfl ⟨rfl, ?_⟩
  exact ba (bs (bs (bs (bs (bt (ba (bt (ba (ba (ba (ba (Below.refl _ _) _) _) _) _) hb) _) hb2) (by omega) _) (by omega) _) (by omega) _) (by omega) _) _
/-- The first error of two spans. -/
def Bad2 (f n g m e : Int) : Prop := Bad f n e ∨ (1 ≤ n ∧ f + n ≤ 18446744073709551616 ∧ Bad g m e)
theorem both_bad (f n g m e : Int) (w : World) (f0 : 0 ≤ f) (f1 : f ≤ 18446744073709551615) (n1 : n ≤ 18446744073709551615) (g0 : 0 ≤ g) (g1 : g ≤ 18446744073709551615) (m1 : m ≤ 18446744073709551615) (h : Bad2 f n g m e) (e1 : 1 ≤ e) :
    Calls Try.prog 66 #[.agg #[.int .u64 f, .int .u64 n], .agg #[.int .u64 g, .int .u64 m]] w fun e' w' => e' = .returned (.tuple #[.agg #[.int .u64 0, .int .u64 0], .agg #[.int .u64 0, .int .u64 0], .int .i64 e]) ∧ Below w.heap.size w w' := by
  rcases h with h | ⟨h1, h2, h⟩
  · exact both_bad1 f n g m e w f0 f1 n1 h e1
  · exact both_bad2 f n g m e w f0 h1 h2 g0 g1 m1 h e1
end Go.Proofs.Ytbecambkjmheiaa
/- A region, in a round of a loop over a function: where none of its operations defers, it is walked as outside of one, calls and all. Nothing of any function. -/
namespace Go.Proofs.Ytbecambkjmheiaa
open Go.RowKit Go.Shelf

theorem upon_round {F : Fence} {n : Nat} {P : Program} {o : Oper} {a : Act} {next : Act → World → Prop} {Q : Exit → Act → World → Prop} (l : Nat) {r : Result Next} (h : o.uponIn F n P a next Q r) : o.uponIn (F.inRound l) n P a next Q r := by
  cases r with
  | ok x w => cases x <;> exact h
  | halt x w => exact h
def noDefer : Op → Bool
  | .defer _ => false
  | _ => true
theorem eOpIn_round {F : Fence} {n : Nat} {P : Program} {ops : Array Oper} {Q : Exit → Act → World → Prop} {i : Nat} {K : Act → World → Prop} {a : Act} {w : World} (l : Nat) (hp : ∀ (j : Nat) o, ops[j]? = some o → noDefer o.op = true)
    (h : wpOpIn F n P ops Q i K a w) : wpOpIn (F.inRound l) n P ops Q i K a w := by
  unfold wpOpIn at h ⊢
  cases hi : ops[i]? with
  | none => rw [hi] at h; exact h
  | some o =>
    rw [hi] at h
    simp only at h ⊢
    have hpo := hp i o hi
    have hpd : ∀ c, o.op ≠ .defer c := fun c e => by rw [e] at hpo; cases hpo
    split
    · rename_i hw
      rw [if_pos hw] at h
      unfold Oper.wpIn at h ⊢
      refine ⟨h.1, ?_⟩
      have h2 := h.2
      rw [Oper.semAt_plain F _ _ hpd] at h2
      rw [Oper.semAt_plain (F.inRound l) _ _ hpd]
      exact upon_round l h2
    · rename_i hw
      rw [if_neg hw] at h
      exact h
theorem eAnyIn_round {F : Fence} {n : Nat} {P : Program} {md : Region.Mode} {ops : Array Oper} {Q : Exit → Act → World → Prop} (l : Nat) (hp : ∀ (j : Nat) o, ops[j]? = some o → noDefer o.op = true) :
    ∀ (fuel : Nat) (listed : Array Bool) (a : Act) (w : World), wpAnyIn F n P md ops Q fuel listed a w → wpAnyIn (F.inRound l) n P md ops Q fuel listed a w := by
  intro fuel
  induction fuel with
  | zero => intro listed a w h; exact h
  | succ fuel ih =>
    intro listed a w h
    exact ⟨h.1, fun i hi => wpOpIn_mono (fun a' w' h2 => ih _ _ _ h2) (eOpIn_round l hp (h.2 i hi))⟩
theorem noDefer_all {ops : Array Oper} (h : (ops.toList.all fun o => noDefer o.op) = true) : ∀ (j : Nat) o, ops[j]? = some o → noDefer o.op = true := fun j o hj => by
  have := List.all_eq_true.1 h o (by
    rw [← Array.getElem?_toList] at hj
    exact List.mem_of_getElem? hj)
  exact this
/-- A post that only the plain way out meets. -/
def OnlyW (Q : Exit → Act → World → Prop) : Exit → Act → World → Prop
  | .normal, a, w => Q .normal a w
  | _, _, _ => False
theorem onlyW_out (Q : Exit → Act → World → Prop) : ¬ LetsOut (OnlyW Q) := fun ⟨_, _, h⟩ => h
theorem upon_wide {n : Nat} {P : Program} {o : Oper} {a : Act} {next : Act → World → Prop} {Q : Exit → Act → World → Prop} {r : Result Next} (h : o.upon P a next Q r) : o.uponIn Fence.wide n P a next Q r := by
  cases r with
  | ok x w =>
    cases x with
    | value v => exact h
    | skip => exact h
    | defer d => exact h
    | enter f args => exact ⟨fun hd => absurd hd (by decide), callsIn_wide.2 h⟩
    | row r args => exact ⟨fun hd => absurd hd (by decide), fun c cs _ => let ⟨v, w', r, s⟩ := h c cs; ⟨v, w', r, stepsIn_wide.2 s⟩⟩
    | _ => exact h.elim
  | halt x w => cases x <;> exact h
theorem eOpIn_wide {n : Nat} {P : Program} {ops : Array Oper} {Q : Exit → Act → World → Prop} {i : Nat} {K : Act → World → Prop} {a : Act} {w : World} (hq : ¬ LetsOut Q)
    (h : wpOp P ops Q i K a w) : wpOpIn Fence.wide n P ops Q i K a w := by
  unfold wpOp at h
  unfold wpOpIn
  cases hi : ops[i]? with
  | none => rw [hi] at h; exact h
  | some o =>
    rw [hi] at h
    simp only at h ⊢
    split
    · rename_i hw
      rw [if_pos hw] at h
      rcases h with h | ⟨_, h⟩
      · exact ⟨fun _ _ => trivial, upon_wide h⟩
      · exact absurd h hq
    · rename_i hw
      rw [if_neg hw] at h
      exact ⟨fun _ _ => trivial, h⟩
theorem eAnyIn_wide {n : Nat} {P : Program} {md : Region.Mode} {ops : Array Oper} {Q : Exit → Act → World → Prop} (hq : ¬ LetsOut Q) :
    ∀ (fuel : Nat) (listed : Array Bool) (a : Act) (w : World), wpAny P md ops Q fuel listed a w → wpAnyIn Fence.wide n P md ops Q fuel listed a w := by
  intro fuel
  induction fuel with
  | zero => intro listed a w h; exact h
  | succ fuel ih =>
    intro listed a w h
    exact ⟨h.1, fun i hi => wpOpIn_mono (fun a' w' h2 => ih _ _ _ h2) (eOpIn_wide hq (h.2 i hi))⟩
/-- A region that draws, in a round of a loop in the widest fence, by the walk outside of one. -/
theorem region_round_held {n l id : Nat} {P : Program} {ops : Array Oper} {Q : Exit → Act → World → Prop} {S : World → Prop} {a : Act} {w : World} (hm : P.follows .mixedOrders = true) (hp : (ops.toList.all fun o => noDefer o.op) = true) (hS : S w.drew)
    (h : S w.drew → wpAnyH P .any ops (OnlyW Q) S ops.size (Array.replicate ops.size false) a w.drew) : (Code.region id ops true).wpIn (Fence.wide.inRound l) n P Q a w := by
  refine wpIn_mono (wpIn_region_any (Q := OnlyW Q) hm (eAnyIn_round l (noDefer_all hp) _ _ _ _ (eAnyIn_wide (onlyW_out Q) _ _ _ _ (wpAny_of_held _ _ _ _ (h hS))))) (fun e a w q => ?_)
  cases e <;> first | exact q | exact q.elim
end Go.Proofs.Ytbecambkjmheiaa
