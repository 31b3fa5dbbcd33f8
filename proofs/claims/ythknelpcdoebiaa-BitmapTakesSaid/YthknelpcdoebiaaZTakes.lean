/- BitmapTakes answers true for every map, every two numbers and every bool, and leaves them as they were. -/
import Derived.Test.YthknelpcdoebiaaZTakesW
import Derived.Test.YthknelpcdoebiaaZSet
import Derived.Test.YthknelpcdoebiaaZCount
import Derived.Test.YthknelpcdoebiaaZFindC
import Derived.Test.YthknelpcdoebiaaZOpen
import Derived.Test.YthknelpcdoebiaaTrod
namespace Go.Proofs.Ythknelpcdoebiaa
open Go.ChangeShapes Go.WideShapes Go.ChangeAt Go.RowKit Go.Joins Go.Deep


/-- So many places from one on, taken. -/
def zfill (L : List Nat) (a : Nat) : Nat → List Nat
  | 0 => L
  | t + 1 => zset (zfill L a t) (a + t) true
theorem zfill_all {k : Nat} {L : List Nat} {F a m : Nat} (hr : ZR k L F) (h1 : a + m ≤ k) (h2 : ∀ t, t < m → ztk L (a + t) = false) : ∀ t, t ≤ m → ZR k (zfill L a t) (zfl (zfill L a t)) ∧ zcount k (zfill L a t) = zcount k L + t ∧ ∀ u, a + t ≤ u → ztk (zfill L a t) u = ztk L u := by
  intro t
  induction t with
  | zero =>
    intro _
    refine ⟨?_, rfl, fun u _ => rfl⟩
    have := hr.fl
    rw [zfill, ← this]
    exact hr
  | succ t ih =>
    intro ht
    obtain ⟨h3, h4, h5⟩ := ih (by omega)
    have h6 := h3.len64
    refine ⟨h3.set (by omega) true, ?_, fun u hu => ?_⟩
    · rw [zfill, zcount_put h3 (by omega) (by rw [h5 _ (Nat.le_refl _)]; exact h2 t (by omega)), h4]
      omega
    · rw [zfill, ztk_set true (by omega), if_neg (by omega)]
      exact h5 u (by omega)
theorem zoff_in {w : World} {A : Option Addr} {n c : Nat} {L : List Nat} {F : Nat} (hM : ZM w A n c L F) (hn : 1 ≤ n) : ZOff A w.heap.size := by
  obtain ⟨g, off, rfl, c0⟩ := hM.row 0 (by rw [hM.len]; exact hn)
  intro a e
  cases e
  exact Nat.ne_of_lt (World.block_lt_of_cell? _ _ c0)

theorem takes_in (k : Nat) (A : Option Addr) (n0 n c F : Nat) (L : List Nat) (j : Nat) (b : Bool) (many x f : Int) (a m : Nat) (w : World) (hM : ZM w A n c L F) (hR : ZR k L F) (hj : j < k)
    (HFew : Hid (∀ W, Calls Try.prog 7 #[zbv (k : Int) A n0 c F] W fun e w' => e = .returned (zbv (k : Int) A n c F) ∧ Below W.heap.size W w'))
    (HFi : Hid (∀ W, Below w.heap.size w W → Calls Try.prog 20 #[zbv (k : Int) A n c F, .int .i64 many] W fun e w' => e = .returned (.tuple #[.int .i64 x, .int .i64 f]) ∧ Below W.heap.size W w'))
    (h1 : a + m ≤ k) (h2 : ∀ t, t < m → ztk L (a + t) = false) (P : f = 4 ∨ f = 6 ∨ (f = 0 ∧ x = (a : Int) ∧ many = (m : Int) ∧ a + m ≤ k)) :
    Calls Try.prog 6 #[zbv (k : Int) A n0 c F, .int .i64 (j : Int), .int .i64 many, .bool b] w fun e w' => e = .returned (.bool true) ∧ Below w.heap.size w w' := by
  have h6 := hR.len64
  have hl := hM.len
  have HA := zfill_all hR h1 h2
  have hRS := hR.set hj b
  have hcl : zcount k L ≤ k := zcnt_le _ _
  have hk := hR.hi
  refine takes_yes k j A n0 n c F (zfl (zset L j b)) b many (ztk L) (ztk (zset L j b)) (zset L j b) (zfill L a) (fun t => zfl (zfill L a t)) x f (zcount k L) a m w HFew
    (Lib.hid fun W hb => set_yes2 k A n c F L j b W (hM.later hb) hR hj)
    (Lib.hid fun t W ht hb => get_yes k A n c F L t W (hM.later hb) hR ht)
    (Lib.hid fun t W A' c' ht h => get_yes k A' n c' _ _ t W h hRS ht)
    (Lib.hid fun t => ztk_set b (by omega) t) HFi
    (Lib.hid fun W hb => count_yes k A n c F L W (hM.later hb) hR)
    (Lib.hid fun W A' c' h => by have := zright_any k A' n c' _ _ W h; rwa [zright_mk hRS] at this)
    (Lib.hid balive_any)
    (Lib.hid ⟨by have := hR.fl; show ZM w A n c L (zfl L); rw [← this]; exact hM, hR.fl.symm, zoff_in hM (by omega)⟩)
    (Lib.hid fun t W A' c' ht h => by
      obtain ⟨h3, _, h5⟩ := HA t (by omega)
      have := get_yes k A' n c' _ _ (a + t) W h h3 (by omega)
      rwa [h5 _ (Nat.le_refl _), h2 t ht] at this)
    (Lib.hid fun t W A' c' ht h => set_yes2 k A' n c' _ _ (a + t) true W h (HA t (by omega)).1 (by omega))
    (Lib.hid fun W A' c' h => by
      obtain ⟨h3, h4, _⟩ := HA m (Nat.le_refl _)
      have := count_yes k A' n c' _ _ W h h3
      rw [h4] at this
      exact this)
    (Lib.hid fun W A' c' h => by have := zright_any k A' n c' _ _ W h; rwa [zright_mk (HA m (Nat.le_refl _)).1] at this)
    hk (by omega) (by omega) P

theorem takes_any (N : Int) (A : Option Addr) (n c F : Nat) (L : List Nat) (i many : Int) (b : Bool) (w : World) (h : ZIn w N A n c L F) (hm : many ≤ 9223372036854775807) :
    Calls Try.prog 6 #[zbv N A n c F, .int .i64 i, .int .i64 many, .bool b] w fun e w' => e = .returned (.bool true) ∧ Below w.heap.size w w' := by
  have hM := h.few
  have HFew := Lib.hid (fun W => zfew_any N A n c F W h.cap)
  have HL := Lib.hid balive_any
  cases hr : zright N (L.take 70) F with
  | false => exact takes_no N i many A n (min n 70) c F b 1 w HFew (Lib.hid fun W hb => set_bad N A _ c F _ i b W (hM.later hb) hr) HL (.inl rfl)
  | true =>
    by_cases hi : 0 ≤ i ∧ i < N
    · obtain ⟨k, rfl, hR⟩ := zright_iff.1 hr
      obtain ⟨j, rfl⟩ : ∃ j : Nat, i = (j : Int) := ⟨i.toNat, by omega⟩
      by_cases hm1 : many < 1
      · exact takes_in k A n (min n 70) c F _ j b many 0 4 0 0 w hM hR (by omega) HFew (Lib.hid fun W hb => find_size k A _ c F _ many W (hM.later hb) hr hm1) (by omega) (fun t ht => absurd ht (Nat.not_lt_zero t)) (.inl rfl)
      · obtain ⟨m, rfl⟩ : ∃ m : Nat, many = (m : Int) := ⟨many.toNat, by omega⟩
        have HF := Lib.hid (fun W (hb : Below w.heap.size w W) => find_yes k A _ c F m _ W (hM.later hb) hR (by omega) hm)
        cases hf : zfind k (ztk (L.take 70)) m with
        | none =>
          rw [hf] at HF
          exact takes_in k A n (min n 70) c F _ j b m 0 6 0 0 w hM hR (by omega) HFew HF (by omega) (fun t ht => absurd ht (Nat.not_lt_zero t)) (.inr (.inl rfl))
        | some s =>
          rw [hf] at HF
          obtain ⟨h1, h2⟩ := zfind_is hf
          exact takes_in k A n (min n 70) c F _ j b m (s : Int) 0 s m w hM hR (by omega) HFew HF h1 h2 (.inr (.inr ⟨rfl, rfl, rfl, h1⟩))
    · exact takes_no N i many A n (min n 70) c F b 2 w HFew (Lib.hid fun W hb => set_range N A _ c F _ i b W (hM.later hb) hr hi) HL (.inr rfl)

set_option maxHeartbeats 1000000 in
set_option maxRecDepth 100000 in
theorem takes_lifted (os : Os) (started : os.Started) (H : Type) (enc : TypeId × Value → H) :
    ReturnsInHanded {} Try.checked os 6 .any (Rows.bitmapTakesSpec.pre6 enc Try.prog Try.f6 Rows.bitmapTakesRow.domain false) (Rows.bitmapTakesSpec.post enc Try.prog Try.f6 false true false false) := by
  refine returnsInHanded_of_change (C := Try.checked) Try.own started (by kernel_rfl) Try.func6
    (ChangeSpec.witness6 (enc := enc) (C := Try.checked) false ⟨#[], #[.agg #[.int .i64 0, .slice none 0 0, .int .u64 0], .int .i64 0, .int .i64 0, .bool false], []⟩ 8 (by kernel_rfl) (by kernel_rfl) (by kernel_rfl) (by kernel_rfl)) ?_
  intro W base args ds gs before hval0 hW _ _
  have hval : ∀ (j : Nat) t v, Try.f6.params[j]? = some t → args[j]? = some v → Value.okWide Try.prog W .any base t v := hval0
  have hW' := hW
  obtain ⟨p, q, hA0, hV, rfl, _, _⟩ := hW
  have hA : DataW.TrodAll enc Try.prog W 0 (fun _ => true) true Try.f6.params.toList args.toList ds p := hA0
  rw [Try.params6] at hA hval
  obtain ⟨rfl, rfl⟩ := trodVars_none hV
  have hAk := hA
  obtain ⟨v0, v1, v2, v3, d0, d1, d2, d3, p0, p1, p2, p3, rfl, rfl, hp, h0, h1, h2, h3⟩ := trodAll_four hA
  have hlt : ∀ x ∈ p, x.block < W.heap.size := fun x hx => hW'.lt x (by simpa using hx)
  obtain ⟨N0, A0, u0, c0, F0, L0, rfl, hM0⟩ := open_bits (hval 0 25 v0 rfl rfl) h0
  obtain ⟨n1, rfl, rfl, _, wn1⟩ := open_int Try.underlying3 (hval 1 3 v1 rfl rfl) h1
  have hi1 := i64_bounds wn1
  obtain ⟨n2, rfl, rfl, _, wn2⟩ := open_int Try.underlying3 (hval 2 3 v2 rfl rfl) h2
  have hi2 := i64_bounds wn2
  obtain ⟨b3, rfl, rfl, _⟩ := open_bool Try.underlying4 (hval 3 4 v3 rfl rfl) h3
  clear hA0 hval0
  refine (takes_any N0 A0 u0 c0 F0 L0 n1 n2 b3 W hM0 hi2.2).mono fun e W' ⟨he, hn⟩ => ?_
  subst he
  refine ⟨_, rfl, ?_⟩
  refine ⟨_, _, _, [], p, [], hW', ?_, trodAll_below_ Try.laidOut hn _ hAk (all_readable (by kernel_rfl)) hlt, rfl, hn.frame _, fun h => by cases h⟩
  exact trodAll_mk1 (shut_bool Try.underlying4 true)

/-- BitmapTakes, for every input. -/
theorem takes_holds : Rows.BitmapTakesSaid :=
  OpenClaim.holds_of_wide 6 Try.f6 rfl rfl rfl rfl rfl rfl rfl ⟨rfl, rfl, rfl, rfl, rfl⟩ rfl rfl rfl rfl rfl (by kernel_rfl) Try.func6 (by kernel_rfl)
    (of_decide_eq_true (by kernel_rfl)) (by unfold Func.isWrapper; rw [if_neg (of_decide_eq_false (by kernel_rfl))]; exact ⟨rfl, rfl⟩)
    (fun os started H enc _ => takes_lifted os started H enc)
#print axioms takes_holds
end Go.Proofs.Ythknelpcdoebiaa
