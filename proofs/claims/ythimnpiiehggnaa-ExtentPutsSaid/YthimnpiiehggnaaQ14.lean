/- Texts of this seat, one behind the other: EStates, ERefP. -/
import Derived.Deep.RegionHeld3
import Derived.Test.YthimnpiiehggnaaQ11
import Derived.Test.YthimnpiiehggnaaQ13
/- The reference's states. -/
namespace Go.Proofs.Ythimnpiiehggnaa
open Go.RowKit

theorem euat {l : List Int} (k : Nat) (h : k < l.length) : l.drop k = l.getD k 0 :: l.drop (k + 1) := by
  rw [List.drop_eq_getElem_cons h]
  simp [List.getD, h]
theorem epl_more (b : Int) (p : List Int) (L : List Rn) (k : Nat) (h : k < L.length) : epl b p (L.take (k + 1)) = emore (emore (epl b p (L.take k)) (L.getD k default).f b) ((L.getD k default).f + (L.getD k default).n) b := by
  have e : L.take (k + 1) = L.take k ++ [L.getD k default] := by
    rw [← List.take_append_getElem h]
    simp [List.getD, h]
  unfold epl
  rw [e, List.foldl_append]
  rfl
theorem UR.drew {w : World} {A : Option Addr} {l : List Int} (h : UR w A l) : UR w.drew A l := h
theorem own_one {w : World} (x : Int) : UR (w.alloc (.cells #[.int .u64 x] 23)) (some ⟨w.heap.size, 0, none⟩) [x] := fun j hj => by
  obtain rfl : j = 0 := by simpa using hj
  exact ⟨w.heap.size, 0, rfl, (Blk.new w 23 #[.int .u64 x]).cell 0⟩
/-- A row of numbers told. -/
def EUOut (w : World) (l : List Int) (e : Ending) (w' : World) : Prop := ∃ A' c', e = .returned (.slice A' l.length c') ∧ UR w' A' l ∧ Below w.heap.size w w'
theorem emore_out (A : Option Addr) (c : Nat) (l : List Int) (n most : Int) (w : World) (hA : UR w A l) (hN : l.length ≤ 1024) :
    Calls Try.prog 46 #[.slice A l.length c, .int .u64 n, .int .u64 most] w (EUOut w (emore l n most)) := emore_any A l.length c l n most w hA rfl hN

set_option maxRecDepth 100000 in
set_option maxHeartbeats 8000000 in
theorem estates_any (A : Option Addr) (N c : Nat) (L : List Rn) (f n s a b : Int) (w : World) (hA : ER w A L) (hl : L.length = N) (hN : N ≤ 64) (hok : ∀ r ∈ L, 0 ≤ r.f ∧ 1 ≤ r.n ∧ r.f + r.n ≤ 576460752303423488) (f0 : 0 ≤ f) (n0 : 0 ≤ n) (fn : f + n ≤ 18446744073709551615) (a0 : 0 ≤ a) (ab : a < b) (b1 : b ≤ 576460752303423488) :
    Calls Try.prog 34 #[.slice A N c, .agg #[.int .u64 f, .int .u64 n], .int .i64 s, .int .u64 a, .int .u64 b] w (EROut w (estates L f n s a b)) := by
  have HA := Lib.hid hA
  have HL := Lib.hid hl
  have HOK : Hid (∀ k, k < N → 0 ≤ (L.getD k default).f ∧ 1 ≤ (L.getD k default).n ∧ (L.getD k default).f + (L.getD k default).n ≤ 576460752303423488) := Lib.hid fun k hk => hok _ (egetD_mem (by omega))
  have HNW : Hid (∀ x W, 0 ≤ x → x ≤ 18446744073709551615 → Below w.heap.size w W → Calls Try.prog 48 #[.slice A N c, .agg #[.int .u64 f, .int .u64 n], .int .i64 s, .int .u64 x] W fun e w' => e = .returned (.int .i64 (enew L f n s x)) ∧ Below W.heap.size W w') := Lib.hid fun x W h1 h2 hb => ernew_any A N c L f n s x W (hA.later hb) hl (by omega) (fun r hr => by have := hok r hr; exact ⟨this.1, by omega, by omega, by omega⟩) f0 (by omega) h1 h2
  obtain ⟨p0, HP0⟩ : ∃ p0, Hid (p0 = emore (emore [a] f b) (f + n) b) := ⟨_, Lib.hid rfl⟩
  have HP1 : Hid ((emore [a] f b).length ≤ 2) := Lib.hid (by have := emore_len (one_rise a) f b; simpa using this)
  have HPR : Hid (∀ k, (epl b p0 (L.take k)).Pairwise (· < ·) ∧ (epl b p0 (L.take k)).length ≤ 131) := Lib.hid fun k => by
    have hr : p0.Pairwise (· < ·) := by rw [HP0.out]; exact emore_rise (emore_rise (one_rise a) _ _) _ _
    refine ⟨epl_rise b _ _ hr, ?_⟩
    have h1 := epl_len b (L.take k) p0 hr
    have h2 := emore_len (emore_rise (one_rise a) f b) (f + n) b
    rw [← HP0.out] at h2
    have h3 := HP1.out
    have h4 : (L.take k).length ≤ 64 := by rw [List.length_take]; omega
    omega
  have HPA : Hid (eplaces L f n a b = epl b p0 (L.take N)) := Lib.hid (by rw [← hl, List.take_length, HP0.out]; rfl)
  have HPM : Hid (∀ k, k < N → epl b p0 (L.take (k + 1)) = emore (emore (epl b p0 (L.take k)) (L.getD k default).f b) ((L.getD k default).f + (L.getD k default).n) b) := Lib.hid fun k hk => epl_more b p0 L k (by omega)
  have HPM1 : Hid (∀ k, k < N → (emore (epl b p0 (L.take k)) (L.getD k default).f b).length ≤ 132) := Lib.hid fun k hk => by
    have h1 := emore_len (HPR.out k).1 (L.getD k default).f b
    have h2 := (HPR.out k).2
    omega
  have HNX : Hid (ENext (enew L f n s) a b [] (eplaces L f n a b)) := Lib.hid (eplaces_next L f n s a b ab)
  have HST : Hid (estates L f n s a b = estep (enew L f n s) a b [] (eplaces L f n a b)) := Lib.hid rfl
  obtain ⟨R, HR⟩ : ∃ R, Hid (estates L f n s a b = R) := ⟨_, Lib.hid rfl⟩
  rw [HR.out] at HST ⊢
  clear hA hl hok HR
  go_enter Try.func34, Try.ntmps34
  go_wp2_with fail
  -- REGION 2
  have HB0 : Hid (Below w.heap.size w ((w.alloc (.cells #[.int .u64 f, .int .u64 n] 37)).alloc (.cells #[.int .u64 a] 23))) := Lib.hid (ba (ba (Below.refl _ _) _) _)
  have HK0 : Hid (Blk ((w.alloc (.cells #[.int .u64 f, .int .u64 n] 37)).alloc (.cells #[.int .u64 a] 23)) w.heap.size 37 #[.int .u64 f, .int .u64 n]) := Lib.hid ((Blk.new _ _ _).alloc _)
  have HU0 : Hid (UR ((w.alloc (.cells #[.int .u64 f, .int .u64 n] 37)).alloc (.cells #[.int .u64 a] 23)) (some ⟨w.heap.size + 1, 0, none⟩) [a]) := Lib.hid (by
    have h9 := own_one (w := w.alloc (.cells #[.int .u64 f, .int .u64 n] 37)) a
    rwa [World.size_alloc] at h9)
  have a0 : ((w.alloc (.cells #[.int .u64 f, .int .u64 n] 37)).alloc (.cells #[.int .u64 a] 23)).cell? ⟨w.heap.size, 0, none⟩ = some (.int .u64 f) := HK0.out.cell 0
  have a1 : ((w.alloc (.cells #[.int .u64 f, .int .u64 n] 37)).alloc (.cells #[.int .u64 a] 23)).cell? ⟨w.heap.size, 1, none⟩ = some (.int .u64 n) := HK0.out.cell 1
  generalize ((w.alloc (.cells #[.int .u64 f, .int .u64 n] 37)).alloc (.cells #[.int .u64 a] 23)) = W0 at HB0 HK0 HU0 a0 a1 ⊢
  have hwr : IntKind.u64.wrap (f + n) = f + n := by rw [IntKind.wrap_u64]; omega
  obtain ⟨l1, HL1⟩ : ∃ l1, Hid (emore [a] f b = l1) := ⟨_, Lib.hid rfl⟩
  obtain ⟨l2, HL2⟩ : ∃ l2, Hid (emore l1 (f + n) b = l2) := ⟨_, Lib.hid rfl⟩
  have HC1 : Hid (∀ W, UR W (some ⟨w.heap.size + 1, 0, none⟩) [a] → Calls Try.prog 46 #[.slice (some ⟨w.heap.size + 1, 0, none⟩) 1 1, .int .u64 f, .int .u64 b] W fun e w' => ∃ A' c', e = .returned (.slice A' l1.length c') ∧ UR w' A' l1 ∧ Below W.heap.size W w') := Lib.hid fun W hW => by
    rw [← HL1.out]
    exact emore_any (some ⟨w.heap.size + 1, 0, none⟩) 1 1 [a] f b W hW rfl (by omega)
  have HC2 : Hid (∀ A c W, UR W A l1 → Calls Try.prog 46 #[.slice A l1.length c, .int .u64 (f + n), .int .u64 b] W fun e w' => ∃ A' c', e = .returned (.slice A' l2.length c') ∧ UR w' A' l2 ∧ Below W.heap.size W w') := Lib.hid fun A c W hW => by
    rw [← HL2.out]
    exact emore_any A l1.length c l1 (f + n) b W hW rfl (by rw [← HL1.out]; exact (by have := HP1.out; omega))
  refine wp_region_held_drew (S := fun Wq => Wq.cell? ⟨w.heap.size, 0, none⟩ = some (.int .u64 f) ∧ Wq.cell? ⟨w.heap.size, 1, none⟩ = some (.int .u64 n) ∧ Below W0.heap.size W0 Wq) (by kernel_rfl) ⟨a0, a1, (Below.refl _ _).drew⟩ (fun hHeld => ?_)
  refine wpAnyH_take (i := 0) (oi := ⟨some 20, _, _, _, _, _⟩) (v := ?_) rfl (by kernel_rfl) (by kernel_rfl) (by kernel_rfl) (fun _ _ _ h => h) (Or.inl ⟨by rfl, ?_⟩) (by assumption) ?_
  rotate_left
  · (intro w9 hSw; (try dsimp only at hSw); go_simp; try with_reducible rfl)
  try simp only [Act.put, List.setIfInBounds_toArray, List.set_cons_zero, List.set_cons_succ]
  refine wpAnyH_take (i := 1) (oi := ⟨some 21, _, _, _, _, _⟩) (v := ?_) rfl (by kernel_rfl) (by kernel_rfl) (by kernel_rfl) (fun _ _ _ h => h) (Or.inl ⟨by rfl, ?_⟩) (by assumption) ?_
  rotate_left
  · (intro w9 hSw; (try dsimp only at hSw); go_simp; try with_reducible rfl)
  try simp only [Act.put, List.setIfInBounds_toArray, List.set_cons_zero, List.set_cons_succ]
  refine wpAnyH_take (i := 2) (oi := ⟨some 22, _, _, _, _, _⟩) (v := .int .u64 f) rfl (by kernel_rfl) (by kernel_rfl) (by kernel_rfl) (fun _ _ _ h => h) (Or.inl ⟨by rfl, ?_⟩) (by assumption) ?_
  · (intro w9 hSw; obtain ⟨q0, q1, _⟩ := hSw; (try dsimp only at hSw); go_simp; try with_reducible rfl)
  try simp only [Act.put, List.setIfInBounds_toArray, List.set_cons_zero, List.set_cons_succ]
  refine wpAnyH_take (i := 3) (oi := ⟨some 23, _, _, _, _, _⟩) (v := ?_) rfl (by kernel_rfl) (by kernel_rfl) (by kernel_rfl) (fun _ _ _ h => h) (Or.inl ⟨by rfl, ?_⟩) (by assumption) ?_
  rotate_left
  · (intro w9 hSw; (try dsimp only at hSw); go_simp; try with_reducible rfl)
  try simp only [Act.put, List.setIfInBounds_toArray, List.set_cons_zero, List.set_cons_succ]
  refine wpAnyH_take (i := 5) (oi := ⟨some 25, _, _, _, _, _⟩) (v := ?_) rfl (by kernel_rfl) (by kernel_rfl) (by kernel_rfl) (fun _ _ _ h => h) (Or.inl ⟨by rfl, ?_⟩) (by assumption) ?_
  rotate_left
  · (intro w9 hSw; (try dsimp only at hSw); go_simp; try with_reducible rfl)
  try simp only [Act.put, List.setIfInBounds_toArray, List.set_cons_zero, List.set_cons_succ]
  refine wpAnyH_take (i := 6) (oi := ⟨some 26, _, _, _, _, _⟩) (v := .int .u64 f) rfl (by kernel_rfl) (by kernel_rfl) (by kernel_rfl) (fun _ _ _ h => h) (Or.inl ⟨by rfl, ?_⟩) (by assumption) ?_
  · (intro w9 hSw; obtain ⟨q0, q1, _⟩ := hSw; (try dsimp only at hSw); go_simp; try with_reducible rfl)
  try simp only [Act.put, List.setIfInBounds_toArray, List.set_cons_zero, List.set_cons_succ]
  refine wpAnyH_take (i := 7) (oi := ⟨some 27, _, _, _, _, _⟩) (v := ?_) rfl (by kernel_rfl) (by kernel_rfl) (by kernel_rfl) (fun _ _ _ h => h) (Or.inl ⟨by rfl, ?_⟩) (by assumption) ?_
  rotate_left
  · (intro w9 hSw; (try dsimp only at hSw); go_simp; try with_reducible rfl)
  try simp only [Act.put, List.setIfInBounds_toArray, List.set_cons_zero, List.set_cons_succ]
  refine wpAnyH_take (i := 8) (oi := ⟨some 28, _, _, _, _, _⟩) (v := .int .u64 n) rfl (by kernel_rfl) (by kernel_rfl) (by kernel_rfl) (fun _ _ _ h => h) (Or.inl ⟨by rfl, ?_⟩) (by assumption) ?_
  · (intro w9 hSw; obtain ⟨q0, q1, _⟩ := hSw; (try dsimp only at hSw); go_simp; try with_reducible rfl)
  try simp only [Act.put, List.setIfInBounds_toArray, List.set_cons_zero, List.set_cons_succ]
  refine wpAnyH_take (i := 9) (oi := ⟨some 29, _, _, _, _, _⟩) (v := .int .u64 (f + n)) rfl (by kernel_rfl) (by kernel_rfl) (by kernel_rfl) (fun _ _ _ h => h) (Or.inl ⟨by rfl, ?_⟩) (by assumption) ?_
  · (intro w9 hSw; (try dsimp only at hSw); go_simp; try with_reducible rfl)
  try simp only [Act.put, List.setIfInBounds_toArray, List.set_cons_zero, List.set_cons_succ]
  refine wpAnyH_take (i := 10) (oi := ⟨some 30, _, _, _, _, _⟩) (v := ?_) rfl (by kernel_rfl) (by kernel_rfl) (by kernel_rfl) (fun _ _ _ h => h) (Or.inl ⟨by rfl, ?_⟩) (by assumption) ?_
  rotate_left
  · (intro w9 hSw; (try dsimp only at hSw); go_simp; try with_reducible rfl)
  try simp only [Act.put, List.setIfInBounds_toArray, List.set_cons_zero, List.set_cons_succ]
  refine wpAnyH_ready (rs := [4]) (by kernel_rfl) (by simp) ?_
  refine AllReadyH.cons (o := ⟨some 24, _, _, _, _, _⟩) rfl (fun K9 hK9 => ?_) AllReadyH.nil
  go_simp; go_at_call 46
  refine (HC1.out _ (HU0.out.drew)).mono ?_
  rintro e u1 ⟨A5, c5, rfl, hr5, hb5⟩
  have hS1 : u1.cell? ⟨w.heap.size, 0, none⟩ = some (.int .u64 f) ∧ u1.cell? ⟨w.heap.size, 1, none⟩ = some (.int .u64 n) ∧ Below W0.heap.size W0 u1 := ⟨ecell hb5 a0, ecell hb5 a1, bt ((Below.refl _ _).drew) hb5⟩
  refine hK9.out _ _ ?_ (fun hHeld => ?_)
  · exact hS1
  clear hK9 K9
  try simp only [Act.put, List.setIfInBounds_toArray, List.set_cons_zero, List.set_cons_succ]
  refine wpAnyH_ready (rs := [11]) (by kernel_rfl) (by simp) ?_
  refine AllReadyH.cons (o := ⟨some 31, _, _, _, _, _⟩) rfl (fun K9 hK9 => ?_) AllReadyH.nil
  go_simp; go_at_call 46
  obtain ⟨s0, s1, sb⟩ := hS1
  refine (HC2.out A5 c5 _ hr5).mono ?_
  rintro e u2 ⟨A6, c6, rfl, hr6, hb6⟩
  have hS2 : u2.cell? ⟨w.heap.size, 0, none⟩ = some (.int .u64 f) ∧ u2.cell? ⟨w.heap.size, 1, none⟩ = some (.int .u64 n) ∧ Below W0.heap.size W0 u2 := ⟨ecell hb6 s0, ecell hb6 s1, bt sb hb6⟩
  refine hK9.out _ _ ?_ (fun hHeld => ?_)
  · exact hS2
  clear hK9 K9
  try simp only [Act.put, List.setIfInBounds_toArray, List.set_cons_zero, List.set_cons_succ]
  refine wpAnyH_take (i := 12) (oi := ⟨some 11, _, _, _, _, _⟩) (v := ?_) rfl (by kernel_rfl) (by kernel_rfl) (by kernel_rfl) (fun _ _ _ h => h) (Or.inl ⟨by rfl, ?_⟩) (by assumption) ?_
  rotate_left
  · (intro w9 hSw; (try dsimp only at hSw); go_simp; try with_reducible rfl)
  try simp only [Act.put, List.setIfInBounds_toArray, List.set_cons_zero, List.set_cons_succ]
  refine wpAnyH_done (by kernel_rfl) ?_ _
  obtain ⟨_, _, hbx⟩ := hS2
  have HB2 := Lib.hid (bt HB0.out hbx)
  have HK2 := Lib.hid (HK0.out.below hbx)
  have HLP : Hid (l2 = p0) := Lib.hid (by rw [← HL2.out, ← HL1.out, HP0.out])
  have HU2 : Hid (UR u2 A6 l2) := Lib.hid hr6
  clear hbx hb6 hb5 hr5 hr6 hHeld a0 a1 HB0 HK0 HU0
  go_wp2_with fail
  go_loopw [11, 34] (fun pv iv wr => ∃ (k : Nat) (A2 : Option Addr) (c2 : Nat) (l : List Int), k ≤ N ∧ iv = .int .i64 k ∧ pv = .slice A2 l.length c2 ∧ Hid (l = epl b p0 (L.take k)) ∧ Hid (UR wr A2 l) ∧ Hid (Blk wr w.heap.size 37 #[.int .u64 f, .int .u64 n]) ∧ Hid (Below w.heap.size w wr)) (fun _ i _ => N - (intOf i).toNat)
  case atStart => exact ⟨0, A6, c6, l2, Nat.zero_le _, rfl, rfl, Lib.hid (by rw [HLP.out]; rfl), HU2, HK2, HB2⟩
  case round =>
    obtain ⟨k, A2, c2, l, hk, rfl, rfl, HPL, HU, HK, HB⟩ := hrel
    by_cases hlt : k < N
    · obtain ⟨g, off, rfl, d0, d1, d2⟩ := (HA.out.later HB.out) k (by rw [HL.out]; exact hlt)
      have HX := Lib.hid (HOK.out k hlt)
      have HM := Lib.hid (HPM.out k hlt)
      have HM1 := Lib.hid (HPM1.out k hlt)
      have HLL : Hid (l.length ≤ 1024) := Lib.hid (by have := (HPR.out k).2; rw [← HPL.out] at this; omega)
      rw [← HPL.out] at HM HM1
      have i1 : (0 : Int) ≤ (k : Int) := by omega
      have i2 : (k : Int) < (N : Int) := by omega
      generalize L.getD k default = x at d0 d1 d2 HX HM HM1
      obtain ⟨xf, xn, xs⟩ := x
      simp only at d0 d1 d2 HX HM HM1
      have hx9 := HX.out
      go_wp2_with fail
      rename World => wq
      have HBx : Hid (Below w.heap.size w (wq.alloc (.cells #[.int .u64 xf, .int .u64 xn, .int .i64 xs] 47))) := Lib.hid (ba HB.out _)
      have HKx := Lib.hid (HK.out.alloc (.cells #[.int .u64 xf, .int .u64 xn, .int .i64 xs] 47))
      have HUx : Hid (UR (wq.alloc (.cells #[.int .u64 xf, .int .u64 xn, .int .i64 xs] 47)) A2 l) := Lib.hid (HU.out.later (ba (Below.refl _ _) _))
      have a0 : (wq.alloc (.cells #[.int .u64 xf, .int .u64 xn, .int .i64 xs] 47)).cell? ⟨wq.heap.size, 0, none⟩ = some (.int .u64 xf) := (Blk.new wq 47 #[.int .u64 xf, .int .u64 xn, .int .i64 xs]).cell 0
      have a1 : (wq.alloc (.cells #[.int .u64 xf, .int .u64 xn, .int .i64 xs] 47)).cell? ⟨wq.heap.size, 1, none⟩ = some (.int .u64 xn) := (Blk.new wq 47 #[.int .u64 xf, .int .u64 xn, .int .i64 xs]).cell 1
      generalize (wq.alloc (.cells #[.int .u64 xf, .int .u64 xn, .int .i64 xs] 47)) = Wx at HBx HKx HUx a0 a1 ⊢
      clear d0 d1 d2
      have hwr : IntKind.u64.wrap (xf + xn) = xf + xn := by rw [IntKind.wrap_u64]; omega
      obtain ⟨l1, HL1⟩ : ∃ l1, Hid (emore l xf b = l1) := ⟨_, Lib.hid rfl⟩
      obtain ⟨l2, HL2⟩ : ∃ l2, Hid (emore l1 (xf + xn) b = l2) := ⟨_, Lib.hid rfl⟩
      have HC1 : Hid (∀ W, UR W A2 l → Calls Try.prog 46 #[.slice A2 l.length c2, .int .u64 xf, .int .u64 b] W fun e w' => ∃ A' c', e = .returned (.slice A' l1.length c') ∧ UR w' A' l1 ∧ Below W.heap.size W w') := Lib.hid fun W hW => by
        rw [← HL1.out]
        exact emore_any A2 l.length c2 l xf b W hW rfl HLL.out
      have HC2 : Hid (∀ A c W, UR W A l1 → Calls Try.prog 46 #[.slice A l1.length c, .int .u64 (xf + xn), .int .u64 b] W fun e w' => ∃ A' c', e = .returned (.slice A' l2.length c') ∧ UR w' A' l2 ∧ Below W.heap.size W w') := Lib.hid fun A c W hW => by
        rw [← HL2.out]
        exact emore_any A l1.length c l1 (xf + xn) b W hW rfl (by rw [← HL1.out]; exact (by have := HM1.out; omega))
      refine wp_region_held_drew (S := fun Wq => Wq.cell? ⟨wq.heap.size, 0, none⟩ = some (.int .u64 xf) ∧ Wq.cell? ⟨wq.heap.size, 1, none⟩ = some (.int .u64 xn) ∧ Below Wx.heap.size Wx Wq) (by kernel_rfl) ⟨a0, a1, (Below.refl _ _).drew⟩ (fun hHeld => ?_)
      refine wpAnyH_take (i := 0) (oi := ⟨some 38, _, _, _, _, _⟩) (v := ?_) rfl (by kernel_rfl) (by kernel_rfl) (by kernel_rfl) (fun _ _ _ h => h) (Or.inl ⟨by rfl, ?_⟩) (by assumption) ?_
      rotate_left
      · (intro w9 hSw; (try dsimp only at hSw); go_simp; try with_reducible rfl)
      try simp only [Act.put, List.setIfInBounds_toArray, List.set_cons_zero, List.set_cons_succ]
      refine wpAnyH_take (i := 1) (oi := ⟨some 39, _, _, _, _, _⟩) (v := ?_) rfl (by kernel_rfl) (by kernel_rfl) (by kernel_rfl) (fun _ _ _ h => h) (Or.inl ⟨by rfl, ?_⟩) (by assumption) ?_
      rotate_left
      · (intro w9 hSw; (try dsimp only at hSw); go_simp; try with_reducible rfl)
      try simp only [Act.put, List.setIfInBounds_toArray, List.set_cons_zero, List.set_cons_succ]
      refine wpAnyH_take (i := 2) (oi := ⟨some 40, _, _, _, _, _⟩) (v := .int .u64 xf) rfl (by kernel_rfl) (by kernel_rfl) (by kernel_rfl) (fun _ _ _ h => h) (Or.inl ⟨by rfl, ?_⟩) (by assumption) ?_
      · (intro w9 hSw; obtain ⟨q0, q1, _⟩ := hSw; (try dsimp only at hSw); go_simp; try with_reducible rfl)
      try simp only [Act.put, List.setIfInBounds_toArray, List.set_cons_zero, List.set_cons_succ]
      refine wpAnyH_take (i := 3) (oi := ⟨some 41, _, _, _, _, _⟩) (v := ?_) rfl (by kernel_rfl) (by kernel_rfl) (by kernel_rfl) (fun _ _ _ h => h) (Or.inl ⟨by rfl, ?_⟩) (by assumption) ?_
      rotate_left
      · (intro w9 hSw; (try dsimp only at hSw); go_simp; try with_reducible rfl)
      try simp only [Act.put, List.setIfInBounds_toArray, List.set_cons_zero, List.set_cons_succ]
      refine wpAnyH_take (i := 5) (oi := ⟨some 43, _, _, _, _, _⟩) (v := ?_) rfl (by kernel_rfl) (by kernel_rfl) (by kernel_rfl) (fun _ _ _ h => h) (Or.inl ⟨by rfl, ?_⟩) (by assumption) ?_
      rotate_left
      · (intro w9 hSw; (try dsimp only at hSw); go_simp; try with_reducible rfl)
      try simp only [Act.put, List.setIfInBounds_toArray, List.set_cons_zero, List.set_cons_succ]
      refine wpAnyH_take (i := 6) (oi := ⟨some 44, _, _, _, _, _⟩) (v := .int .u64 xf) rfl (by kernel_rfl) (by kernel_rfl) (by kernel_rfl) (fun _ _ _ h => h) (Or.inl ⟨by rfl, ?_⟩) (by assumption) ?_
      · (intro w9 hSw; obtain ⟨q0, q1, _⟩ := hSw; (try dsimp only at hSw); go_simp; try with_reducible rfl)
      try simp only [Act.put, List.setIfInBounds_toArray, List.set_cons_zero, List.set_cons_succ]
      refine wpAnyH_take (i := 7) (oi := ⟨some 45, _, _, _, _, _⟩) (v := ?_) rfl (by kernel_rfl) (by kernel_rfl) (by kernel_rfl) (fun _ _ _ h => h) (Or.inl ⟨by rfl, ?_⟩) (by assumption) ?_
      rotate_left
      · (intro w9 hSw; (try dsimp only at hSw); go_simp; try with_reducible rfl)
      try simp only [Act.put, List.setIfInBounds_toArray, List.set_cons_zero, List.set_cons_succ]
      refine wpAnyH_take (i := 8) (oi := ⟨some 46, _, _, _, _, _⟩) (v := .int .u64 xn) rfl (by kernel_rfl) (by kernel_rfl) (by kernel_rfl) (fun _ _ _ h => h) (Or.inl ⟨by rfl, ?_⟩) (by assumption) ?_
      · (intro w9 hSw; obtain ⟨q0, q1, _⟩ := hSw; (try dsimp only at hSw); go_simp; try with_reducible rfl)
      try simp only [Act.put, List.setIfInBounds_toArray, List.set_cons_zero, List.set_cons_succ]
      refine wpAnyH_take (i := 9) (oi := ⟨some 47, _, _, _, _, _⟩) (v := .int .u64 (xf + xn)) rfl (by kernel_rfl) (by kernel_rfl) (by kernel_rfl) (fun _ _ _ h => h) (Or.inl ⟨by rfl, ?_⟩) (by assumption) ?_
      · (intro w9 hSw; (try dsimp only at hSw); go_simp; try with_reducible rfl)
      try simp only [Act.put, List.setIfInBounds_toArray, List.set_cons_zero, List.set_cons_succ]
      refine wpAnyH_take (i := 10) (oi := ⟨some 48, _, _, _, _, _⟩) (v := ?_) rfl (by kernel_rfl) (by kernel_rfl) (by kernel_rfl) (fun _ _ _ h => h) (Or.inl ⟨by rfl, ?_⟩) (by assumption) ?_
      rotate_left
      · (intro w9 hSw; (try dsimp only at hSw); go_simp; try with_reducible rfl)
      try simp only [Act.put, List.setIfInBounds_toArray, List.set_cons_zero, List.set_cons_succ]
      refine wpAnyH_ready (rs := [4]) (by kernel_rfl) (by simp) ?_
      refine AllReadyH.cons (o := ⟨some 42, _, _, _, _, _⟩) rfl (fun K9 hK9 => ?_) AllReadyH.nil
      go_simp; go_at_call 46
      refine (HC1.out _ (HUx.out.drew)).mono ?_
      rintro e u1 ⟨A5, c5, rfl, hr5, hb5⟩
      have hS1 : u1.cell? ⟨wq.heap.size, 0, none⟩ = some (.int .u64 xf) ∧ u1.cell? ⟨wq.heap.size, 1, none⟩ = some (.int .u64 xn) ∧ Below Wx.heap.size Wx u1 := ⟨ecell hb5 a0, ecell hb5 a1, bt ((Below.refl _ _).drew) hb5⟩
      refine hK9.out _ _ ?_ (fun hHeld => ?_)
      · exact hS1
      clear hK9 K9
      try simp only [Act.put, List.setIfInBounds_toArray, List.set_cons_zero, List.set_cons_succ]
      refine wpAnyH_ready (rs := [11]) (by kernel_rfl) (by simp) ?_
      refine AllReadyH.cons (o := ⟨some 49, _, _, _, _, _⟩) rfl (fun K9 hK9 => ?_) AllReadyH.nil
      go_simp; go_at_call 46
      obtain ⟨s0, s1, sb⟩ := hS1
      refine (HC2.out A5 c5 _ hr5).mono ?_
      rintro e u2 ⟨A6, c6, rfl, hr6, hb6⟩
      have hS2 : u2.cell? ⟨wq.heap.size, 0, none⟩ = some (.int .u64 xf) ∧ u2.cell? ⟨wq.heap.size, 1, none⟩ = some (.int .u64 xn) ∧ Below Wx.heap.size Wx u2 := ⟨ecell hb6 s0, ecell hb6 s1, bt sb hb6⟩
      refine hK9.out _ _ ?_ (fun hHeld => ?_)
      · exact hS2
      clear hK9 K9
      try simp only [Act.put, List.setIfInBounds_toArray, List.set_cons_zero, List.set_cons_succ]
      refine wpAnyH_take (i := 12) (oi := ⟨some 11, _, _, _, _, _⟩) (v := ?_) rfl (by kernel_rfl) (by kernel_rfl) (by kernel_rfl) (fun _ _ _ h => h) (Or.inl ⟨by rfl, ?_⟩) (by assumption) ?_
      rotate_left
      · (intro w9 hSw; (try dsimp only at hSw); go_simp; try with_reducible rfl)
      try simp only [Act.put, List.setIfInBounds_toArray, List.set_cons_zero, List.set_cons_succ]
      refine wpAnyH_done (by kernel_rfl) ?_ _
      obtain ⟨_, _, hbx⟩ := hS2
      have HB6 := Lib.hid (bt HBx.out hbx)
      have HK6 := Lib.hid (HKx.out.below hbx)
      have HLP : Hid (l2 = epl b p0 (L.take (k + 1))) := Lib.hid (by rw [← HL2.out, ← HL1.out, HM.out])
      have HU6 : Hid (UR u2 A6 l2) := Lib.hid hr6
      clear hbx hb6 hb5 hr5 hr6 hHeld a0 a1
      go_wp2
      exact ⟨⟨k + 1, A6, c6, l2, by omega, by go_num, rfl, HLP, HU6, HK6, HB6⟩, by simp [intOf]; omega⟩
    · obtain rfl : k = N := by omega
      rw [← HPL.out] at HPA
      have hpl : l.length ≤ 131 := by have := (HPR.out k).2; rw [← HPL.out] at this; exact this
      rw [HPA.out] at HNX HST
      go_wp2_with fail
      rename World => wq
      have HB3 : Hid (Below w.heap.size w (wq.alloc (.cells #[] 47))) := Lib.hid (ba HB.out _)
      have HK3 := Lib.hid (HK.out.alloc (.cells #[] 47))
      have HU3 : Hid (UR (wq.alloc (.cells #[] 47)) A2 l) := Lib.hid (HU.out.later (ba (Below.refl _ _) _))
      go_loopw [14, 54] (fun ov iv wr => ∃ (k : Nat) (A3 : Option Addr) (c3 : Nat) (out : List Rn), k ≤ l.length ∧ iv = .int .i64 k ∧ ov = .slice A3 out.length c3 ∧ Hid (estep (enew L f n s) a b out (l.drop k) = R) ∧ Hid (ENext (enew L f n s) a b out (l.drop k)) ∧ Hid (out.length ≤ k) ∧ Hid (ER wr A3 out) ∧ Hid (∀ g off, out ≠ [] → A3 = some ⟨g, off, none⟩ → w.heap.size ≤ g) ∧ Hid (UR wr A2 l) ∧ Hid (Blk wr w.heap.size 37 #[.int .u64 f, .int .u64 n]) ∧ Hid (Below w.heap.size w wr)) (fun _ i _ => l.length - (intOf i).toNat)
      case atStart => exact ⟨0, _, 0, [], Nat.zero_le _, rfl, rfl, Lib.hid HST.out.symm, HNX, Lib.hid (Nat.zero_le _), Lib.hid (ER.nil _ _), Lib.hid (fun g off h => absurd rfl h), HU3, HK3, HB3⟩
      case round =>
        obtain ⟨q, A3, c3, out, hq, rfl, rfl, HE, HN, HOL, HO, HG, HUq, HKq, HBq⟩ := hrel
        by_cases hql : q < l.length
        · obtain ⟨g, off, rfl, d0⟩ := HUq.out q hql
          have HD := Lib.hid (euat q hql)
          have j1 : (0 : Int) ≤ (q : Int) := by omega
          have j2 : (q : Int) < (l.length : Int) := by omega
          have HD1 : Hid (q + 1 < l.length → l.drop (q + 1) = l.getD (q + 1) 0 :: l.drop (q + 1 + 1)) := Lib.hid (fun h => euat (q + 1) h)
          have HD2 : Hid (¬ q + 1 < l.length → l.drop (q + 1) = []) := Lib.hid (fun h => List.drop_of_length_le (by omega))
          rw [HD.out] at HE HN
          have HS1 := Lib.hid HN.out.step
          have HE1 : Hid (estep (enew L f n s) a b (if l.getD q 0 < a then out else ewith out (l.getD q 0) ((l.drop (q + 1)).headD b) (enew L f n s (l.getD q 0))) (l.drop (q + 1)) = R) := Lib.hid HE.out
          obtain ⟨hr1, hr2, hr3⟩ := HN.out.pre
          have HPRE := Lib.hid hr1
          generalize l.getD q 0 = x at d0 HS1 HE1 hr2 HPRE
          clear HE HN HD hr1
          by_cases hxa : x < a
          · rw [if_pos hxa] at HS1 HE1
            have e1 : decide (x < a) = true := by simpa using hxa
            go_wp2
            exact ⟨⟨q + 1, A3, c3, out, by omega, by go_num, rfl, HE1, HS1, Lib.hid (by have := HOL.out; omega), HO, HG, HUq, HKq, HBq⟩, by simp [intOf]; omega⟩
          · rw [if_neg hxa] at HS1 HE1
            have e1 : decide (x < a) = false := by simpa using hxa
            have hxa2 : a ≤ x := by omega
            have HLN : Hid ((ewith out x ((l.drop (q + 1)).headD b) (enew L f n s x)).length ≤ q + 1) := Lib.hid (by have := ewith_len out x ((l.drop (q + 1)).headD b) (enew L f n s x); have := HOL.out; omega)
            have f0' : w.heap.size < wr.heap.size := HKq.out.lt
            have s0 : wr.cell? ⟨w.heap.size, 0, none⟩ = some (.int .u64 f) := HKq.out.cell 0
            have s1 : wr.cell? ⟨w.heap.size, 1, none⟩ = some (.int .u64 n) := HKq.out.cell 1
            clear hxa
            by_cases hq1 : q + 1 < l.length
            · obtain ⟨g', off', e, d1⟩ := HUq.out (q + 1) hq1
              obtain ⟨rfl, rfl⟩ : g = g' ∧ off = off' := by injection e with e; injection e with e1 e2; exact ⟨e1, e2⟩
              have j3 : ((q : Int) + 1) < (l.length : Int) := by omega
              have j4 : IntKind.i64.wrap ((q : Int) + 1) = ((q + 1 : Nat) : Int) := by rw [IntKind.wrap_i64]; omega
              have j5 : IntKind.i64.wrap ((q : Int) + 1) = (q : Int) + 1 := by rw [IntKind.wrap_i64]; omega
              have j6 : (0 : Int) ≤ (q : Int) + 1 := by omega
              have d1' : wr.cell? ⟨g, off + (q + 1), none⟩ = some (.int .u64 (l.getD (q + 1) 0)) := d1
              have HHD : Hid ((l.drop (q + 1)).headD b = l.getD (q + 1) 0) := Lib.hid (by rw [HD1.out hq1]; rfl)
              rw [HHD.out] at HS1 HE1 hr2 hr3 HLN
              generalize l.getD (q + 1) 0 = y at d1 d1' HS1 HE1 hr2 hr3 HLN
              clear HHD HD1 HD2 e
              go_wp2_with fail
              refine (HNW.out x _ (by omega) (by omega) HBq.out).mono ?_
              rintro e u5 ⟨rfl, hb5⟩
              have HB5 := Lib.hid (bt HBq.out hb5)
              have HK5 := Lib.hid (HKq.out.below hb5)
              have HU5 := Lib.hid (HUq.out.later hb5)
              have HO5 := Lib.hid (HO.out.later hb5)
              have HLO : Hid (out.length ≤ 1024) := Lib.hid (by have := HOL.out; omega)
              clear hb5 s0 s1
              go_wp2_with fail
              refine (ewith_any A3 out.length c3 out x y (enew L f n s x) _ HO5.out rfl HLO.out (fun r hr => by have := HPRE.out r hr; omega) (by omega) (by omega) (by omega)).mono ?_
              rintro e u6 ⟨A7, c7, rfl, hr7, hb7, hg7⟩
              have HG7 : Hid (∀ g off, ewith out x y (enew L f n s x) ≠ [] → A7 = some ⟨g, off, none⟩ → w.heap.size ≤ g) := Lib.hid (fun g off h1 h2 => Nat.le_trans HB5.out.size (hg7 g off h1 h2))
              have HB7 := Lib.hid (bt HB5.out hb7)
              have HK7 := Lib.hid (HK5.out.below hb7)
              have HU7 := Lib.hid (HU5.out.later hb7)
              have HR7 := Lib.hid hr7
              clear hb7 hr7 hg7
              go_wp2
              exact ⟨⟨q + 1, A7, c7, _, by omega, by go_num, rfl, HE1, HS1, HLN, HR7, HG7, HU7, HK7, HB7⟩, by simp [intOf]; omega⟩
            · have j3 : decide (((q : Int) + 1) < (l.length : Int)) = false := by simp; omega
              have j4 : IntKind.i64.wrap ((q : Int) + 1) = (q : Int) + 1 := by rw [IntKind.wrap_i64]; omega
              have HHD : Hid ((l.drop (q + 1)).headD b = b) := Lib.hid (by rw [HD2.out hq1]; rfl)
              rw [HHD.out] at HS1 HE1 hr2 hr3 HLN
              clear HHD HD1 HD2 hq1
              go_wp2_with fail
              refine (HNW.out x _ (by omega) (by omega) HBq.out).mono ?_
              rintro e u5 ⟨rfl, hb5⟩
              have HB5 := Lib.hid (bt HBq.out hb5)
              have HK5 := Lib.hid (HKq.out.below hb5)
              have HU5 := Lib.hid (HUq.out.later hb5)
              have HO5 := Lib.hid (HO.out.later hb5)
              have HLO : Hid (out.length ≤ 1024) := Lib.hid (by have := HOL.out; omega)
              clear hb5 s0 s1
              go_wp2_with fail
              refine (ewith_any A3 out.length c3 out x b (enew L f n s x) _ HO5.out rfl HLO.out (fun r hr => by have := HPRE.out r hr; omega) (by omega) (by omega) (by omega)).mono ?_
              rintro e u6 ⟨A7, c7, rfl, hr7, hb7, hg7⟩
              have HG7 : Hid (∀ g off, ewith out x b (enew L f n s x) ≠ [] → A7 = some ⟨g, off, none⟩ → w.heap.size ≤ g) := Lib.hid (fun g off h1 h2 => Nat.le_trans HB5.out.size (hg7 g off h1 h2))
              have HB7 := Lib.hid (bt HB5.out hb7)
              have HK7 := Lib.hid (HK5.out.below hb7)
              have HU7 := Lib.hid (HU5.out.later hb7)
              have HR7 := Lib.hid hr7
              clear hb7 hr7 hg7
              go_wp2
              exact ⟨⟨q + 1, A7, c7, _, by omega, by go_num, rfl, HE1, HS1, HLN, HR7, HG7, HU7, HK7, HB7⟩, by simp [intOf]; omega⟩
        · obtain rfl : q = l.length := by omega
          have HRO : Hid (out = R) := Lib.hid (by have := HE.out; rw [List.drop_length] at this; exact this)
          go_wp2
          go_ret
          exact ⟨A3, c3, by rw [HRO.out]; rfl, by rw [← HRO.out]; exact HO.out, HBq.out, by rw [← HRO.out]; exact HG.out⟩
end Go.Proofs.Ythimnpiiehggnaa
/- The reference's Put and Query. -/
namespace Go.Proofs.Ythimnpiiehggnaa
open Go.RowKit

theorem estep_len (g : Int → Int) (a b : Int) (rest : List Int) : ∀ out, (estep g a b out rest).length ≤ out.length + rest.length := by
  induction rest with
  | nil => intro out; simp [estep]
  | cons p rest ih =>
    intro out
    unfold estep
    have h1 := ih (if p < a then out else ewith out p (rest.headD b) (g p))
    have h2 := ewith_len out p (rest.headD b) (g p)
    rw [List.length_cons]
    split at h1 <;> rename_i k
    · rw [if_pos k]; omega
    · rw [if_neg k]; omega
theorem estates_len (L : List Rn) (f n s a b : Int) : (estates L f n s a b).length ≤ 3 + 2 * L.length := by
  have h1 := estep_len (enew L f n s) a b (eplaces L f n a b) []
  have h2 := eplaces_len L f n a b
  unfold estates
  simp only [List.length_nil] at h1
  omega
def ekeep (L : List Rn) : List Rn := L.filter fun r => decide (r.s ≠ 0)
theorem ekeep_more (L : List Rn) (k : Nat) (h : k < L.length) : ekeep (L.take (k + 1)) = if (L.getD k default).s ≠ 0 then ekeep (L.take k) ++ [L.getD k default] else ekeep (L.take k) := by
  have e : L.take (k + 1) = L.take k ++ [L.getD k default] := by
    rw [← List.take_append_getElem h]
    simp [List.getD, h]
  unfold ekeep
  rw [e, List.filter_append, List.filter_cons]
  by_cases h0 : (L.getD k default).s ≠ 0
  · rw [if_pos h0, if_pos (by simpa using h0), List.filter_nil]
  · rw [if_neg h0, if_neg (by simpa using h0), List.filter_nil, List.append_nil]

set_option maxRecDepth 100000 in
set_option maxHeartbeats 4000000 in
theorem erput_any (A : Option Addr) (N c : Nat) (L : List Rn) (f n s : Int) (w : World) (hA : ER w A L) (hl : L.length = N) (hN : N ≤ 64) (hok : ∀ r ∈ L, 0 ≤ r.f ∧ 1 ≤ r.n ∧ r.f + r.n ≤ 576460752303423488) (f0 : 0 ≤ f) (n0 : 0 ≤ n) (fn : f + n ≤ 18446744073709551615) :
    Calls Try.prog 19 #[.slice A N c, .agg #[.int .u64 f, .int .u64 n], .int .i64 s] w (EROut w (erput L f n s)) := by
  have HS : Hid (∀ W, Below w.heap.size w W → Calls Try.prog 34 #[.slice A N c, .agg #[.int .u64 f, .int .u64 n], .int .i64 s, .int .u64 0, .int .u64 576460752303423488] W (EROut W (estates L f n s 0 576460752303423488))) := Lib.hid fun W hb => estates_any A N c L f n s 0 576460752303423488 W (hA.later hb) hl hN hok f0 n0 fn (by omega) (by omega) (by omega)
  have HEL : Hid ((estates L f n s 0 576460752303423488).length ≤ 131) := Lib.hid (by have := estates_len L f n s 0 576460752303423488; omega)
  have HR : Hid (erput L f n s = ekeep (estates L f n s 0 576460752303423488)) := Lib.hid rfl
  rw [HR.out]
  generalize estates L f n s 0 576460752303423488 = E at HS HEL HR ⊢
  obtain ⟨RR, HRR⟩ : ∃ RR, Hid (ekeep E = RR) := ⟨_, Lib.hid rfl⟩
  rw [HRR.out]
  have HST := Lib.hid (fun k hk => ekeep_more E k hk)
  have HKL : Hid (∀ k, (ekeep (E.take k)).length ≤ 131) := Lib.hid fun k => by
    have h1 : (ekeep (E.take k)).length ≤ (E.take k).length := List.length_filter_le _ _
    have h2 : (E.take k).length ≤ E.length := by rw [List.length_take]; omega
    have := HEL.out
    omega
  obtain ⟨i0, hi0, hz0, hz1, hz2⟩ := info_parts infoE
  clear hA hl hN hok f0 n0 fn HR
  go_enter Try.func19, Try.ntmps19
  go_wp2_with fail
  have HB0 : Hid (Below w.heap.size w ((w.alloc (.cells #[.int .u64 f, .int .u64 n] 37)).alloc (.cells #[] 47))) := Lib.hid (ba (ba (Below.refl _ _) _) _)
  have HO0 : Hid (((w.alloc (.cells #[.int .u64 f, .int .u64 n] 37)).alloc (.cells #[] 47)).ownsRow w.heap.size 47 3 (.slice (some ⟨w.heap.size + 1, 0, none⟩) 0 0) 0 (rcells [])) := Lib.hid (own_nil (heap_alloc_new' _ _ (by simp)) (by omega))
  have HZ : w.heap.size + 1 < ((w.alloc (.cells #[.int .u64 f, .int .u64 n] 37)).alloc (.cells #[] 47)).heap.size := by simp
  generalize ((w.alloc (.cells #[.int .u64 f, .int .u64 n] 37)).alloc (.cells #[] 47)) = W0 at HB0 HO0 HZ ⊢
  refine (HS.out _ HB0.out).mono ?_
  rintro e w1 ⟨A1, c1, rfl, hr1, hb1, hg1⟩
  have HNG : Hid (∀ g off, E ≠ [] → A1 = some ⟨g, off, none⟩ → W0.heap.size ≤ g) := Lib.hid hg1
  have HZ0 : Hid (w.heap.size + 1 < W0.heap.size) := Lib.hid HZ
  have HB1 := Lib.hid (bt HB0.out hb1)
  have HO1 := Lib.hid (own_later HO0.out hb1)
  have HR1 := Lib.hid hr1
  obtain ⟨el, HELN⟩ : ∃ el, Hid (E.length = el) := ⟨_, Lib.hid rfl⟩
  rw [HELN.out] at HEL ⊢
  have hel := HEL.out
  clear hb1 hr1 hg1 HZ HB0 HO0
  go_wp2_with fail
  go_loopw [7, 16] (fun ov iv wr => ∃ (k : Nat) (A2 : Option Addr) (m c2 : Nat) (out : List Rn), k ≤ el ∧ iv = .int .i64 k ∧ ov = .slice A2 m c2 ∧ Hid (out = ekeep (E.take k)) ∧ Hid (out.length = m) ∧ Hid (wr.ownsRow w.heap.size 47 3 (.slice A2 m c2) m (rcells out)) ∧ Hid (ER wr A1 E) ∧ Hid (∀ g off g2, E ≠ [] → A1 = some ⟨g, off, none⟩ → (Value.slice A2 m c2).ownBlock = some g2 → g2 ≠ g) ∧ Hid (Below w.heap.size w wr)) (fun _ i _ => el - (intOf i).toNat)
  case atStart => exact ⟨0, _, 0, 0, [], Nat.zero_le _, rfl, rfl, Lib.hid rfl, Lib.hid rfl, HO1, HR1, Lib.hid (fun g off g2 h1 h2 h3 => by change some (w.heap.size + 1) = some g2 at h3; injection h3 with h3; have := HNG.out g off h1 h2; have := HZ0.out; omega), HB1⟩
  case round =>
    obtain ⟨k, A2, m, c2, out, hk, rfl, rfl, HK, HM, HO, HE, HG, HB⟩ := hrel
    by_cases hlt : k < el
    · obtain ⟨g, off, rfl, d0, d1, d2⟩ := HE.out k (by rw [HELN.out]; exact hlt)
      have HS1 := Lib.hid (HST.out k (by rw [HELN.out]; exact hlt))
      rw [← HK.out] at HS1
      have hm9 : m ≤ 131 := by have := HKL.out k; rw [← HK.out, HM.out] at this; exact this
      have i1 : (0 : Int) ≤ (k : Int) := by omega
      have i2 : (k : Int) < (el : Int) := by omega
      generalize E.getD k default = x at d0 d1 d2 HS1
      obtain ⟨xf, xn, xs⟩ := x
      simp only at d0 d1 d2 HS1
      by_cases hz : xs = 0
      · have e1 : (xs != 0) = false := by simpa using hz
        have e2 : (xs == 0) = true := by simpa using hz
        rw [if_neg (fun h => h hz)] at HS1
        have HBx := Lib.hid (ba HB.out (.cells #[.int .u64 xf, .int .u64 xn, .int .i64 xs] 47))
        have HOx := Lib.hid (own_alloc HO.out (.cells #[.int .u64 xf, .int .u64 xn, .int .i64 xs] 47))
        have HEx := Lib.hid (HE.out.later (ba (Below.refl _ _) (.cells #[.int .u64 xf, .int .u64 xn, .int .i64 xs] 47)))
        clear hz
        go_wp2
        exact ⟨⟨k + 1, A2, m, c2, out, by omega, by go_num, rfl, Lib.hid HS1.out.symm, HM, HOx, HEx, HG, HBx⟩, by simp [intOf]; omega⟩
      · have e1 : (xs != 0) = true := by simpa using hz
        have e2 : (xs == 0) = false := by simpa using hz
        rw [if_pos hz] at HS1
        have HU : Hid (Below wr.heap.size wr ((wr.alloc (.cells #[.int .u64 xf, .int .u64 xn, .int .i64 xs] 47)).alloc (.cells #[.int .u64 xf, .int .u64 xn, .int .i64 xs] 47))) := Lib.hid (ba (ba (Below.refl _ _) _) _)
        have ho2 := own_later HO.out HU.out
        have hnews : ∀ (j : Nat) (u : Value), ([.int .u64 xf, .int .u64 xn, .int .i64 xs] : List Value)[j]? = some u → ((wr.alloc (.cells #[.int .u64 xf, .int .u64 xn, .int .i64 xs] 47)).alloc (.cells #[.int .u64 xf, .int .u64 xn, .int .i64 xs] 47)).cell? ((⟨wr.heap.size + 1, 0, none⟩ : Addr).add j) = some u := fun j u h => by
          have := news_new (wr.alloc (.cells #[.int .u64 xf, .int .u64 xn, .int .i64 xs] 47)) [.int .u64 xf, .int .u64 xn, .int .i64 xs] 47 j u h
          rwa [World.size_alloc] at this
        have hsz : w.heap.size ≤ ((wr.alloc (.cells #[.int .u64 xf, .int .u64 xn, .int .i64 xs] 47)).alloc (.cells #[.int .u64 xf, .int .u64 xn, .int .i64 xs] 47)).heap.size := Nat.le_trans HB.out.size HU.out.size
        have hne : E ≠ [] := fun h => by have := HELN.out; rw [h] at this; simp at this; omega
        have HEN : Hid (∀ g2 : Nat, (Value.slice A2 m c2).ownBlock = some g2 → g2 ≠ g) := Lib.hid (fun g2 e => HG.out g off g2 hne rfl e)
        have HGL : Hid (g < wr.heap.size) := Lib.hid (HE.out.lt (List.length_pos_iff.2 hne))
        clear hne
        clear hz
        go_wp2_with (at_builtin; refine wpList_append_own_at _ rfl _ _ 22 rfl w.heap.size 47 i0 (.agg #[.int .u64 0, .int .u64 0, .int .i64 0]) 3 24 Try.underlying22 hi0 hz0 hz1 hz2 rfl (by decide) _ _ _ rfl ho2 ⟨wr.heap.size + 1, 0, none⟩ 1 1 [.int .u64 xf, .int .u64 xn, .int .i64 xs] rfl rfl hnews (by simp [Value.oneCell']) (by unfold maxLen; omega) (by omega) hsz ?_; intro v6 w6 ho6 hg6 _ hat6; obtain ⟨g6, c6, rfl⟩ := ownsRow_succ ho6; have HA6 : Hid (w6.ownsRow w.heap.size 47 3 (.slice (some ⟨g6, 0, none⟩) (m + 1) c6) (m + 1) (rcells (out ++ [⟨xf, xn, xs⟩])) ∧ Below w.heap.size w w6 ∧ ER w6 (some ⟨g, off, none⟩) E ∧ g6 ≠ g) := Lib.hid ⟨by rw [rcells_snoc]; exact ho6, (HB.out.trans (HU.out.mono HB.out.size)).grown hg6 hsz (fun q e => (ho2.lt q e).1), (HE.out.later HU.out).kp (fun g9 o9 e9 => by injection e9 with e9; injection e9 with e9 _; subst e9; exact hg6.block _ (Nat.lt_of_lt_of_le HGL.out HU.out.size) (fun e => HEN.out _ e.symm rfl)), hat6.elim (fun h => HEN.out g6 h.symm) (fun h => by change some g6 = some _ at h; injection h with h; rw [h]; have := HGL.out; have := HU.out.size; omega)⟩; clear ho6 hg6 hat6 ho2 hnews)
        exact ⟨⟨k + 1, _, m + 1, c6, _, by omega, by go_num, rfl, Lib.hid HS1.out.symm, Lib.hid (by rw [List.length_append, HM.out]; rfl), Lib.hid HA6.out.1, Lib.hid HA6.out.2.2.1, Lib.hid (fun g9 o9 g2 _ h2 h3 => by change some g6 = some g2 at h3; injection h3 with h3; injection h2 with h2; injection h2 with h2 _; subst h2; subst h3; exact HA6.out.2.2.2), Lib.hid HA6.out.2.1⟩, by simp [intOf]; omega⟩
    · obtain rfl : k = el := by omega
      have HF : Hid (out = RR) := Lib.hid (by rw [HK.out, ← HELN.out, List.take_length, HRR.out])
      go_wp2
      go_ret
      exact ⟨A2, c2, by rw [← HF.out, HM.out]; rfl, by rw [← HF.out]; exact own_ER HO.out HM.out, HB.out, fun g o _ e => by subst e; exact (HO.out.lt g rfl).1⟩
set_option maxRecDepth 100000 in
set_option maxHeartbeats 4000000 in
theorem erquery_any (A : Option Addr) (N c : Nat) (L : List Rn) (f n : Int) (w : World) (hA : ER w A L) (hl : L.length = N) (hN : N ≤ 64) (hok : ∀ r ∈ L, 0 ≤ r.f ∧ 1 ≤ r.n ∧ r.f + r.n ≤ 576460752303423488) (f0 : 0 ≤ f) (n0 : 1 ≤ n) (fn : f + n ≤ 576460752303423488) :
    Calls Try.prog 21 #[.slice A N c, .agg #[.int .u64 f, .int .u64 n]] w (EROut w (erquery L f n)) := by
  have HS : Hid (∀ W, Below w.heap.size w W → Calls Try.prog 34 #[.slice A N c, .agg #[.int .u64 576460752303423488, .int .u64 1], .int .i64 0, .int .u64 f, .int .u64 (f + n)] W (EROut W (erquery L f n))) := Lib.hid fun W hb => estates_any A N c L 576460752303423488 1 0 f (f + n) W (hA.later hb) hl hN hok (by omega) (by omega) (by omega) f0 (by omega) fn
  generalize erquery L f n = E at HS ⊢
  have hwr : IntKind.u64.wrap (f + n) = f + n := by rw [IntKind.wrap_u64]; omega
  clear hA hl hN hok
  go_enter Try.func21, Try.ntmps21
  go_wp2_with fail
  refine (HS.out _ (ba (ba (Below.refl _ _) _) _)).mono ?_
  rintro e w1 ⟨A1, c1, rfl, hr1, hb1, hg1⟩
  have HF : Hid (ER w1 A1 E ∧ Below w.heap.size w w1 ∧ ∀ g off, E ≠ [] → A1 = some ⟨g, off, none⟩ → w.heap.size ≤ g) := Lib.hid ⟨hr1, bt (ba (ba (Below.refl _ _) _) _) hb1, fun g off h1 h2 => Nat.le_trans (ba (ba (Below.refl w.heap.size w) _) _).size (hg1 g off h1 h2)⟩
  clear hr1 hb1 hg1
  go_wp2
  go_ret
  exact ⟨A1, c1, rfl, HF.out.1, HF.out.2.1, HF.out.2.2⟩
end Go.Proofs.Ythimnpiiehggnaa
