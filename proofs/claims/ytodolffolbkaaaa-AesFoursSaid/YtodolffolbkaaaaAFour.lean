/- Four times turned, or mixed, a block is as it was; different blocks are encrypted to different ones: plain lists. -/
import Derived.Test.YtodolffolbkaaaaAGrid
namespace Go.Proofs.Ytodolffolbkaaaa

theorem mul8_add (x y k : UInt8) : mul8 (x ^^^ y) k = mul8 x k ^^^ mul8 y k := by
  apply UInt8.toNat_inj.1
  rw [mul8_nat, UInt8.toNat_xor, UInt8.toNat_xor, mul8_nat, mul8_nat]
  exact cm_left _ _ _
theorem mixB_add (a b c d a' b' c' d' : UInt8) : mixB (a ^^^ a') (b ^^^ b') (c ^^^ c') (d ^^^ d') = mixB a b c d ^^^ mixB a' b' c' d' := by
  unfold mixB
  rw [mul8_add, mul8_add]
  ac_rfl
theorem all8 {p : UInt8 → Prop} (h : ∀ n, n < 256 → p (UInt8.ofNat n)) (x : UInt8) : p x := by
  have := h x.toNat x.toNat_lt
  rwa [UInt8.ofNat_toNat] at this
theorem two_a (x : UInt8) : mixB (mul8 x 2) x x (mul8 x 3) = mul8 x 5 := all8 (p := fun x => mixB (mul8 x 2) x x (mul8 x 3) = mul8 x 5) (by decide +kernel) x
theorem two_b (x : UInt8) : mixB (mul8 x 3) (mul8 x 2) x x = 0 := all8 (p := fun x => mixB (mul8 x 3) (mul8 x 2) x x = 0) (by decide +kernel) x
theorem two_c (x : UInt8) : mixB x (mul8 x 3) (mul8 x 2) x = mul8 x 4 := all8 (p := fun x => mixB x (mul8 x 3) (mul8 x 2) x = mul8 x 4) (by decide +kernel) x
theorem two_d (x : UInt8) : mixB x x (mul8 x 3) (mul8 x 2) = 0 := all8 (p := fun x => mixB x x (mul8 x 3) (mul8 x 2) = 0) (by decide +kernel) x
theorem four_a (x : UInt8) : mul8 (mul8 x 5) 5 ^^^ mul8 (mul8 x 4) 4 = x := all8 (p := fun x => mul8 (mul8 x 5) 5 ^^^ mul8 (mul8 x 4) 4 = x) (by decide +kernel) x
theorem four_c (x : UInt8) : mul8 (mul8 x 4) 5 ^^^ mul8 (mul8 x 5) 4 = 0 := all8 (p := fun x => mul8 (mul8 x 4) 5 ^^^ mul8 (mul8 x 5) 4 = 0) (by decide +kernel) x
/-- Twice mixed. -/
theorem mix_two (a b c d : UInt8) : mixB (mixB a b c d) (mixB b c d a) (mixB c d a b) (mixB d a b c) = mul8 a 5 ^^^ mul8 c 4 := by
  have e0 : mixB a b c d = ((mul8 a 2 ^^^ mul8 b 3) ^^^ c) ^^^ d := rfl
  have e1 : mixB b c d a = ((a ^^^ mul8 b 2) ^^^ mul8 c 3) ^^^ d := by unfold mixB; ac_rfl
  have e2 : mixB c d a b = ((a ^^^ b) ^^^ mul8 c 2) ^^^ mul8 d 3 := by unfold mixB; ac_rfl
  have e3 : mixB d a b c = ((mul8 a 3 ^^^ b) ^^^ c) ^^^ mul8 d 2 := by unfold mixB; ac_rfl
  rw [e0, e1, e2, e3, mixB_add, mixB_add, mixB_add, two_a, two_b, two_c, two_d]
  simp
theorem mix_four (a c : UInt8) : mul8 (mul8 a 5 ^^^ mul8 c 4) 5 ^^^ mul8 (mul8 c 5 ^^^ mul8 a 4) 4 = a := by
  rw [mul8_add, mul8_add]
  have : mul8 (mul8 a 5) 5 ^^^ mul8 (mul8 c 4) 5 ^^^ (mul8 (mul8 c 5) 4 ^^^ mul8 (mul8 a 4) 4) = (mul8 (mul8 a 5) 5 ^^^ mul8 (mul8 a 4) 4) ^^^ (mul8 (mul8 c 4) 5 ^^^ mul8 (mul8 c 5) 4) := by ac_rfl
  rw [this, four_a, four_c]
  simp
theorem mixW_eq (a b c d : UInt8) : mixW [a, b, c, d] = [mixB a b c d, mixB b c d a, mixB c d a b, mixB d a b c] := rfl
theorem mixW_two (a b c d : UInt8) : mixW (mixW [a, b, c, d]) = [mul8 a 5 ^^^ mul8 c 4, mul8 b 5 ^^^ mul8 d 4, mul8 c 5 ^^^ mul8 a 4, mul8 d 5 ^^^ mul8 b 4] := by
  rw [mixW_eq, mixW_eq, mix_two, mix_two b c d a, mix_two c d a b, mix_two d a b c]
theorem mixW_four (a b c d : UInt8) : mixW (mixW (mixW (mixW [a, b, c, d]))) = [a, b, c, d] := by
  rw [mixW_two, mixW_two, mix_four a c, mix_four b d, mix_four c a, mix_four d b]
theorem colG_mix (G : List UInt8) (c : Nat) (hc : c < 4) : colG (mixG G) c = mixW (colG G c) := by
  refine list_ext (n := 4) (tab_len _ _) (tab_len _ _) fun r hr => ?_
  rw [ub_colG _ _ hr]
  unfold mixG
  rw [ub_tab _ (by omega), show (4 * c + r) / 4 = c by omega, show (4 * c + r) % 4 = r by omega]
def itF (f : List UInt8 → List UInt8) : Nat → List UInt8 → List UInt8
  | 0, s => s
  | k + 1, s => f (itF f k s)
theorem mixG_four (G : List UInt8) (h : G.length = 16) : itF mixG 4 G = G := by
  refine list_ext (n := 16) (tab_len _ _) h fun i hi => ?_
  have key : ∀ c, c < 4 → colG (itF mixG 4 G) c = colG G c := by
    intro c hc
    show colG (mixG (mixG (mixG (mixG G)))) c = _
    rw [colG_mix _ _ hc, colG_mix _ _ hc, colG_mix _ _ hc, colG_mix _ _ hc]
    obtain ⟨a, b, d, e, hq⟩ := four_list (L := colG G c) (tab_len _ _)
    rw [hq, mixW_four]
  have := key (i / 4) (by omega)
  have h1 := ub_colG (itF mixG 4 G) (i / 4) (r := i % 4) (by omega)
  have h2 := ub_colG G (i / 4) (r := i % 4) (by omega)
  rw [this, h2] at h1
  rw [show 4 * (i / 4) + i % 4 = i by omega] at h1
  exact h1.symm
theorem turnG_four (G : List UInt8) (h : G.length = 16) : itF turnG 4 G = G := by
  obtain ⟨g0, g1, g2, g3, g4, g5, g6, g7, g8, g9, g10, g11, g12, g13, g14, g15, rfl⟩ := list16 h
  rfl
theorem four_inj {f : List UInt8 → List UInt8} {a b : List UInt8} (ha : itF f 4 a = a) (hb : itF f 4 b = b) (h : f a = f b) : a = b := by
  rw [← ha, ← hb]
  show f (f (f (f a))) = f (f (f (f b)))
  rw [h]
theorem keyG_inj {a b K : List UInt8} (ha : a.length = 16) (hb : b.length = 16) (h : keyG a K = keyG b K) : a = b := by
  refine list_ext ha hb fun i hi => ?_
  have h1 : ub (keyG a K) i = ub (keyG b K) i := by rw [h]
  unfold keyG at h1
  rw [ub_tab _ hi, ub_tab _ hi] at h1
  have h2 : ub a i ^^^ ub K i ^^^ ub K i = ub b i ^^^ ub K i ^^^ ub K i := by rw [h1]
  rw [UInt8.xor_assoc, UInt8.xor_assoc] at h2
  simpa using h2
theorem boxG_inj {a b : List UInt8} (ha : a.length = 16) (hb : b.length = 16) (h : boxG a = boxG b) : a = b := by
  refine list_ext ha hb fun i hi => ?_
  have h1 : ub (boxG a) i = ub (boxG b) i := by rw [h]
  unfold boxG at h1
  rw [ub_tab _ hi, ub_tab _ hi] at h1
  exact box8_inj h1
theorem turnG_inj {a b : List UInt8} (ha : a.length = 16) (hb : b.length = 16) (h : turnG a = turnG b) : a = b := four_inj (turnG_four a ha) (turnG_four b hb) h
theorem mixG_inj {a b : List UInt8} (ha : a.length = 16) (hb : b.length = 16) (h : mixG a = mixG b) : a = b := four_inj (mixG_four a ha) (mixG_four b hb) h
theorem roundE_inj {last i : Nat} {F a b : List UInt8} (ha : a.length = 16) (hb : b.length = 16) (h : roundE last F a i = roundE last F b i) : a = b := by
  unfold roundE at h
  by_cases h0 : i = 0
  · rw [if_pos h0, if_pos h0] at h
    exact keyG_inj ha hb h
  · rw [if_neg h0, if_neg h0] at h
    by_cases h1 : i = last
    · rw [if_pos h1, if_pos h1] at h
      exact boxG_inj ha hb (turnG_inj (tab_len _ _) (tab_len _ _) (keyG_inj (tab_len _ _) (tab_len _ _) h))
    · rw [if_neg h1, if_neg h1] at h
      exact boxG_inj ha hb (turnG_inj (tab_len _ _) (tab_len _ _) (mixG_inj (tab_len _ _) (tab_len _ _) (keyG_inj (tab_len _ _) (tab_len _ _) h)))
theorem encN_inj {last : Nat} {F a b : List UInt8} (ha : a.length = 16) (hb : b.length = 16) (k : Nat) (h : encN last F a k = encN last F b k) : a = b := by
  induction k with
  | zero => exact h
  | succ k ih => exact ih (roundE_inj (encN_len _ _ _ ha _) (encN_len _ _ _ hb _) h)
/-- Different blocks are encrypted to different ones, by one key. -/
theorem encL_inj {key a b : List UInt8} (ha : a.length = 16) (hb : b.length = 16) : encL key a = encL key b ↔ a = b := ⟨fun h => encN_inj ha hb _ h, fun h => by rw [h]⟩
end Go.Proofs.Ytodolffolbkaaaa
