/- Texts of this seat, one behind the other: EPut, ELike, EAlive, ECode. -/
import Derived.BigQuiet
import Derived.Test.YthimnpiiehggnaaQ02
import Derived.Test.YthimnpiiehggnaaQ05
import Derived.Test.YthimnpiiehggnaaQ08
import Derived.Test.YthimnpiiehggnaaQ09
/- The contract of Put. -/
namespace Go.Proofs.Ythimnpiiehggnaa
open Go.RowKit Go.Shelf

/-- A state that may be. -/
def ESt (s : Int) : Prop := s = 0 ∨ s = 1 ∨ s = 2
instance (s : Int) : Decidable (ESt s) := by unfold ESt; infer_instance
set_option maxHeartbeats 1000000 in
theorem eput_arg (A : Option Addr) (N c : Nat) (L : List Rn) (f n s : Int) (w : World) (hA : ER w A L) (hl : L.length = N) (hN : N ≤ 65536) (hu : ∀ r ∈ L, EU r) (h : ¬ (ERt L ∧ ESt s)) :
    Calls Try.prog 17 #[.slice A N c, .agg #[.int .u64 f, .int .u64 n], .int .i64 s] w fun e w' => e = .returned (.tuple #[.slice none 0 0, .int .i64 1]) ∧ Below w.heap.size w w' := by
  have HR : Hid (∀ W, Below w.heap.size w W → Calls Try.prog 10 #[.slice A N c] W fun e w' => e = .returned (.bool (decide (ERt L))) ∧ Below W.heap.size W w') := Lib.hid fun W hb => eright_any A N c L W (hA.later hb) hl hN hu
  have HS := Lib.hid (fun W => eist_any s W)
  clear hA hl hN hu
  by_cases hr : ERt L
  · have hs : ¬ ESt s := fun k => h ⟨hr, k⟩
    have e0 : decide (s = 0 ∨ s = 1 ∨ s = 2) = false := decide_eq_false hs
    rw [e0] at HS
    rw [decide_eq_true hr] at HR
    clear h hr hs e0
    go_enter Try.func17, Try.ntmps17
    go_wp2_with fail
    refine (HR.out _ (ba (Below.refl _ _) _)).mono ?_
    rintro e w1 ⟨rfl, hb1⟩
    go_wp2_with fail
    refine (HS.out _).mono ?_
    rintro e w2 ⟨rfl, rfl⟩
    go_wp2
    go_ret2
    exact ⟨rfl, bt (ba (Below.refl _ _) _) hb1⟩
  · rw [decide_eq_false hr] at HR
    clear h hr HS
    go_enter Try.func17, Try.ntmps17
    go_wp2_with fail
    refine (HR.out _ (ba (Below.refl _ _) _)).mono ?_
    rintro e w1 ⟨rfl, hb1⟩
    go_wp2
    go_ret2
    exact ⟨rfl, bt (ba (Below.refl _ _) _) hb1⟩
set_option maxHeartbeats 1000000 in
theorem eput_bad (A : Option Addr) (N c : Nat) (L : List Rn) (f n s : Int) (w : World) (hA : ER w A L) (hl : L.length = N) (hN : N ≤ 65536) (hu : ∀ r ∈ L, EU r) (h : ERt L) (hs : ESt s) (f0 : 0 ≤ f) (f1 : f ≤ 18446744073709551615) (n0 : 0 ≤ n) (n1 : n ≤ 18446744073709551615) (hb : ewhy f n ≠ 0) :
    Calls Try.prog 17 #[.slice A N c, .agg #[.int .u64 f, .int .u64 n], .int .i64 s] w fun e w' => e = .returned (.tuple #[.slice none 0 0, .int .i64 (ewhy f n)]) ∧ Below w.heap.size w w' := by
  have HR : Hid (∀ W, Below w.heap.size w W → Calls Try.prog 10 #[.slice A N c] W fun e w' => e = .returned (.bool (decide (ERt L))) ∧ Below W.heap.size W w') := Lib.hid fun W hb => eright_any A N c L W (hA.later hb) hl hN hu
  have HS := Lib.hid (fun W => eist_any s W)
  have HC := Lib.hid (fun W => ecb_any f n W f0 f1 n0 n1)
  have e0 : decide (s = 0 ∨ s = 1 ∨ s = 2) = true := decide_eq_true hs
  rw [e0] at HS
  rw [decide_eq_true h] at HR
  generalize ewhy f n = y at HC hb ⊢
  have e1 : (y == 0) = false := by simpa using hb
  have e2 : (y != 0) = true := by simpa using hb
  clear h hs e0 hA hl hN hu hb f0 f1 n0 n1
  go_enter Try.func17, Try.ntmps17
  go_wp2_with fail
  refine (HR.out _ (ba (Below.refl _ _) _)).mono ?_
  rintro e w1 ⟨rfl, hb1⟩
  have HK1 := Lib.hid ((Blk.new w 37 #[.int .u64 f, .int .u64 n]).below hb1)
  have HB1 := Lib.hid (bt (ba (Below.refl w.heap.size w) _) hb1)
  have q0 : w1.cell? ⟨w.heap.size, 0, none⟩ = some (.int .u64 f) := HK1.out.cell 0
  have q1 : w1.cell? ⟨w.heap.size, 1, none⟩ = some (.int .u64 n) := HK1.out.cell 1
  clear hb1
  go_wp2_with fail
  refine (HS.out _).mono ?_
  rintro e w2 ⟨rfl, rfl⟩
  go_wp2_with fail
  refine (HC.out _).mono ?_
  rintro e w3 ⟨rfl, hb3⟩
  go_wp2
  go_ret2
  exact ⟨rfl, bt HB1.out hb3⟩

set_option maxRecDepth 100000 in
set_option maxHeartbeats 2000000 in
theorem eput_yes (A : Option Addr) (N c : Nat) (L : List Rn) (f n s : Int) (w : World) (hA : ER w A L) (hl : L.length = N) (hu : ∀ r ∈ L, EU r) (h : ERt L) (hs : ESt s) (f0 : 0 ≤ f) (n0 : 1 ≤ n) (fn : f + n ≤ 576460752303423488) :
    Calls Try.prog 17 #[.slice A N c, .agg #[.int .u64 f, .int .u64 n], .int .i64 s] w fun e w' => ∃ J, EPuts L f n s J ∧ Below w.heap.size w w' ∧
      ((64 < J.length ∧ e = .returned (.tuple #[.slice none 0 0, .int .i64 6])) ∨ (J.length ≤ 64 ∧ ∃ A' c', e = .returned (.tuple #[.slice A' J.length c', .int .i64 0]) ∧ J.length ≤ c' ∧ ER w' A' J)) := by
  have hN : N ≤ 64 := by rw [← hl]; exact h.1
  have HR : Hid (∀ W, Below w.heap.size w W → Calls Try.prog 10 #[.slice A N c] W fun e w' => e = .returned (.bool (decide (ERt L))) ∧ Below W.heap.size W w') := Lib.hid fun W hb => eright_any A N c L W (hA.later hb) hl (by omega) hu
  have HS := Lib.hid (fun W => eist_any s W)
  have HC := Lib.hid (fun W => ecb_any f n W f0 (by omega) (by omega) (by omega))
  have e0 : decide (s = 0 ∨ s = 1 ∨ s = 2) = true := decide_eq_true hs
  have HE : Hid (ewhy f n = 0) := Lib.hid ((ewhy_ok f n (by omega)).2 ⟨n0, fn⟩)
  rw [HE.out] at HC
  rw [e0] at HS
  rw [decide_eq_true h] at HR
  have HP : Hid (∀ W, Below w.heap.size w W → Calls Try.prog 31 #[.slice A N c, .agg #[.int .u64 f, .int .u64 n], .int .i64 s] W fun e w' => ∃ A' c' S, e = .returned (.slice A' S.length c') ∧ S.length ≤ c' ∧ c' ≤ maxLen ∧ ER w' A' S ∧ (S ≠ [] → ∃ g, A' = some ⟨g, 0, none⟩ ∧ W.heap.size ≤ g) ∧ S.Perm (epieces L f n s) ∧ S.Pairwise (fun a b => a.f ≤ b.f) ∧ Below W.heap.size W w') := Lib.hid fun W hb => epieces_any A N c L f n s W (hA.later hb) hl hN (fun r hr => by have := h.ok r hr; exact ⟨this.1, this.2.1, this.2.2.1⟩) f0 n0 fn
  have HM : Hid (∀ S : List Rn, S.Perm (epieces L f n s) → S.Pairwise (fun a b => a.f ≤ b.f) → EPuts L f n s (ejoin S) ∧ (∀ r ∈ S, EB r) ∧ S.length ≤ 129) := Lib.hid fun S h1 h2 => by
    have h9 := eputs_sorted h f0 n0 fn (by unfold ESt at hs; omega) h1 h2
    refine ⟨h9.1, h9.2, ?_⟩
    rw [h1.length_eq]
    have := epieces_len L f n s
    have := h.1
    omega
  clear h hs e0 hA hl hN hu f0 n0 fn HE
  go_enter Try.func17, Try.ntmps17
  go_wp2_with fail
  refine (HR.out _ (ba (Below.refl _ _) _)).mono ?_
  rintro e w1 ⟨rfl, hb1⟩
  have HK1 := Lib.hid ((Blk.new w 37 #[.int .u64 f, .int .u64 n]).below hb1)
  have HB1 := Lib.hid (bt (ba (Below.refl w.heap.size w) _) hb1)
  have q0 : w1.cell? ⟨w.heap.size, 0, none⟩ = some (.int .u64 f) := HK1.out.cell 0
  have q1 : w1.cell? ⟨w.heap.size, 1, none⟩ = some (.int .u64 n) := HK1.out.cell 1
  clear hb1
  go_wp2_with fail
  refine (HS.out _).mono ?_
  rintro e w2 ⟨rfl, rfl⟩
  go_wp2_with fail
  refine (HC.out _).mono ?_
  rintro e w3 ⟨rfl, hb3⟩
  have HB3 := Lib.hid (bt HB1.out hb3)
  have q2 : w3.cell? ⟨w.heap.size, 0, none⟩ = some (.int .u64 f) := ecell hb3 q0
  have q3 : w3.cell? ⟨w.heap.size, 1, none⟩ = some (.int .u64 n) := ecell hb3 q1
  clear q0 q1 hb3 HB1 HK1
  go_wp2_with fail
  refine (HP.out _ HB3.out).mono ?_
  rintro e w4 ⟨A4, c4, S, rfl, hc4, hm4, hr4, hg4, hp4, hs4, hb4⟩
  obtain ⟨HJ, HOK, HSL⟩ := HM.out S hp4 hs4
  have HB4 := Lib.hid (bt HB3.out hb4)
  have HJL : Hid ((ejoin S).length ≤ 65536) := Lib.hid (by have := ejoin_len S; omega)
  have HJ := Lib.hid HJ
  have HH : Hid (HandsE w.heap.size 5 41 #[.pointer (some ⟨w4.heap.size, 0, none⟩)] rv (ejoin S) (fun k => k = w4.heap.size ∨ (S ≠ [] ∧ ∃ o, A4 = some ⟨k, o, none⟩)) (w4.alloc (.cells #[.slice A4 S.length c4] 22))) := Lib.hid (ejoined_hands w.heap.size 5 (by omega) w4.heap.size c4 A4 S _ (Blk.new _ _ _) hc4 hm4 (fun h => by obtain ⟨g, e, _⟩ := hg4 h; exact ⟨g, e⟩) (hr4.later (ba (Below.refl _ _) _)) HOK)
  have HX : Hid (∀ k, (k = w4.heap.size ∨ (S ≠ [] ∧ ∃ o, A4 = some ⟨k, o, none⟩)) → k < (w4.alloc (.cells #[.slice A4 S.length c4] 22)).heap.size) := Lib.hid (fun k hk => by
    rw [World.size_alloc]
    rcases hk with rfl | ⟨hne, o, e⟩
    · omega
    · obtain ⟨g, e2, _⟩ := hg4 hne
      rw [e2] at e
      injection e with e
      injection e with e1 _
      subst e1
      rw [e2] at hr4
      have := hr4.lt (List.length_pos_iff.2 hne)
      omega)
  obtain ⟨sl, HSL2⟩ : ∃ sl, Hid (S.length = sl) := ⟨_, Lib.hid rfl⟩
  rw [HSL2.out] at HH HX ⊢
  clear hp4 hs4 hb4 hg4 hr4 hc4 hm4 HOK HSL q2 q3
  go_wp2_with fail
  refine (ejoined_any _ _ _ _).mono ?_
  rintro e w5 ⟨rfl, rfl⟩
  have HB5 : Hid (Below w.heap.size w (w4.alloc (.cells #[.slice A4 sl c4] 22))) := Lib.hid (ba HB4.out _)
  generalize w4.alloc (.cells #[.slice A4 sl c4] 22) = W5 at HH HX HB5 ⊢
  go_wp2_with fail
  refine (ecollect_any w.heap.size _ (ejoin S) _ _ HH.out HX.out HB5.out.size HJL.out).mono ?_
  rintro e w6 ⟨A6, c6, rfl, ho6, hb6⟩
  have HB6 := Lib.hid (HB5.out.trans hb6)
  have HR6 : Hid (ER w6 A6 (ejoin S)) := Lib.hid (own_ER ho6 rfl)
  have HC6 : Hid ((ejoin S).length ≤ c6) := Lib.hid (by
    obtain ⟨A7, c7, e, hh⟩ := own_form ho6
    injection e with e1 e2 e3
    subst e3
    rcases hh with ⟨_, h1, h2⟩ | ⟨_, _, h1, _⟩ <;> omega)
  clear ho6 hb6 HH HX HB5 HSL2
  generalize ejoin S = J at HJ HJL HB6 HR6 HC6 ⊢
  have hjl := HJL.out
  by_cases h64 : J.length ≤ 64
  · have e1 : decide ((64 : Int) < (J.length : Int)) = false := by simp; omega
    have HF : Hid (∃ K, EPuts L f n s K ∧ Below w.heap.size w w6 ∧ ((64 < K.length ∧ (Ending.returned (.tuple #[.slice A6 J.length c6, .int .i64 0])) = .returned (.tuple #[.slice none 0 0, .int .i64 6])) ∨ (K.length ≤ 64 ∧ ∃ A' c', (Ending.returned (.tuple #[.slice A6 J.length c6, .int .i64 0])) = .returned (.tuple #[.slice A' K.length c', .int .i64 0]) ∧ K.length ≤ c' ∧ ER w6 A' K))) := Lib.hid ⟨J, HJ.out, HB6.out, .inr ⟨h64, A6, c6, rfl, HC6.out, HR6.out⟩⟩
    generalize J.length = jl at *
    clear h64
    go_wp2
    go_ret2
    exact HF.out
  · have e1 : (64 : Int) < (J.length : Int) := by omega
    have HL6 : Hid (64 < J.length) := Lib.hid (by omega)
    obtain ⟨jl, HJQ⟩ : ∃ jl, Hid (J.length = jl) := ⟨_, Lib.hid rfl⟩
    rw [HJQ.out] at e1 hjl ⊢
    clear h64
    go_wp2
    go_ret2
    exact ⟨J, HJ.out, HB6.out, .inl ⟨HL6.out, rfl⟩⟩
end Go.Proofs.Ythimnpiiehggnaa
/- The contracts of slices.Equal of two lists of runs, of Like, and of the reference's Same. -/
namespace Go.Proofs.Ythimnpiiehggnaa
open Go.RowKit

theorem egetD_same {α : Type} {d : α} {L M : List α} {n : Nat} (hl : L.length = n) (hm : M.length = n) (h : ∀ j, j < n → L.getD j d = M.getD j d) : L = M := by
  apply List.ext_getElem
  · rw [hl, hm]
  · intro i h1 h2
    have := h i (by omega)
    simpa [List.getD, h1, h2] using this
set_option maxRecDepth 100000 in
set_option maxHeartbeats 4000000 in
theorem eeq_any (A B : Option Addr) (c d n m : Nat) (L M : List Rn) (w : World) (hA : ER w A L) (hB : ER w B M) (hl : L.length = n) (hm : M.length = m) (hn : n ≤ 65536) (hn2 : m ≤ 65536) :
    Calls Try.prog 26 #[.slice A n c, .slice B m d] w fun e w' => e = .returned (.bool (decide (L = M))) ∧ Below w.heap.size w w' := by
  have HA := Lib.hid hA
  have HB := Lib.hid hB
  have HL := Lib.hid hl
  have HM := Lib.hid hm
  clear hA hB hl hm
  by_cases hnm : n = m
  · subst hnm
    clear hn2
    go_enter Try.func26, Try.ntmps26
    go_wp2_with fail
    go_loopw [13] (fun iv wr => ∃ k : Nat, k ≤ n ∧ iv = .int .i64 k ∧ Hid (∀ j, j < k → L.getD j default = M.getD j default) ∧ Below w.heap.size w wr) (fun i _ => n - (intOf i).toNat)
    case atStart => exact ⟨0, Nat.zero_le _, rfl, Lib.hid (fun j hj => absurd hj (Nat.not_lt_zero j)), Below.refl _ _⟩
    case round =>
      obtain ⟨k, hk, rfl, HE, hb⟩ := hrel
      by_cases hlt : k < n
      · obtain ⟨g, off, rfl, p0, p1, p2⟩ := (HA.out.later hb) k (by rw [HL.out]; exact hlt)
        obtain ⟨g', off', rfl, q0, q1, q2⟩ := (HB.out.later hb) k (by rw [HM.out]; exact hlt)
        have i0 : (0 : Int) ≤ (k : Int) := by omega
        have i1 : (k : Int) < (n : Int) := by omega
        by_cases hxy : L.getD k default = M.getD k default
        · have HE2 : Hid (∀ j, j < k + 1 → L.getD j default = M.getD j default) := Lib.hid (fun j hj => by
            by_cases e : j = k
            · rw [e]; exact hxy
            · exact HE.out j (by omega))
          rw [← hxy] at q0 q1 q2
          clear hxy
          generalize L.getD k default = x at p0 p1 p2 q0 q1 q2
          obtain ⟨xf, xn, xs⟩ := x
          simp only at p0 p1 p2 q0 q1 q2
          go_wp2_with fail
          go_quiet (fail)
          go_wp2
          exact ⟨⟨k + 1, by omega, by go_num, HE2, below_drewN hb _⟩, by simp [intOf]; omega⟩
        · have HN : Hid (decide (L = M) = false) := Lib.hid (by simp; intro e; exact hxy (by rw [e]))
          have HX := Lib.hid hxy
          clear hxy
          generalize L.getD k default = x at p0 p1 p2 HX
          generalize M.getD k default = y at q0 q1 q2 HX
          obtain ⟨xf, xn, xs⟩ := x
          obtain ⟨yf, yn, ys⟩ := y
          simp only at p0 p1 p2 q0 q1 q2
          by_cases h1 : xf = yf
          · subst h1
            by_cases h2 : xn = yn
            · subst h2
              have h3 : (xs == ys) = false := by
                simp only [beq_eq_false_iff_ne]
                intro e
                exact HX.out (by rw [e])
              have h4 : (xs != ys) = true := by simp [bne, h3]
              go_wp2_with fail
              go_quiet (fail)
              go_wp2
              go_ret
              rw [HN.out]
              exact ⟨rfl, below_drewN hb _⟩
            · have h3 : (xn == yn) = false := by simpa using h2
              have h4 : (xn != yn) = true := by simp [bne, h3]
              clear h2
              go_wp2_with fail
              go_quiet (fail)
              go_wp2
              go_ret
              rw [HN.out]
              exact ⟨rfl, below_drewN hb _⟩
          · have h3 : (xf == yf) = false := by simpa using h1
            have h4 : (xf != yf) = true := by simp [bne, h3]
            clear h1
            go_wp2_with fail
            go_quiet (fail)
            go_wp2
            go_ret
            rw [HN.out]
            exact ⟨rfl, below_drewN hb _⟩
      · obtain rfl : k = n := by omega
        have HY : Hid (decide (L = M) = true) := Lib.hid (by simp; exact egetD_same HL.out HM.out HE.out)
        go_wp2
        go_ret
        rw [HY.out]
        exact ⟨rfl, hb⟩
  · have HN : Hid (decide (L = M) = false) := Lib.hid (by simp; intro e; exact hnm (by rw [← HL.out, ← HM.out, e]))
    have h1 : (n == m) = false := by simp; exact hnm
    have h2 : ((n : Int) == (m : Int)) = false := by simp; omega
    have h3 : ((n : Int) != (m : Int)) = true := by simp; omega
    clear hnm
    go_enter Try.func26, Try.ntmps26
    go_wp2_with fail
    go_ret
    rw [HN.out]
    exact ⟨rfl, Below.refl _ _⟩

set_option maxRecDepth 100000 in
set_option maxHeartbeats 4000000 in
theorem ersame_any (A B : Option Addr) (c d n m : Nat) (L M : List Rn) (w : World) (hA : ER w A L) (hB : ER w B M) (hl : L.length = n) (hm : M.length = m) (hn : n ≤ 65536) (hn2 : m ≤ 65536) :
    Calls Try.prog 13 #[.slice A n c, .slice B m d] w fun e w' => e = .returned (.bool (decide (L = M))) ∧ Below w.heap.size w w' := by
  have HA := Lib.hid hA
  have HB := Lib.hid hB
  have HL := Lib.hid hl
  have HM := Lib.hid hm
  clear hA hB hl hm
  by_cases hnm : n = m
  · subst hnm
    clear hn2
    go_enter Try.func13, Try.ntmps13
    go_wp2_with fail
    go_loopw [13] (fun iv wr => ∃ k : Nat, k ≤ n ∧ iv = .int .i64 k ∧ Hid (∀ j, j < k → L.getD j default = M.getD j default) ∧ Below w.heap.size w wr) (fun i _ => n - (intOf i).toNat)
    case atStart => exact ⟨0, Nat.zero_le _, rfl, Lib.hid (fun j hj => absurd hj (Nat.not_lt_zero j)), Below.refl _ _⟩
    case round =>
      obtain ⟨k, hk, rfl, HE, hb⟩ := hrel
      by_cases hlt : k < n
      · obtain ⟨g, off, rfl, p0, p1, p2⟩ := (HA.out.later hb) k (by rw [HL.out]; exact hlt)
        obtain ⟨g', off', rfl, q0, q1, q2⟩ := (HB.out.later hb) k (by rw [HM.out]; exact hlt)
        have i0 : (0 : Int) ≤ (k : Int) := by omega
        have i1 : (k : Int) < (n : Int) := by omega
        by_cases hxy : L.getD k default = M.getD k default
        · have HE2 : Hid (∀ j, j < k + 1 → L.getD j default = M.getD j default) := Lib.hid (fun j hj => by
            by_cases e : j = k
            · rw [e]; exact hxy
            · exact HE.out j (by omega))
          rw [← hxy] at q0 q1 q2
          clear hxy
          generalize L.getD k default = x at p0 p1 p2 q0 q1 q2
          obtain ⟨xf, xn, xs⟩ := x
          simp only at p0 p1 p2 q0 q1 q2
          go_wp2_with fail
          go_quiet (fail)
          go_wp2
          exact ⟨⟨k + 1, by omega, by go_num, HE2, below_drewN hb _⟩, by simp [intOf]; omega⟩
        · have HN : Hid (decide (L = M) = false) := Lib.hid (by simp; intro e; exact hxy (by rw [e]))
          have HX := Lib.hid hxy
          clear hxy
          generalize L.getD k default = x at p0 p1 p2 HX
          generalize M.getD k default = y at q0 q1 q2 HX
          obtain ⟨xf, xn, xs⟩ := x
          obtain ⟨yf, yn, ys⟩ := y
          simp only at p0 p1 p2 q0 q1 q2
          by_cases h1 : xf = yf
          · subst h1
            by_cases h2 : xn = yn
            · subst h2
              have h3 : (xs == ys) = false := by
                simp only [beq_eq_false_iff_ne]
                intro e
                exact HX.out (by rw [e])
              have h4 : (xs != ys) = true := by simp [bne, h3]
              go_wp2_with fail
              go_quiet (fail)
              go_wp2
              go_ret
              rw [HN.out]
              exact ⟨rfl, below_drewN hb _⟩
            · have h3 : (xn == yn) = false := by simpa using h2
              have h4 : (xn != yn) = true := by simp [bne, h3]
              clear h2
              go_wp2_with fail
              go_quiet (fail)
              go_wp2
              go_ret
              rw [HN.out]
              exact ⟨rfl, below_drewN hb _⟩
          · have h3 : (xf == yf) = false := by simpa using h1
            have h4 : (xf != yf) = true := by simp [bne, h3]
            clear h1
            go_wp2_with fail
            go_quiet (fail)
            go_wp2
            go_ret
            rw [HN.out]
            exact ⟨rfl, below_drewN hb _⟩
      · obtain rfl : k = n := by omega
        have HY : Hid (decide (L = M) = true) := Lib.hid (by simp; exact egetD_same HL.out HM.out HE.out)
        go_wp2
        go_ret
        rw [HY.out]
        exact ⟨rfl, hb⟩
  · have HN : Hid (decide (L = M) = false) := Lib.hid (by simp; intro e; exact hnm (by rw [← HL.out, ← HM.out, e]))
    have h1 : (n == m) = false := by simp; exact hnm
    have h2 : ((n : Int) == (m : Int)) = false := by simp; omega
    have h3 : ((n : Int) != (m : Int)) = true := by simp; omega
    clear hnm
    go_enter Try.func13, Try.ntmps13
    go_wp2_with fail
    go_ret
    rw [HN.out]
    exact ⟨rfl, Below.refl _ _⟩

set_option maxRecDepth 100000 in
set_option maxHeartbeats 1000000 in
theorem elike_any (A B : Option Addr) (c d n m : Nat) (L M : List Rn) (w : World) (hA : ER w A L) (hB : ER w B M) (hl : L.length = n) (hm : M.length = m) (hn : n ≤ 65536) (hn2 : m ≤ 65536) :
    Calls Try.prog 12 #[.slice A n c, .slice B m d] w fun e w' => e = .returned (.bool (decide (L = M))) ∧ Below w.heap.size w w' := by
  have HE := Lib.hid (eeq_any A B c d n m L M w hA hB hl hm hn hn2)
  clear hA hB hl hm
  go_enter Try.func12, Try.ntmps12
  go_wp2_with fail
  refine HE.out.mono ?_
  rintro e w1 ⟨rfl, hb⟩
  go_wp2
  go_ret
  exact ⟨rfl, hb⟩
end Go.Proofs.Ythimnpiiehggnaa
/- The law's own few and alive. -/
namespace Go.Proofs.Ythimnpiiehggnaa
open Go.RowKit

theorem ecut_run (A : Option Addr) (len cap m : Nat) (hm : m ≤ cap) (W : World) : (Instr.slice 22 (.slice A len cap) none (some (.int .i64 (m : Int))) none).run Try.prog W = .ok (.slice A m cap) W := by
  obtain ⟨i, hi⟩ : ∃ i, Try.prog.info? 47 = some i := Option.isSome_iff_exists.1 (by kernel_rfl)
  have hb : (Instr.sliceBounds true len cap none (some (.int .i64 (m : Int))) none).run Try.prog W = .ok (0, m, cap) W := by
    have h1 : (0 : Int) ≤ (m : Int) ∧ (m : Int) ≤ (cap : Int) := by omega
    simp [Instr.sliceBounds, Instr.sliceBound, asIntOf, h1]
    omega
  have hA : (if cap = 0 then A else A.map fun x => x.add (0 * i.size)) = A := by
    split
    · rfl
    · cases A <;> simp [Addr.add]
  simp [Instr.slice, run_underlying (P := Try.prog) (w := W) Try.underlying22, hb, sizeOf, typeInfo, hi]
  simpa using hA
theorem efew_any (A : Option Addr) (n c : Nat) (w : World) (hc : n ≤ c) :
    Calls Try.prog 7 #[.slice A n c] w fun e w' => e = .returned (.slice A (min n 66) c) ∧ w' = w := by
  by_cases h : n ≤ 66
  · have e : min n 66 = n := Nat.min_eq_left h
    rw [e]
    have h1 := fun W => ecut_run A n c n hc W
    have h2 : min (n : Int) 66 = (n : Int) := by omega
    have h3 : (n : Int) ≤ 66 := by omega
    clear h e
    go_enter Try.func7, Try.ntmps7
    go_wp2
    go_ret
    exact ⟨rfl, rfl⟩
  · have e : min n 66 = 66 := Nat.min_eq_right (by omega)
    rw [e]
    have h1 := fun W => ecut_run A n c 66 (by omega) W
    have h2 : min (n : Int) 66 = 66 := by omega
    have h3 : ¬ (n : Int) ≤ 66 := by omega
    have h4 : decide ((n : Int) ≤ 66) = false := by simpa using h3
    clear h e
    go_enter Try.func7, Try.ntmps7
    go_wp2
    go_ret
    exact ⟨rfl, rfl⟩
/-- A hole in data. -/
theorem ehole_put : EPuts [⟨0, 10, 1⟩] 4 2 0 [⟨0, 4, 1⟩, ⟨6, 4, 1⟩] := by
  refine ⟨by simp [EC], fun x t => ?_⟩
  unfold EIn enew eAt
  simp only [List.mem_cons, List.not_mem_nil, or_false, exists_eq_or_imp, exists_eq_left, eAt]
  constructor
  · rintro (h | h)
    · rw [if_neg (by omega), if_pos (by omega)]; omega
    · rw [if_neg (by omega), if_pos (by omega)]; omega
  · rintro ⟨h1, h2⟩
    split at h1
    · omega
    · split at h1 <;> omega
theorem blk_ER1 {W : World} {g : Nat} {t : TypeId} {L : List Rn} (h : Blk W g t (rcells L).toArray) : ER W (some ⟨g, 0, none⟩) L :=
  blk_ER (cur := (rcells L).toArray) h (by rw [← rcells_len]; simp)
set_option maxRecDepth 100000 in
set_option maxHeartbeats 2000000 in
theorem ealive_any (w : World) : Calls Try.prog 14 #[] w fun e w' => e = .returned (.bool true) ∧ Below w.heap.size w w' := by
  have HP : Hid (∀ W, Blk W w.heap.size 47 #[.int .u64 0, .int .u64 10, .int .i64 1] → Calls Try.prog 17 #[.slice (some ⟨w.heap.size, 0, none⟩) 1 1, .agg #[.int .u64 4, .int .u64 2], .int .i64 0] W fun e w' => ∃ A' c', e = .returned (.tuple #[.slice A' 2 c', .int .i64 0]) ∧ ER w' A' [⟨0, 4, 1⟩, ⟨6, 4, 1⟩] ∧ Below W.heap.size W w') := Lib.hid fun W hW => by
    refine (eput_yes (some ⟨w.heap.size, 0, none⟩) 1 1 [⟨0, 10, 1⟩] 4 2 0 W (blk_ER1 hW) rfl (by simp [EU]) (by decide) (.inl rfl) (by omega) (by omega) (by omega)).mono ?_
    rintro e w' ⟨J, h1, h2, h3⟩
    have hJ := h1.one ehole_put
    subst hJ
    rcases h3 with ⟨h4, _⟩ | ⟨_, A', c', h5, _, h6⟩
    · simp at h4
    · exact ⟨A', c', h5, h6, h2⟩
  have HS : Hid (∀ A c g W, ER W A [⟨0, 4, 1⟩, ⟨6, 4, 1⟩] → Blk W g 47 #[.int .u64 0, .int .u64 4, .int .i64 1, .int .u64 6, .int .u64 4, .int .i64 1] → Calls Try.prog 13 #[.slice A 2 c, .slice (some ⟨g, 0, none⟩) 2 2] W fun e w' => e = .returned (.bool true) ∧ Below W.heap.size W w') := Lib.hid fun A c g W h1 h2 =>
    ersame_any A (some ⟨g, 0, none⟩) c 2 2 2 [⟨0, 4, 1⟩, ⟨6, 4, 1⟩] [⟨0, 4, 1⟩, ⟨6, 4, 1⟩] W h1 (blk_ER1 h2) rfl rfl (by omega) (by omega)
  go_enter Try.func14, Try.ntmps14
  go_wp2_with fail
  refine (HP.out _ (Blk.new _ _ _)).mono ?_
  rintro e w1 ⟨A1, c1, rfl, hr1, hb1⟩
  have HB1 := Lib.hid (bt (ba (Below.refl w.heap.size w) _) hb1)
  have HR1 := Lib.hid hr1
  clear hr1 hb1
  go_wp2_with fail
  refine (HS.out A1 c1 w1.heap.size _ (HR1.out.later (ba (Below.refl _ _) _)) (Blk.new _ _ _)).mono ?_
  rintro e w2 ⟨rfl, hb2⟩
  go_wp2
  go_ret
  exact ⟨rfl, bt (ba HB1.out _) hb2⟩
end Go.Proofs.Ythimnpiiehggnaa
/- The contracts of Query where it refuses, of At and of Count. -/
namespace Go.Proofs.Ythimnpiiehggnaa
open Go.RowKit

set_option maxHeartbeats 1000000 in
theorem equery_arg (A : Option Addr) (N c : Nat) (L : List Rn) (f n : Int) (w : World) (hA : ER w A L) (hl : L.length = N) (hN : N ≤ 65536) (hu : ∀ r ∈ L, EU r) (h : ¬ ERt L) :
    Calls Try.prog 20 #[.slice A N c, .agg #[.int .u64 f, .int .u64 n]] w fun e w' => e = .returned (.tuple #[.slice none 0 0, .int .i64 1]) ∧ Below w.heap.size w w' := by
  have HR : Hid (∀ W, Below w.heap.size w W → Calls Try.prog 10 #[.slice A N c] W fun e w' => e = .returned (.bool (decide (ERt L))) ∧ Below W.heap.size W w') := Lib.hid fun W hb => eright_any A N c L W (hA.later hb) hl hN hu
  rw [decide_eq_false h] at HR
  clear hA hl hN hu h
  go_enter Try.func20, Try.ntmps20
  go_wp2_with fail
  refine (HR.out _ (ba (Below.refl _ _) _)).mono ?_
  rintro e w1 ⟨rfl, hb1⟩
  go_wp2
  go_ret2
  exact ⟨rfl, bt (ba (Below.refl _ _) _) hb1⟩
set_option maxHeartbeats 1000000 in
theorem equery_bad (A : Option Addr) (N c : Nat) (L : List Rn) (f n : Int) (w : World) (hA : ER w A L) (hl : L.length = N) (hN : N ≤ 65536) (hu : ∀ r ∈ L, EU r) (h : ERt L) (f0 : 0 ≤ f) (f1 : f ≤ 18446744073709551615) (n0 : 0 ≤ n) (n1 : n ≤ 18446744073709551615) (hb : ewhy f n ≠ 0) :
    Calls Try.prog 20 #[.slice A N c, .agg #[.int .u64 f, .int .u64 n]] w fun e w' => e = .returned (.tuple #[.slice none 0 0, .int .i64 (ewhy f n)]) ∧ Below w.heap.size w w' := by
  have HR : Hid (∀ W, Below w.heap.size w W → Calls Try.prog 10 #[.slice A N c] W fun e w' => e = .returned (.bool (decide (ERt L))) ∧ Below W.heap.size W w') := Lib.hid fun W hb => eright_any A N c L W (hA.later hb) hl hN hu
  have HC := Lib.hid (fun W => ecb_any f n W f0 f1 n0 n1)
  rw [decide_eq_true h] at HR
  generalize ewhy f n = y at HC hb ⊢
  have e1 : (y == 0) = false := by simpa using hb
  have e2 : (y != 0) = true := by simpa using hb
  clear hA hl hN hu hb f0 f1 n0 n1 h
  go_enter Try.func20, Try.ntmps20
  go_wp2_with fail
  refine (HR.out _ (ba (Below.refl _ _) _)).mono ?_
  rintro e w1 ⟨rfl, hb1⟩
  have HK1 := Lib.hid ((Blk.new w 37 #[.int .u64 f, .int .u64 n]).below hb1)
  have HB1 := Lib.hid (bt (ba (Below.refl w.heap.size w) _) hb1)
  have q0 : w1.cell? ⟨w.heap.size, 0, none⟩ = some (.int .u64 f) := HK1.out.cell 0
  have q1 : w1.cell? ⟨w.heap.size, 1, none⟩ = some (.int .u64 n) := HK1.out.cell 1
  clear hb1
  go_wp2_with fail
  refine (HC.out _).mono ?_
  rintro e w3 ⟨rfl, hb3⟩
  go_wp2
  go_ret2
  exact ⟨rfl, bt HB1.out hb3⟩

/-- How many blocks. -/
def ecount (L : List Rn) : Int := (L.map fun r => r.n).sum
theorem ecount_more (L : List Rn) (k : Nat) (h : k < L.length) : ecount (L.take (k + 1)) = ecount (L.take k) + (L.getD k default).n := by
  have e : L.take (k + 1) = L.take k ++ [L.getD k default] := by
    rw [← List.take_append_getElem h]
    simp [List.getD, h]
  unfold ecount
  rw [e, List.map_append, List.sum_append]
  simp
theorem ecount_le {L : List Rn} : ∀ {a p : Int}, EC a p L → (∀ r ∈ L, r.f + r.n ≤ 576460752303423488) → a ≤ 576460752303423488 → 0 ≤ ecount L ∧ a + ecount L ≤ 576460752303423488 := by
  induction L with
  | nil => intro a p _ _ h; unfold ecount; simp; exact h
  | cons r L ih =>
    intro a p h hb ha
    obtain ⟨h1, h2, h3⟩ := h
    have hr := hb r (List.mem_cons_self ..)
    have := ih h3 (fun q hq => hb q (List.mem_cons_of_mem _ hq)) hr
    unfold ecount at this ⊢
    simp only [List.map_cons, List.sum_cons]
    omega
theorem ecount_take {L : List Rn} (h : ERt L) (k : Nat) : 0 ≤ ecount (L.take k) ∧ ecount (L.take k) ≤ 576460752303423488 := by
  have h1 : EC 0 3 (L.take k) := by
    have := h.ec
    rw [← List.take_append_drop k L, ec_append] at this
    exact this.1
  have := ecount_le h1 (fun r hr => (h.ok r (List.mem_of_mem_take hr)).2.2.1) (by omega)
  omega

set_option maxRecDepth 100000 in
set_option maxHeartbeats 2000000 in
theorem ecount_arg (A : Option Addr) (N c : Nat) (L : List Rn) (w : World) (hA : ER w A L) (hl : L.length = N) (hN : N ≤ 65536) (hu : ∀ r ∈ L, EU r) (h : ¬ ERt L) :
    Calls Try.prog 8 #[.slice A N c] w fun e w' => e = .returned (.tuple #[.int .u64 0, .int .i64 1]) ∧ Below w.heap.size w w' := by
  have HR := Lib.hid (eright_any A N c L w hA hl hN hu)
  rw [decide_eq_false h] at HR
  clear hA hl hN hu h
  go_enter Try.func8, Try.ntmps8
  go_wp2_with fail
  refine (HR.out).mono ?_
  rintro e w1 ⟨rfl, hb1⟩
  go_wp2
  go_ret2
  exact ⟨rfl, hb1⟩
set_option maxRecDepth 100000 in
set_option maxHeartbeats 2000000 in
theorem ecount_yes (A : Option Addr) (N c : Nat) (L : List Rn) (w : World) (hA : ER w A L) (hl : L.length = N) (hu : ∀ r ∈ L, EU r) (h : ERt L) :
    Calls Try.prog 8 #[.slice A N c] w fun e w' => e = .returned (.tuple #[.int .u64 (ecount L), .int .i64 0]) ∧ Below w.heap.size w w' := by
  have hN : N ≤ 64 := by rw [← hl]; exact h.1
  have HR := Lib.hid (eright_any A N c L w hA hl (by omega) hu)
  rw [decide_eq_true h] at HR
  have HA := Lib.hid hA
  have HL := Lib.hid hl
  have HT := Lib.hid (fun k => ecount_take h k)
  have HM : Hid (∀ k, k < N → ecount (L.take (k + 1)) = ecount (L.take k) + (L.getD k default).n) := Lib.hid fun k hk => ecount_more L k (by omega)
  have H0 : Hid (ecount (L.take 0) = 0) := Lib.hid rfl
  have HE : Hid (ecount (L.take N) = ecount L) := Lib.hid (by rw [← hl, List.take_length])
  generalize ecount L = E at HE ⊢
  clear hA hl hu h
  go_enter Try.func8, Try.ntmps8
  go_wp2_with fail
  refine (HR.out).mono ?_
  rintro e w1 ⟨rfl, hb1⟩
  go_wp2_with fail
  go_loopw [4, 12] (fun sv iv wr => ∃ (k : Nat) (s : Int), k ≤ N ∧ iv = .int .i64 k ∧ sv = .int .u64 s ∧ Hid (ecount (L.take k) = s) ∧ Below w.heap.size w wr) (fun _ i _ => N - (intOf i).toNat)
  case atStart => exact ⟨0, 0, Nat.zero_le _, rfl, rfl, H0, hb1⟩
  case round =>
    obtain ⟨k, s, hk, rfl, rfl, HS, hb⟩ := hrel
    by_cases hlt : k < N
    · obtain ⟨g, off, rfl, d0, d1, d2⟩ := (HA.out.later hb) k (by rw [HL.out]; exact hlt)
      have HM1 := HM.out k hlt
      have h1 := HT.out k
      have h2 := HT.out (k + 1)
      rw [HM1, HS.out] at h2
      rw [HS.out] at HM1 h1
      have HM1 := Lib.hid HM1
      have i0 : (0 : Int) ≤ (k : Int) := by omega
      have i1 : (k : Int) < (N : Int) := by omega
      generalize L.getD k default = x at d0 d1 d2 HM1 h2
      obtain ⟨xf, xn, xs⟩ := x
      simp only at d0 d1 d2 HM1 h2
      go_wp2
      exact ⟨⟨k + 1, s + xn, by omega, by go_num, rfl, Lib.hid HM1.out, ba hb _⟩, by simp [intOf]; omega⟩
    · obtain rfl : k = N := by omega
      have HF : Hid (s = E) := Lib.hid (by rw [← HS.out, HE.out])
      go_wp2
      go_ret2
      rw [HF.out]
      exact ⟨rfl, hb⟩

theorem eat_cons (r : Rn) (L : List Rn) (x : Int) : eAt (r :: L) x = if r.f ≤ x ∧ x < r.f + r.n then r.s else eAt L x := rfl
set_option maxRecDepth 100000 in
set_option maxHeartbeats 2000000 in
theorem eat_arg (A : Option Addr) (N c : Nat) (L : List Rn) (x : Int) (w : World) (hA : ER w A L) (hl : L.length = N) (hN : N ≤ 65536) (hu : ∀ r ∈ L, EU r) (h : ¬ ERt L) :
    Calls Try.prog 9 #[.slice A N c, .int .u64 x] w fun e w' => e = .returned (.tuple #[.int .i64 0, .int .i64 1]) ∧ Below w.heap.size w w' := by
  have HR := Lib.hid (eright_any A N c L w hA hl hN hu)
  rw [decide_eq_false h] at HR
  clear hA hl hN hu h
  go_enter Try.func9, Try.ntmps9
  go_wp2_with fail
  refine (HR.out).mono ?_
  rintro e w1 ⟨rfl, hb1⟩
  go_wp2
  go_ret2
  exact ⟨rfl, hb1⟩
set_option maxRecDepth 100000 in
set_option maxHeartbeats 2000000 in
theorem eat_range (A : Option Addr) (N c : Nat) (L : List Rn) (x : Int) (w : World) (hA : ER w A L) (hl : L.length = N) (hN : N ≤ 65536) (hu : ∀ r ∈ L, EU r) (h : ERt L) (hx : 576460752303423488 ≤ x) :
    Calls Try.prog 9 #[.slice A N c, .int .u64 x] w fun e w' => e = .returned (.tuple #[.int .i64 0, .int .i64 2]) ∧ Below w.heap.size w w' := by
  have HR := Lib.hid (eright_any A N c L w hA hl hN hu)
  rw [decide_eq_true h] at HR
  clear hA hl hN hu h
  go_enter Try.func9, Try.ntmps9
  go_wp2_with fail
  refine (HR.out).mono ?_
  rintro e w1 ⟨rfl, hb1⟩
  go_wp2
  go_ret2
  exact ⟨rfl, hb1⟩
set_option maxRecDepth 100000 in
set_option maxHeartbeats 2000000 in
theorem eat_yes (A : Option Addr) (N c : Nat) (L : List Rn) (x : Int) (w : World) (hA : ER w A L) (hl : L.length = N) (hu : ∀ r ∈ L, EU r) (h : ERt L) (hx : x < 576460752303423488) :
    Calls Try.prog 9 #[.slice A N c, .int .u64 x] w fun e w' => e = .returned (.tuple #[.int .i64 (eAt L x), .int .i64 0]) ∧ Below w.heap.size w w' := by
  have hN : N ≤ 64 := by rw [← hl]; exact h.1
  have HR := Lib.hid (eright_any A N c L w hA hl (by omega) hu)
  rw [decide_eq_true h] at HR
  have HA := Lib.hid hA
  have HL := Lib.hid hl
  have HOK : Hid (∀ k, k < N → EOk (L.getD k default)) := Lib.hid fun k hk => h.ok _ (egetD_mem (by omega))
  have HD : Hid (∀ k, k < N → L.drop k = L.getD k default :: L.drop (k + 1)) := Lib.hid fun k hk => by
    have hlt : k < L.length := by omega
    rw [List.drop_eq_getElem_cons hlt]
    simp [List.getD, hlt]
  have H0 : Hid (eAt (L.drop 0) x = eAt L x) := Lib.hid rfl
  have HE : Hid (eAt (L.drop N) x = 0) := Lib.hid (by rw [← hl, List.drop_length]; rfl)
  have hd : decide (576460752303423488 ≤ x) = false := by simp; omega
  generalize eAt L x = V at H0 ⊢
  clear hA hl hu h
  go_enter Try.func9, Try.ntmps9
  go_wp2_with fail
  refine (HR.out).mono ?_
  rintro e w1 ⟨rfl, hb1⟩
  go_wp2_with fail
  go_loopw [15] (fun iv wr => ∃ (k : Nat), k ≤ N ∧ iv = .int .i64 k ∧ Hid (eAt (L.drop k) x = V) ∧ Below w.heap.size w wr) (fun i _ => N - (intOf i).toNat)
  case atStart => exact ⟨0, Nat.zero_le _, rfl, H0, hb1⟩
  case round =>
    obtain ⟨k, hk, rfl, HS, hb⟩ := hrel
    by_cases hlt : k < N
    · obtain ⟨g, off, rfl, d0, d1, d2⟩ := (HA.out.later hb) k (by rw [HL.out]; exact hlt)
      have HX := Lib.hid (HOK.out k hlt)
      rw [HD.out k hlt, eat_cons] at HS
      have i0 : (0 : Int) ≤ (k : Int) := by omega
      have i1 : (k : Int) < (N : Int) := by omega
      generalize L.getD k default = y at d0 d1 d2 HX HS
      have HN := Lib.hid (fun W => eend_any y W HX.out.1 (by have := HX.out.2.1; omega) (by have := HX.out.2.2.1; omega))
      have HB := Lib.hid (ba hb (.cells #[.int .u64 y.f, .int .u64 y.n, .int .i64 y.s] 47))
      have HK := Lib.hid (Blk.new wr 47 #[.int .u64 y.f, .int .u64 y.n, .int .i64 y.s])
      by_cases h1 : y.f ≤ x
      · by_cases h2 : x < y.f + y.n
        · have HV : Hid (V = y.s) := Lib.hid (by rw [← HS.out, if_pos ⟨h1, h2⟩])
          go_wp2_with fail
          refine (HN.out _).mono ?_
          rintro e w2 ⟨rfl, hb2⟩
          have r2 : w2.cell? ⟨wr.heap.size, 2, none⟩ = some (.int .i64 y.s) := (HK.out.below hb2).cell 2
          have HB2 := Lib.hid (bt HB.out hb2)
          go_wp2
          go_ret2
          rw [HV.out]
          exact ⟨rfl, HB2.out⟩
        · have HV : Hid (eAt (L.drop (k + 1)) x = V) := Lib.hid (by rw [← HS.out, if_neg (fun h => h2 h.2)])
          have e2 : decide (x < y.f + y.n) = false := by simpa using h2
          clear h2
          go_wp2_with fail
          refine (HN.out _).mono ?_
          rintro e w2 ⟨rfl, hb2⟩
          have HB2 := Lib.hid (bt HB.out hb2)
          go_wp2
          exact ⟨⟨k + 1, by omega, by go_num, HV, HB2.out⟩, by simp [intOf]; omega⟩
      · have HV : Hid (eAt (L.drop (k + 1)) x = V) := Lib.hid (by rw [← HS.out, if_neg (fun h => h1 h.1)])
        have e2 : decide (y.f ≤ x) = false := by simpa using h1
        clear h1
        go_wp2
        exact ⟨⟨k + 1, by omega, by go_num, HV, HB.out⟩, by simp [intOf]; omega⟩
    · obtain rfl : k = N := by omega
      have HF : Hid (V = 0) := Lib.hid (by rw [← HS.out, HE.out])
      go_wp2
      go_ret2
      rw [HF.out]
      exact ⟨rfl, hb⟩
end Go.Proofs.Ythimnpiiehggnaa
