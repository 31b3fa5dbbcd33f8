/- The walk of BitmapTakes. -/
import Derived.Test.YthknelpcdoebiaaZGetC
import Derived.Deep.DeepCutAuto
import Derived.Deep.CutRange
namespace Go.Proofs.Ythknelpcdoebiaa
open Go.RowKit

/-- A row that does not lie in a block. -/
def ZOff (A : Option Addr) (b : Nat) : Prop := ∀ a, A = some a → a.block ≠ b
theorem ZM.far {W : World} {A : Option Addr} {n c : Nat} {L : List Nat} {F : Nat} (h : ZM W A n c L F) {p : Addr} (hp : ZOff A p.block) (u : Value) : ZM (W.setCell p u) A n c L F := by
  refine ⟨fun j hj => ?_, h.len, h.nil, h.few, h.cap, h.lt, h.flt⟩
  obtain ⟨g, off, e, h0⟩ := h.row j hj
  refine ⟨g, off, e, ?_⟩
  exact (World.cell?_of_block (a := ⟨g, off + j, Option.none⟩) (Below.heap_setCell W p u g (hp _ e))).trans h0
theorem ZOff.mk_ {g b : Nat} (h : b < g) : ZOff (some ⟨g, 0, none⟩) b := fun a e => by
  cases e
  exact Nat.ne_of_gt h

set_option maxRecDepth 100000 in
set_option maxHeartbeats 8000000 in
theorem takes_no (N i many : Int) (A : Option Addr) (n n2 c F : Nat) (b : Bool) (ee : Int) (w : World)
    (HFew : Hid (∀ W, Calls Try.prog 7 #[zbv N A n c F] W fun e w' => e = .returned (zbv N A n2 c F) ∧ Below W.heap.size W w'))
    (HSet : Hid (∀ W, Below w.heap.size w W → Calls Try.prog 15 #[zbv N A n2 c F, .int .i64 i, .bool b] W fun e w' => e = .returned (.tuple #[.agg #[.int .i64 0, .slice none 0 0, .int .u64 0], .int .i64 ee]) ∧ Below W.heap.size W w'))
    (HL : Hid (∀ W, Calls Try.prog 13 #[] W fun e w' => e = .returned (.bool true) ∧ Below W.heap.size W w'))
    (P : ee = 1 ∨ ee = 2) :
    Calls Try.prog 6 #[zbv N A n c F, .int .i64 i, .int .i64 many, .bool b] w fun e w' => e = .returned (.bool true) ∧ Below w.heap.size w w' := by
  have HB := Lib.hid (zbox_below w N A n c F)
  have HK := Lib.hid (zbox_blk w N A n c F)
  rcases P with rfl | rfl
  all_goals
    go_enter Try.func6, Try.ntmps6
    go_wp2_with fail
    refine (HFew.out _).mono ?_
    rintro e w1 ⟨rfl, hb1⟩
    have k1 := HK.out.below hb1
    obtain ⟨⟨q0, q1, q2⟩, f0, f1, f2⟩ := zcells k1
    have B2 : Hid (Below w.heap.size w (((w1.setCell ⟨w.heap.size, 0, none⟩ (.int .i64 N)).setCell ⟨w.heap.size, 1, none⟩ (.slice A n2 c)).setCell ⟨w.heap.size, 2, none⟩ (zq F))) := Lib.hid (bs (bs (bs (bt HB.out hb1) (Nat.le_refl _) _) (Nat.le_refl _) _) (Nat.le_refl _) _)
    clear k1 hb1
    go_wp2_with fail
    generalize (((w1.setCell ⟨w.heap.size, 0, none⟩ (.int .i64 N)).setCell ⟨w.heap.size, 1, none⟩ (.slice A n2 c)).setCell ⟨w.heap.size, 2, none⟩ (zq F)) = w2 at B2 ⊢
    clear q0 q1 q2 f0 f1 f2
    refine (HSet.out _ B2.out).mono ?_
    rintro e w3 ⟨rfl, hb3⟩
    have B4 : Hid (Below w.heap.size w (w3.alloc (.cells #[.int .i64 0, .slice none 0 0, .int .u64 0] 25))) := Lib.hid (ba (bt B2.out hb3) _)
    have S4 : Hid (Blk (w3.alloc (.cells #[.int .i64 0, .slice none 0 0, .int .u64 0] 25)) w3.heap.size 25 #[.int .i64 0, .slice none 0 0, .int .u64 0]) := Lib.hid (Blk.new _ _ _)
    clear hb3 B2
    go_wp2_with fail
    generalize w3.alloc (.cells #[.int .i64 0, .slice none 0 0, .int .u64 0] 25) = w4 at B4 S4 ⊢
    refine (HL.out _).mono ?_
    rintro e w7 ⟨rfl, hb7⟩
    have B7 := Lib.hid (bt B4.out hb7)
    have S7 := Lib.hid (S4.out.below hb7)
    clear hb7 B4 S4
    obtain ⟨⟨q0, q1, q2⟩, _⟩ := zcells S7.out
    go_wp2
    go_ret
    exact ⟨rfl, B7.out⟩

set_option maxRecDepth 100000 in
set_option maxHeartbeats 16000000 in
theorem takes_yes (N i : Nat) (A : Option Addr) (n0 n c F G : Nat) (b : Bool) (many : Int) (tl ts : Nat → Bool) (S : List Nat) (M : Nat → List Nat) (FM : Nat → Nat) (x f cnt : Int) (a mm : Nat) (w : World)
    (HFew : Hid (∀ W, Calls Try.prog 7 #[zbv (N : Int) A n0 c F] W fun e w' => e = .returned (zbv (N : Int) A n c F) ∧ Below W.heap.size W w'))
    (HSet : Hid (∀ W, Below w.heap.size w W → Calls Try.prog 15 #[zbv (N : Int) A n c F, .int .i64 (i : Int), .bool b] W fun e w' => ∃ g c', e = .returned (.tuple #[zbv (N : Int) (some ⟨g, 0, none⟩) n c' G, .int .i64 0]) ∧ ZM w' (some ⟨g, 0, none⟩) n c' S G ∧ W.heap.size < g ∧ Below W.heap.size W w'))
    (HGm : Hid (∀ (k : Nat) W, k < N → Below w.heap.size w W → Calls Try.prog 16 #[zbv (N : Int) A n c F, .int .i64 (k : Int)] W fun e w' => e = .returned (.tuple #[.bool (tl k), .int .i64 0]) ∧ Below W.heap.size W w'))
    (HGs : Hid (∀ (k : Nat) W A' c', k < N → ZM W A' n c' S G → Calls Try.prog 16 #[zbv (N : Int) A' n c' G, .int .i64 (k : Int)] W fun e w' => e = .returned (.tuple #[.bool (ts k), .int .i64 0]) ∧ Below W.heap.size W w'))
    (Hts : Hid (∀ k, ts k = if k = i then b else tl k))
    (HFi : Hid (∀ W, Below w.heap.size w W → Calls Try.prog 20 #[zbv (N : Int) A n c F, .int .i64 many] W fun e w' => e = .returned (.tuple #[.int .i64 x, .int .i64 f]) ∧ Below W.heap.size W w'))
    (HCo : Hid (∀ W, Below w.heap.size w W → Calls Try.prog 19 #[zbv (N : Int) A n c F] W fun e w' => e = .returned (.tuple #[.int .i64 cnt, .int .i64 0]) ∧ Below W.heap.size W w'))
    (HRs : Hid (∀ W A' c', ZM W A' n c' S G → Calls Try.prog 9 #[zbv (N : Int) A' n c' G] W fun e w' => e = .returned (.bool true) ∧ Below W.heap.size W w'))
    (HL : Hid (∀ W, Calls Try.prog 13 #[] W fun e w' => e = .returned (.bool true) ∧ Below W.heap.size W w'))
    (HM0 : Hid (ZM w A n c (M 0) (FM 0) ∧ FM 0 = F ∧ ZOff A w.heap.size))
    (HG2 : Hid (∀ (j : Nat) W A' c', j < mm → ZM W A' n c' (M j) (FM j) → Calls Try.prog 16 #[zbv (N : Int) A' n c' (FM j), .int .i64 ((a + j : Nat) : Int)] W fun e w' => e = .returned (.tuple #[.bool false, .int .i64 0]) ∧ Below W.heap.size W w'))
    (HS2 : Hid (∀ (j : Nat) W A' c', j < mm → ZM W A' n c' (M j) (FM j) → Calls Try.prog 15 #[zbv (N : Int) A' n c' (FM j), .int .i64 ((a + j : Nat) : Int), .bool true] W fun e w' => ∃ g c', e = .returned (.tuple #[zbv (N : Int) (some ⟨g, 0, none⟩) n c' (FM (j + 1)), .int .i64 0]) ∧ ZM w' (some ⟨g, 0, none⟩) n c' (M (j + 1)) (FM (j + 1)) ∧ W.heap.size < g ∧ Below W.heap.size W w'))
    (HC2 : Hid (∀ W A' c', ZM W A' n c' (M mm) (FM mm) → Calls Try.prog 19 #[zbv (N : Int) A' n c' (FM mm)] W fun e w' => e = .returned (.tuple #[.int .i64 (cnt + (mm : Int)), .int .i64 0]) ∧ Below W.heap.size W w'))
    (HR2 : Hid (∀ W A' c', ZM W A' n c' (M mm) (FM mm) → Calls Try.prog 9 #[zbv (N : Int) A' n c' (FM mm)] W fun e w' => e = .returned (.bool true) ∧ Below W.heap.size W w'))
    (hN : N ≤ 4096) (hc0 : 0 ≤ cnt) (hc1 : cnt ≤ 4096)
    (P : f = 4 ∨ f = 6 ∨ (f = 0 ∧ x = (a : Int) ∧ many = (mm : Int) ∧ a + mm ≤ N)) :
    Calls Try.prog 6 #[zbv (N : Int) A n0 c F, .int .i64 (i : Int), .int .i64 many, .bool b] w fun e w' => e = .returned (.bool true) ∧ Below w.heap.size w w' := by
  have HB := Lib.hid (zbox_below w N A n0 c F)
  have HK := Lib.hid (zbox_blk w N A n0 c F)
  have HP := Lib.hid P
  clear P
  go_enter Try.func6, Try.ntmps6
  go_wp2_with fail
  refine (HFew.out _).mono ?_
  rintro e w1 ⟨rfl, hb1⟩
  have k1 := HK.out.below hb1
  obtain ⟨⟨q0, q1, q2⟩, f0, f1, f2⟩ := zcells k1
  have B2 : Hid (Below w.heap.size w (((w1.setCell ⟨w.heap.size, 0, none⟩ (.int .i64 (N : Int))).setCell ⟨w.heap.size, 1, none⟩ (.slice A n c)).setCell ⟨w.heap.size, 2, none⟩ (zq F))) := Lib.hid (bs (bs (bs (bt HB.out hb1) (Nat.le_refl _) _) (Nat.le_refl _) _) (Nat.le_refl _) _)
  have K2 : Hid (Blk (((w1.setCell ⟨w.heap.size, 0, none⟩ (.int .i64 (N : Int))).setCell ⟨w.heap.size, 1, none⟩ (.slice A n c)).setCell ⟨w.heap.size, 2, none⟩ (zq F)) w.heap.size 25 (zcs (N : Int) A n c F)) := Lib.hid (((k1.set_ 0 _).set_ 1 _).set_ 2 _)
  clear k1 hb1
  go_wp2_with fail
  generalize (((w1.setCell ⟨w.heap.size, 0, none⟩ (.int .i64 (N : Int))).setCell ⟨w.heap.size, 1, none⟩ (.slice A n c)).setCell ⟨w.heap.size, 2, none⟩ (zq F)) = w2 at B2 K2 ⊢
  clear q0 q1 q2 f0 f1 f2 HB HK HFew
  refine (HSet.out _ B2.out).mono ?_
  rintro e w3 ⟨gs, cs, rfl, hM3, hgs, hb3⟩
  have hlt3 : w.heap.size < w3.heap.size := Nat.lt_of_lt_of_le K2.out.lt hb3.size
  have hgs2 : w.heap.size < gs := Nat.lt_trans K2.out.lt hgs
  have HLT := Lib.hid (And.intro hlt3 (ZOff.mk_ hgs2))
  have k3 := K2.out.below hb3
  obtain ⟨⟨q0, q1, q2⟩, _⟩ := zcells k3
  have B4 : Hid (Below w.heap.size w (w3.alloc (.cells (zcs (N : Int) (some ⟨gs, 0, none⟩) n cs G) 25))) := Lib.hid (ba (bt B2.out hb3) _)
  have K4 : Hid (Blk (w3.alloc (.cells (zcs (N : Int) (some ⟨gs, 0, none⟩) n cs G) 25)) w.heap.size 25 (zcs (N : Int) A n c F)) := Lib.hid (k3.alloc _)
  have S4 : Hid (Blk (w3.alloc (.cells (zcs (N : Int) (some ⟨gs, 0, none⟩) n cs G) 25)) w3.heap.size 25 (zcs (N : Int) (some ⟨gs, 0, none⟩) n cs G)) := Lib.hid (Blk.new _ _ _)
  have M4 : Hid (ZM (w3.alloc (.cells (zcs (N : Int) (some ⟨gs, 0, none⟩) n cs G) 25)) (some ⟨gs, 0, none⟩) n cs S G) := Lib.hid (hM3.later (ba (Below.refl _ _) _))
  obtain ⟨⟨t0, t1, t2⟩, _⟩ := zcells K4.out
  clear k3 hb3 B2 K2 hM3 hlt3 hgs hgs2 HSet
  go_wp2_with fail
  generalize w3.alloc (.cells (zcs (N : Int) (some ⟨gs, 0, none⟩) n cs G) 25) = w4 at B4 K4 S4 M4 t0 t1 t2 ⊢
  clear q0 q1 q2 t0 t1 t2
  go_loopw [46] (fun kv wr => ∃ k : Nat, k ≤ N ∧ kv = .int .i64 (k : Int) ∧ Hid (Below w.heap.size w wr) ∧ Hid (Blk wr w.heap.size 25 (zcs (N : Int) A n c F)) ∧ Hid (Blk wr w3.heap.size 25 (zcs (N : Int) (some ⟨gs, 0, none⟩) n cs G)) ∧ Hid (ZM wr (some ⟨gs, 0, none⟩) n cs S G)) (fun kv _ => N - (intOf kv).toNat)
  case atStart => exact ⟨0, Nat.zero_le _, rfl, B4, K4, S4, M4⟩
  case round =>
    clear B4 K4 S4 M4
    obtain ⟨k, hk, rfl, B4, K4, S4, M4⟩ := hrel
    obtain ⟨⟨q0, q1, q2⟩, _⟩ := zcells K4.out
    by_cases hlt : k < N
    · have hli : (k : Int) < (N : Int) := by omega
      have HG1 := Lib.hid (fun W (hb : Below w.heap.size w W) => HGm.out k W hlt hb)
      have HG3 := Lib.hid (fun W A' c' (h : ZM W A' n c' S G) => HGs.out k W A' c' hlt h)
      have HT := Lib.hid (Hts.out k)
      generalize tl k = t at HG1 HT
      generalize ts k = s at HG3 HT
      go_wp2_with fail
      refine (HG1.out _ B4.out).mono ?_
      rintro e w5 ⟨rfl, hb5⟩
      have B5 := Lib.hid (bt B4.out hb5)
      have K5 := Lib.hid (K4.out.below hb5)
      have S5 := Lib.hid (S4.out.below hb5)
      have M5 := Lib.hid (M4.out.later hb5)
      clear hb5 B4 K4 S4 M4 q0 q1 q2
      obtain ⟨⟨q0, q1, q2⟩, _⟩ := zcells S5.out
      go_wp2_with fail
      refine (HG3.out _ _ _ M5.out).mono ?_
      rintro e w6 ⟨rfl, hb6⟩
      have B6 := Lib.hid (bt B5.out hb6)
      have K6 := Lib.hid (K5.out.below hb6)
      have S6 := Lib.hid (S5.out.below hb6)
      have M6 := Lib.hid (M5.out.later hb6)
      clear hb6 B5 K5 S5 M5 q0 q1 q2
      by_cases hki : k = i
      · have e1 : ((k : Int) == (i : Int)) = true := by simp only [beq_iff_eq]; omega
        have e2 : ((k : Int) != (i : Int)) = false := by simp only [bne_eq_false_iff_eq]; omega
        have hs : s = b := by rw [HT.out, if_pos hki]
        clear hki HT HG1 HG3
        subst hs
        cases s
        all_goals
          go_wp2_with fail
          exact ⟨⟨k + 1, by omega, by go_num, B6, K6, S6, M6⟩, by simp [intOf]; omega⟩
      · have e1 : ((k : Int) == (i : Int)) = false := by simp only [beq_eq_false_iff_ne]; omega
        have e2 : ((k : Int) != (i : Int)) = true := by simp only [bne_iff_ne, ne_eq]; omega
        have hs : s = t := by rw [HT.out, if_neg hki]
        clear hki HT HG1 HG3
        subst hs
        cases s
        all_goals
          go_wp2_with fail
          exact ⟨⟨k + 1, by omega, by go_num, B6, K6, S6, M6⟩, by simp [intOf]; omega⟩
    · obtain rfl : k = N := by omega
      clear HGm HGs Hts hlt hk
      go_wp2_with fail
      refine (HFi.out _ B4.out).mono ?_
      rintro e w5 ⟨rfl, hb5⟩
      have B5 := Lib.hid (bt B4.out hb5)
      have K5 := Lib.hid (K4.out.below hb5)
      have S5 := Lib.hid (S4.out.below hb5)
      have M5 := Lib.hid (M4.out.later hb5)
      clear hb5 B4 K4 S4 M4 q0 q1 q2 HFi
      obtain ⟨⟨q0, q1, q2⟩, _⟩ := zcells K5.out
      go_wp2_with fail
      refine (HCo.out _ B5.out).mono ?_
      rintro e w6 ⟨rfl, hb6⟩
      have B6 := Lib.hid (bt B5.out hb6)
      have K6 := Lib.hid (K5.out.below hb6)
      have S6 := Lib.hid (S5.out.below hb6)
      have M6 := Lib.hid (M5.out.later hb6)
      clear hb6 B5 K5 S5 M5 q0 q1 q2 HCo
      rcases HP.out with rfl | rfl | ⟨rfl, rfl, rfl, hmm⟩
      · go_wp2_with fail
        refine (HL.out _).mono ?_
        rintro e w7 ⟨rfl, hb7⟩
        have B7 := Lib.hid (bt B6.out hb7)
        have S7 := Lib.hid (S6.out.below hb7)
        have M7 := Lib.hid (M6.out.later hb7)
        clear hb7
        obtain ⟨⟨q0, q1, q2⟩, _⟩ := zcells S7.out
        go_wp2_with fail
        refine (HRs.out _ _ _ M7.out).mono ?_
        rintro e w8 ⟨rfl, hb8⟩
        go_wp2
        go_ret
        exact ⟨rfl, bt B7.out hb8⟩
      · go_wp2_with fail
        refine (HL.out _).mono ?_
        rintro e w7 ⟨rfl, hb7⟩
        have B7 := Lib.hid (bt B6.out hb7)
        have S7 := Lib.hid (S6.out.below hb7)
        have M7 := Lib.hid (M6.out.later hb7)
        clear hb7
        obtain ⟨⟨q0, q1, q2⟩, _⟩ := zcells S7.out
        go_wp2_with fail
        refine (HRs.out _ _ _ M7.out).mono ?_
        rintro e w8 ⟨rfl, hb8⟩
        go_wp2
        go_ret
        exact ⟨rfl, bt B7.out hb8⟩
      · have X6 : Hid (ZM w6 A n c (M 0) (FM 0)) := Lib.hid (HM0.out.1.later B6.out)
        have K6 : Hid (Blk w6 w.heap.size 25 (zcs (k : Int) A n c (FM 0))) := Lib.hid (by have := K6.out; rwa [← HM0.out.2.1] at this)
        have HOF := Lib.hid HM0.out.2.2
        clear HP HM0
        go_wp2_with fail
        go_loopw [20] (fun jv wr => ∃ (j c' : Nat) (A' : Option Addr), j ≤ mm ∧ jv = .int .i64 ((a + j : Nat) : Int) ∧ Hid (Below w.heap.size w wr) ∧ Hid (Blk wr w.heap.size 25 (zcs (k : Int) A' n c' (FM j))) ∧ Hid (ZM wr A' n c' (M j) (FM j)) ∧ Hid (ZOff A' w.heap.size) ∧ Hid (Blk wr w3.heap.size 25 (zcs (k : Int) (some ⟨gs, 0, none⟩) n cs G)) ∧ Hid (ZM wr (some ⟨gs, 0, none⟩) n cs S G)) (fun jv _ => a + mm - (intOf jv).toNat)
        case atStart => exact ⟨0, c, A, Nat.zero_le _, rfl, B6, K6, X6, HOF, S6, M6⟩
        case round =>
          clear B6 K6 X6 S6 M6 HOF
          obtain ⟨j, c', A', hj, rfl, B6, K6, X6, HOF, S6, M6⟩ := hrel
          obtain ⟨⟨q0, q1, q2⟩, _⟩ := zcells K6.out
          by_cases hlt : j < mm
          · have hli : ((a + j : Nat) : Int) < (a : Int) + (mm : Int) := by omega
            have HG1 := Lib.hid (fun W A' c' (h : ZM W A' n c' (M j) (FM j)) => HG2.out j W A' c' hlt h)
            have HS1 := Lib.hid (fun W A' c' (h : ZM W A' n c' (M j) (FM j)) => HS2.out j W A' c' hlt h)
            have hp4 : a + j ≤ 4096 := by omega
            have hpe : a + (j + 1) = a + j + 1 := by omega
            have HPE := Lib.hid hpe
            have HMEAS : Hid (a + mm - (a + j + 1) < a + mm - (a + j)) := Lib.hid (by omega)
            clear hpe
            obtain ⟨p, hp⟩ : ∃ p, a + j = p := ⟨_, rfl⟩
            rw [hp] at HG1 HS1 hp4 HPE HMEAS hli ⊢
            clear hp
            go_wp2_with fail
            refine (HG1.out _ _ _ X6.out).mono ?_
            rintro e w7 ⟨rfl, hb7⟩
            have B7 := Lib.hid (bt B6.out hb7)
            have K7 := Lib.hid (K6.out.below hb7)
            have X7 := Lib.hid (X6.out.later hb7)
            have S7 := Lib.hid (S6.out.below hb7)
            have M7 := Lib.hid (M6.out.later hb7)
            clear hb7 B6 K6 X6 S6 M6 q0 q1 q2 HG1
            obtain ⟨⟨q0, q1, q2⟩, _⟩ := zcells K7.out
            go_wp2_with fail
            refine (HS1.out _ _ _ X7.out).mono ?_
            rintro e w8 ⟨g8, c8, rfl, hX8, hg8, hb8⟩
            have HO8 := Lib.hid (ZOff.mk_ (Nat.lt_trans K7.out.lt hg8))
            have HT8 : Hid (w.heap.size < w8.heap.size) := Lib.hid (Nat.lt_of_lt_of_le K7.out.lt hb8.size)
            have B8 := Lib.hid (ba (bt B7.out hb8) (.cells (zcs (k : Int) (some ⟨g8, 0, none⟩) n c8 (FM (j + 1))) 25))
            have K8 := Lib.hid ((K7.out.below hb8).alloc (.cells (zcs (k : Int) (some ⟨g8, 0, none⟩) n c8 (FM (j + 1))) 25))
            have N8 := Lib.hid (Blk.new w8 25 (zcs (k : Int) (some ⟨g8, 0, none⟩) n c8 (FM (j + 1))))
            have X8 := Lib.hid (hX8.later (ba (Below.refl w8.heap.size w8) (.cells (zcs (k : Int) (some ⟨g8, 0, none⟩) n c8 (FM (j + 1))) 25)))
            have S8 := Lib.hid ((S7.out.below hb8).alloc (.cells (zcs (k : Int) (some ⟨g8, 0, none⟩) n c8 (FM (j + 1))) 25))
            have M8 := Lib.hid ((M7.out.later hb8).later (ba (Below.refl w8.heap.size w8) (.cells (zcs (k : Int) (some ⟨g8, 0, none⟩) n c8 (FM (j + 1))) 25)))
            clear hX8 hg8 hb8 B7 K7 X7 S7 M7 q0 q1 q2 HS1 HOF
            go_upto_region 22 with fail
            generalize w8.alloc (.cells (zcs (k : Int) (some ⟨g8, 0, none⟩) n c8 (FM (j + 1))) 25) = w9 at B8 K8 N8 X8 S8 M8 ⊢
            obtain ⟨⟨q0, q1, q2⟩, f0, f1, f2⟩ := zcells K8.out
            obtain ⟨⟨r0, r1, r2⟩, _⟩ := zcells N8.out
            go_wp2_with fail
            exact ⟨⟨j + 1, c8, some ⟨g8, 0, none⟩, by omega, by rw [HPE.out]; rfl,
              Lib.hid (bs (bs (bs B8.out (Nat.le_refl _) _) (Nat.le_refl _) _) (Nat.le_refl _) _),
              Lib.hid (((K8.out.set_ 0 _).set_ 1 _).set_ 2 _),
              Lib.hid (((X8.out.far HO8.out _).far HO8.out _).far HO8.out _), HO8,
              Lib.hid (((S8.out.far (by have := HLT.out.1; simp; omega) _).far (by have := HLT.out.1; simp; omega) _).far (by have := HLT.out.1; simp; omega) _),
              Lib.hid (((M8.out.far HLT.out.2 _).far HLT.out.2 _).far HLT.out.2 _)⟩, by have := HMEAS.out; simp [intOf]; omega⟩
          · obtain rfl : j = mm := by omega
            have hli : ¬ ((a + j : Nat) : Int) < (a : Int) + (j : Int) := by omega
            clear HG2 HS2
            go_wp2_with fail
            refine (HC2.out _ _ _ X6.out).mono ?_
            rintro e w7 ⟨rfl, hb7⟩
            have B7 := Lib.hid (bt B6.out hb7)
            have K7 := Lib.hid (K6.out.below hb7)
            have X7 := Lib.hid (X6.out.later hb7)
            have S7 := Lib.hid (S6.out.below hb7)
            have M7 := Lib.hid (M6.out.later hb7)
            clear hb7 B6 K6 X6 S6 M6 q0 q1 q2 HC2
            have hj4 : j ≤ 4096 := by omega
            go_wp2_with fail
            refine (HL.out _).mono ?_
            rintro e w8 ⟨rfl, hb8⟩
            have B8 := Lib.hid (bt B7.out hb8)
            have K8 := Lib.hid (K7.out.below hb8)
            have X8 := Lib.hid (X7.out.later hb8)
            have S8 := Lib.hid (S7.out.below hb8)
            have M8 := Lib.hid (M7.out.later hb8)
            clear hb8 B7 K7 X7 S7 M7
            obtain ⟨⟨q0, q1, q2⟩, _⟩ := zcells K8.out
            go_wp2_with fail
            refine (HR2.out _ _ _ X8.out).mono ?_
            rintro e w9 ⟨rfl, hb9⟩
            have B9 := Lib.hid (bt B8.out hb9)
            have S9 := Lib.hid (S8.out.below hb9)
            have M9 := Lib.hid (M8.out.later hb9)
            clear hb9 B8 K8 X8 S8 M8 q0 q1 q2
            obtain ⟨⟨q0, q1, q2⟩, _⟩ := zcells S9.out
            go_wp2_with fail
            refine (HRs.out _ _ _ M9.out).mono ?_
            rintro e w10 ⟨rfl, hb10⟩
            go_wp2
            go_ret
            exact ⟨rfl, bt B9.out hb10⟩
end Go.Proofs.Ythknelpcdoebiaa
