/- The contract of the reference's product: the long one. -/
import Derived.Test.YtlfghagidajpeaaGRBytes
namespace Go.Proofs.Ytlfghagidajpeaa
open Go.RowKit

theorem lonT_no1 (A B p i : Nat) (h : ¬ i ≤ p) : lonT A B p i = false := by simp [lonT, h]
theorem lonT_no2 (A B p i : Nat) (h : ¬ p < i + 128) : lonT A B p i = false := by simp [lonT, h]
theorem lonT_no3 (A B p i : Nat) (h : A.testBit i = false) : lonT A B p i = false := by simp [lonT, h]
theorem lonT_yes (A B p i : Nat) (h1 : i ≤ p) (h2 : p < i + 128) (h : A.testBit i = true) : lonT A B p i = B.testBit (p - i) := by simp [lonT, h1, h2, h]
theorem par_more (n : Nat) (f : Nat → Bool) : par (n + 1) f = (par n f ^^ f n) := rfl

set_option maxRecDepth 100000 in
set_option maxHeartbeats 8000000 in
theorem product_any (a b : List UInt8) (w : World) (ha : a.length = 16) (hb : b.length = 16) :
    Calls Try.prog 21 #[.string ⟨a.toArray⟩, .string ⟨b.toArray⟩] w fun e w' => ∃ g c, e = .returned (.slice (some ⟨g, 0, none⟩) 255 c) ∧ BR w' (some ⟨g, 0, none⟩) 255 (lon (bn a) (bn b)) ∧ 255 ≤ c ∧ Below w.heap.size w w' := by
  obtain ⟨i0, hi0, hz0, hz1, hz2⟩ := info_parts infoL
  have HBA : Hid (∀ i : Nat, i < 128 → ∀ W, Calls Try.prog 32 #[.string ⟨a.toArray⟩, .int .i64 (i : Int)] W fun e w' => e = .returned (.bool ((bn a).testBit i)) ∧ W = w') := Lib.hid (fun i hi W => by rw [bn_bit a hi]; exact rBit_any a i 16 W ha (by omega) (by omega))
  have HBB : Hid (∀ i : Nat, i < 128 → ∀ W, Calls Try.prog 32 #[.string ⟨b.toArray⟩, .int .i64 (i : Int)] W fun e w' => e = .returned (.bool ((bn b).testBit i)) ∧ W = w') := Lib.hid (fun i hi W => by rw [bn_bit b hi]; exact rBit_any b i 16 W hb (by omega) (by omega))
  have HL : Hid (∀ p, lon (bn a) (bn b) p = par 128 (lonT (bn a) (bn b) p)) := Lib.hid (fun _ => rfl)
  generalize lon (bn a) (bn b) = R at HL ⊢
  generalize bn a = A at HBA HL
  generalize bn b = B at HBB HL
  have HS := Lib.hid (fun n => fb_succ n R)
  have HO0 : Hid ((w.alloc (.cells #[] 4)).ownsRow w.heap.size 4 1 (.slice (some ⟨w.heap.size, 0, none⟩) 0 0) 0 (fb 0 R)) := Lib.hid (gown_nil (Blk.new w _ _) (Nat.le_refl _))
  have hb0 := ba (Below.refl w.heap.size w) (.cells #[] 4)
  clear ha hb
  go_enter Try.func21, Try.ntmps21
  go_wp2_with fail
  go_loopw [5, 6] (fun ov pv wr => ∃ p g d : Nat, p ≤ 255 ∧ pv = .int .i64 p ∧ ov = .slice (some ⟨g, 0, none⟩) p d ∧ Hid (wr.ownsRow w.heap.size 4 1 (.slice (some ⟨g, 0, none⟩) p d) p (fb p R)) ∧ Below w.heap.size w wr) (fun _ pv _ => 255 - (intOf pv).toNat)
  case atStart => exact ⟨0, _, _, Nat.zero_le _, rfl, rfl, HO0, hb0⟩
  case round =>
    clear HO0 hb0
    obtain ⟨p, g, d, hp, rfl, rfl, HO, hb⟩ := hrel
    by_cases hlt : p < 255
    · have hpl : (p : Int) < 255 := by omega
      have HLP := Lib.hid (HL.out p)
      have HSP := Lib.hid (HS.out p)
      have hz := hb.size
      go_wp2_with fail
      go_loop [7, 8] (fun ov iv => ∃ i : Nat, ∃ o : Bool, i ≤ 128 ∧ iv = .int .i64 i ∧ ov = .bool o ∧ Hid (o = par i (lonT A B p))) (fun _ iv => 128 - (intOf iv).toNat)
      case atStart => exact ⟨0, false, by omega, rfl, rfl, Lib.hid rfl⟩
      case round =>
        obtain ⟨i, o, hi, rfl, rfl, HQ⟩ := hrel
        by_cases hil : i < 128
        · have hii : (i : Int) < 128 := by omega
          have HM := Lib.hid (par_more i (lonT A B p))
          by_cases h1 : i ≤ p
          · obtain ⟨q, hq⟩ : ∃ q, p - i = q := ⟨_, rfl⟩
            have hqi : (p : Int) - (i : Int) = (q : Int) := by omega
            by_cases h2 : p < i + 128
            · have hq128 : (q : Int) < 128 := by omega
              have HCA := Lib.hid (HBA.out i hil)
              cases h3 : A.testBit i
              · have HT := Lib.hid (lonT_no3 A B p i h3)
                rw [h3] at HCA
                have HR : Hid (o = par (i + 1) (lonT A B p)) := Lib.hid (by rw [HM.out, HT.out, ← HQ.out, Bool.xor_false])
                clear h3 h2 h1 hq
                go_wp2_with fail
                refine (HCA.out _).mono ?_
                rintro e w' ⟨rfl, rfl⟩
                go_wp2_with fail
                exact ⟨⟨i + 1, o, by omega, by go_num, rfl, HR⟩, by simp [intOf]; omega⟩
              · have hT := lonT_yes A B p i h1 h2 h3
                rw [hq] at hT
                rw [h3] at HCA
                have HCB := Lib.hid (HBB.out q (by omega))
                cases h4 : B.testBit q
                · rw [h4] at hT HCB
                  have HR : Hid (o = par (i + 1) (lonT A B p)) := Lib.hid (by rw [HM.out, hT, ← HQ.out, Bool.xor_false])
                  clear h4 h3 h2 h1 hq hT
                  go_wp2_with fail
                  refine (HCA.out _).mono ?_
                  rintro e w' ⟨rfl, rfl⟩
                  go_wp2_with fail
                  refine (HCB.out _).mono ?_
                  rintro e w' ⟨rfl, rfl⟩
                  go_wp2_with fail
                  exact ⟨⟨i + 1, o, by omega, by go_num, rfl, HR⟩, by simp [intOf]; omega⟩
                · rw [h4] at hT HCB
                  have HR : Hid ((!o) = par (i + 1) (lonT A B p)) := Lib.hid (by rw [HM.out, hT, ← HQ.out, Bool.xor_true])
                  clear h4 h3 h2 h1 hq hT
                  go_wp2_with fail
                  refine (HCA.out _).mono ?_
                  rintro e w' ⟨rfl, rfl⟩
                  go_wp2_with fail
                  refine (HCB.out _).mono ?_
                  rintro e w' ⟨rfl, rfl⟩
                  go_wp2_with fail
                  exact ⟨⟨i + 1, !o, by omega, by go_num, rfl, HR⟩, by simp [intOf]; omega⟩
            · have hq128 : ¬ (q : Int) < 128 := by omega
              have HT := Lib.hid (lonT_no2 A B p i h2)
              have HR : Hid (o = par (i + 1) (lonT A B p)) := Lib.hid (by rw [HM.out, HT.out, ← HQ.out, Bool.xor_false])
              clear h2 h1 hq
              go_wp2_with fail
              exact ⟨⟨i + 1, o, by omega, by go_num, rfl, HR⟩, by simp [intOf]; omega⟩
          · have hqi : ¬ (0 : Int) ≤ (p : Int) - (i : Int) := by omega
            have hqj : ¬ (i : Int) ≤ (p : Int) := by omega
            have HT := Lib.hid (lonT_no1 A B p i h1)
            have HR : Hid (o = par (i + 1) (lonT A B p)) := Lib.hid (by rw [HM.out, HT.out, ← HQ.out, Bool.xor_false])
            clear h1
            go_wp2_with fail
            exact ⟨⟨i + 1, o, by omega, by go_num, rfl, HR⟩, by simp [intOf]; omega⟩
        · obtain rfl : i = 128 := by omega
          have HRP : Hid (R p = o) := Lib.hid (by rw [HLP.out, HQ.out])
          have hnews := news_new wr [lv o] 4
          clear hil hi
          go_wp2_with (at_builtin; refine wpList_append_own _ rfl _ _ 44 rfl w.heap.size 4 i0 (.bool false) 1 1 Try.underlying44 hi0 hz0 hz1 hz2 rfl (by decide) _ _ _ rfl (own_alloc HO.out _) ⟨wr.heap.size, 0, none⟩ 1 1 [lv o] rfl rfl hnews (by simp [Value.oneCell']) (by unfold maxLen; omega) (by omega) (by simp; omega) ?_; intro v' w6 hown' hgrow _; obtain ⟨g1, c1, rfl⟩ := ownsRow_succ hown'; have hb6 : Below w.heap.size w w6 := (ba hb (.cells #[lv o] 4)).grown hgrow (by simp; omega) (fun k e => by cases e; exact (HO.out.lt _ rfl).1); have HO6 := Lib.hid hown'; clear hown' hgrow)
          exact ⟨⟨p + 1, g1, c1, by omega, by go_num, rfl, Lib.hid (by rw [HSP.out, HRP.out]; exact HO6.out), hb6⟩, by simp [intOf]; omega⟩
    · obtain rfl : p = 255 := by omega
      have HX := Lib.hid (own_BR HO.out)
      have HY := Lib.hid (own_BRblk HO.out).2.1
      clear hlt hp
      go_wp2
      go_ret
      exact ⟨g, d, rfl, HX.out, HY.out, hb⟩
end Go.Proofs.Ytlfghagidajpeaa
