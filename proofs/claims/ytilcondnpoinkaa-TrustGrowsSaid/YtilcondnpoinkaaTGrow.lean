/- The contracts of Boot and Commit. -/
import Derived.Test.YtilcondnpoinkaaTSlot
namespace Go.Proofs.Ytilcondnpoinkaa
open Go.RowKit

set_option maxRecDepth 100000 in
set_option maxHeartbeats 2000000 in
theorem boot_no (n b : Nat) (k : List UInt8) (w : World) (hk : (k.length : Int) ≤ 9223372036854775807) (hm : mayB b k = false) :
    Calls Try.prog 8 #[tv n b k] w fun e w' => e = .returned (.tuple #[tv 0 0 [], .int .i64 1]) ∧ Below w.heap.size w w' := by
  have M1 : ∀ W, Below w.heap.size w W → w.heap.size + 2 ≤ W.heap.size → Calls Try.prog 18 #[tv n b k] W fun e w' => e = .returned (.bool (mayB b k)) ∧ Below W.heap.size W w' := fun W _ _ => mayBe_any n b k W hk
  have kp : Blk ((w.alloc (.cells #[.int .u64 (n : Int), .int .u64 (b : Int), .string ⟨k.toArray⟩] 24)).alloc (.cells #[.int .u64 0, .int .u64 0, .string ⟨#[]⟩] 24)) w.heap.size 24 #[.int .u64 (n : Int), .int .u64 (b : Int), .string ⟨k.toArray⟩] := (Blk.new w _ _).alloc _
  have kg : Blk ((w.alloc (.cells #[.int .u64 (n : Int), .int .u64 (b : Int), .string ⟨k.toArray⟩] 24)).alloc (.cells #[.int .u64 0, .int .u64 0, .string ⟨#[]⟩] 24)) (w.heap.size + 1) 24 #[.int .u64 0, .int .u64 0, .string ⟨#[]⟩] := Blk.newAt (by simp) _ _
  have hB0 : Below w.heap.size w ((w.alloc (.cells #[.int .u64 (n : Int), .int .u64 (b : Int), .string ⟨k.toArray⟩] 24)).alloc (.cells #[.int .u64 0, .int .u64 0, .string ⟨#[]⟩] 24)) := ba (ba (Below.refl _ _) _) _
  have KP := Lib.hid kp
  have KG := Lib.hid kg
  have HB0 := Lib.hid hB0
  clear kp kg hB0 M1
  go_enter Try.func8, Try.ntmps8
  go_wp2_with fail
  refine (mayBe_any n b k _ hk).mono ?_
  rw [hm]
  rintro e w1 ⟨rfl, hb1⟩
  have kp := KP.out.below hb1
  have kg := KG.out.below hb1
  have hB := bt HB0.out hb1
  clear KP KG HB0 hb1
  obtain ⟨⟨p0, p1, p2⟩, u0, u1, u2⟩ := tcells kp
  obtain ⟨⟨g0, g1, g2⟩, v0, v1, v2⟩ := tcells kg
  go_wp2
  refine bodyPost_ret (slot_result rfl (((kg.set_ 0 _).set_ 1 _).set_ 2 _)) rfl ?_
  exact ⟨rfl, bs (bs (bs hB (by omega) _) (by omega) _) (by omega) _⟩

set_option maxRecDepth 100000 in
set_option maxHeartbeats 2000000 in
theorem boot_last (n b : Nat) (k : List UInt8) (w : World) (hk : (k.length : Int) ≤ 9223372036854775807) (hm : mayB b k = true) (hb : b = 4294967295) :
    Calls Try.prog 8 #[tv n b k] w fun e w' => e = .returned (.tuple #[tv 0 0 [], .int .i64 2]) ∧ Below w.heap.size w w' := by
  have M1 : ∀ W, Below w.heap.size w W → w.heap.size + 2 ≤ W.heap.size → Calls Try.prog 18 #[tv n b k] W fun e w' => e = .returned (.bool (mayB b k)) ∧ Below W.heap.size W w' := fun W _ _ => mayBe_any n b k W hk
  have kp : Blk ((w.alloc (.cells #[.int .u64 (n : Int), .int .u64 (b : Int), .string ⟨k.toArray⟩] 24)).alloc (.cells #[.int .u64 0, .int .u64 0, .string ⟨#[]⟩] 24)) w.heap.size 24 #[.int .u64 (n : Int), .int .u64 (b : Int), .string ⟨k.toArray⟩] := (Blk.new w _ _).alloc _
  have kg : Blk ((w.alloc (.cells #[.int .u64 (n : Int), .int .u64 (b : Int), .string ⟨k.toArray⟩] 24)).alloc (.cells #[.int .u64 0, .int .u64 0, .string ⟨#[]⟩] 24)) (w.heap.size + 1) 24 #[.int .u64 0, .int .u64 0, .string ⟨#[]⟩] := Blk.newAt (by simp) _ _
  have hB0 : Below w.heap.size w ((w.alloc (.cells #[.int .u64 (n : Int), .int .u64 (b : Int), .string ⟨k.toArray⟩] 24)).alloc (.cells #[.int .u64 0, .int .u64 0, .string ⟨#[]⟩] 24)) := ba (ba (Below.refl _ _) _) _
  have KP := Lib.hid kp
  have KG := Lib.hid kg
  have HB0 := Lib.hid hB0
  clear kp kg hB0 M1
  have e1 : ((b : Int) == 4294967295) = true := by simp; omega
  clear hb
  go_enter Try.func8, Try.ntmps8
  go_wp2_with fail
  refine (mayBe_any n b k _ hk).mono ?_
  rw [hm]
  rintro e w1 ⟨rfl, hb1⟩
  have kp := KP.out.below hb1
  have kg := KG.out.below hb1
  have hB := bt HB0.out hb1
  clear KP KG HB0 hb1
  obtain ⟨⟨p0, p1, p2⟩, u0, u1, u2⟩ := tcells kp
  obtain ⟨⟨g0, g1, g2⟩, v0, v1, v2⟩ := tcells kg
  go_wp2
  refine bodyPost_ret (slot_result rfl (((kg.set_ 0 _).set_ 1 _).set_ 2 _)) rfl ?_
  exact ⟨rfl, bs (bs (bs hB (by omega) _) (by omega) _) (by omega) _⟩

set_option maxRecDepth 100000 in
set_option maxHeartbeats 2000000 in
theorem boot_yes (n b : Nat) (k : List UInt8) (w : World) (hk : (k.length : Int) ≤ 9223372036854775807) (hm : mayB b k = true) (hb : b < 4294967295) :
    Calls Try.prog 8 #[tv n b k] w fun e w' => e = .returned (.tuple #[tv n (b + 1) k, .int .i64 0]) ∧ Below w.heap.size w w' := by
  have M1 : ∀ W, Below w.heap.size w W → w.heap.size + 2 ≤ W.heap.size → Calls Try.prog 18 #[tv n b k] W fun e w' => e = .returned (.bool (mayB b k)) ∧ Below W.heap.size W w' := fun W _ _ => mayBe_any n b k W hk
  have kp : Blk ((w.alloc (.cells #[.int .u64 (n : Int), .int .u64 (b : Int), .string ⟨k.toArray⟩] 24)).alloc (.cells #[.int .u64 0, .int .u64 0, .string ⟨#[]⟩] 24)) w.heap.size 24 #[.int .u64 (n : Int), .int .u64 (b : Int), .string ⟨k.toArray⟩] := (Blk.new w _ _).alloc _
  have kg : Blk ((w.alloc (.cells #[.int .u64 (n : Int), .int .u64 (b : Int), .string ⟨k.toArray⟩] 24)).alloc (.cells #[.int .u64 0, .int .u64 0, .string ⟨#[]⟩] 24)) (w.heap.size + 1) 24 #[.int .u64 0, .int .u64 0, .string ⟨#[]⟩] := Blk.newAt (by simp) _ _
  have hB0 : Below w.heap.size w ((w.alloc (.cells #[.int .u64 (n : Int), .int .u64 (b : Int), .string ⟨k.toArray⟩] 24)).alloc (.cells #[.int .u64 0, .int .u64 0, .string ⟨#[]⟩] 24)) := ba (ba (Below.refl _ _) _) _
  have KP := Lib.hid kp
  have KG := Lib.hid kg
  have HB0 := Lib.hid hB0
  clear kp kg hB0 M1
  have e1 : ((b : Int) == 4294967295) = false := by simp; omega
  obtain ⟨c, hc⟩ : ∃ c, b + 1 = c := ⟨_, rfl⟩
  have e2 : ((b : Int) + 1) % 18446744073709551616 = (c : Int) := by omega
  have e3 : IntKind.u64.wrap ((b : Int) + 1) = (c : Int) := by rw [IntKind.wrap_u64]; omega
  rw [hc]
  clear hc hb
  go_enter Try.func8, Try.ntmps8
  go_wp2_with fail
  refine (mayBe_any n b k _ hk).mono ?_
  rw [hm]
  rintro e w1 ⟨rfl, hb1⟩
  have kp := KP.out.below hb1
  have kg := KG.out.below hb1
  have hB := bt HB0.out hb1
  clear KP KG HB0 hb1
  obtain ⟨⟨p0, p1, p2⟩, u0, u1, u2⟩ := tcells kp
  obtain ⟨⟨g0, g1, g2⟩, v0, v1, v2⟩ := tcells kg
  go_wp2
  refine bodyPost_ret (slot_result rfl ((((kg.far (p := ⟨w.heap.size, 1, none⟩) (by simp) _).set_ 0 _).set_ 1 _).set_ 2 _)) rfl ?_
  exact ⟨rfl, bs (bs (bs (bs hB (Nat.le_refl _) _) (by omega) _) (by omega) _) (by omega) _⟩

set_option maxRecDepth 100000 in
set_option maxHeartbeats 2000000 in
theorem commit_no (n b m : Nat) (k : List UInt8) (w : World) (hk : (k.length : Int) ≤ 9223372036854775807) (hm : mayB b k = false) :
    Calls Try.prog 9 #[tv n b k, .int .u64 (m : Int)] w fun e w' => e = .returned (.tuple #[tv 0 0 [], .int .i64 1]) ∧ Below w.heap.size w w' := by
  have M1 : ∀ W, Below w.heap.size w W → w.heap.size + 2 ≤ W.heap.size → Calls Try.prog 18 #[tv n b k] W fun e w' => e = .returned (.bool (mayB b k)) ∧ Below W.heap.size W w' := fun W _ _ => mayBe_any n b k W hk
  have kp : Blk ((w.alloc (.cells #[.int .u64 (n : Int), .int .u64 (b : Int), .string ⟨k.toArray⟩] 24)).alloc (.cells #[.int .u64 0, .int .u64 0, .string ⟨#[]⟩] 24)) w.heap.size 24 #[.int .u64 (n : Int), .int .u64 (b : Int), .string ⟨k.toArray⟩] := (Blk.new w _ _).alloc _
  have kg : Blk ((w.alloc (.cells #[.int .u64 (n : Int), .int .u64 (b : Int), .string ⟨k.toArray⟩] 24)).alloc (.cells #[.int .u64 0, .int .u64 0, .string ⟨#[]⟩] 24)) (w.heap.size + 1) 24 #[.int .u64 0, .int .u64 0, .string ⟨#[]⟩] := Blk.newAt (by simp) _ _
  have hB0 : Below w.heap.size w ((w.alloc (.cells #[.int .u64 (n : Int), .int .u64 (b : Int), .string ⟨k.toArray⟩] 24)).alloc (.cells #[.int .u64 0, .int .u64 0, .string ⟨#[]⟩] 24)) := ba (ba (Below.refl _ _) _) _
  have KP := Lib.hid kp
  have KG := Lib.hid kg
  have HB0 := Lib.hid hB0
  clear kp kg hB0 M1
  go_enter Try.func9, Try.ntmps9
  go_wp2_with fail
  refine (mayBe_any n b k _ hk).mono ?_
  rw [hm]
  rintro e w1 ⟨rfl, hb1⟩
  have kp := KP.out.below hb1
  have kg := KG.out.below hb1
  have hB := bt HB0.out hb1
  clear KP KG HB0 hb1
  obtain ⟨⟨p0, p1, p2⟩, u0, u1, u2⟩ := tcells kp
  obtain ⟨⟨g0, g1, g2⟩, v0, v1, v2⟩ := tcells kg
  go_wp2
  refine bodyPost_ret (slot_result rfl (((kg.set_ 0 _).set_ 1 _).set_ 2 _)) rfl ?_
  exact ⟨rfl, bs (bs (bs hB (by omega) _) (by omega) _) (by omega) _⟩

set_option maxRecDepth 100000 in
set_option maxHeartbeats 2000000 in
theorem commit_low (n b m : Nat) (k : List UInt8) (w : World) (hk : (k.length : Int) ≤ 9223372036854775807) (hm : mayB b k = true) (hn : m ≤ n) :
    Calls Try.prog 9 #[tv n b k, .int .u64 (m : Int)] w fun e w' => e = .returned (.tuple #[tv 0 0 [], .int .i64 2]) ∧ Below w.heap.size w w' := by
  have M1 : ∀ W, Below w.heap.size w W → w.heap.size + 2 ≤ W.heap.size → Calls Try.prog 18 #[tv n b k] W fun e w' => e = .returned (.bool (mayB b k)) ∧ Below W.heap.size W w' := fun W _ _ => mayBe_any n b k W hk
  have kp : Blk ((w.alloc (.cells #[.int .u64 (n : Int), .int .u64 (b : Int), .string ⟨k.toArray⟩] 24)).alloc (.cells #[.int .u64 0, .int .u64 0, .string ⟨#[]⟩] 24)) w.heap.size 24 #[.int .u64 (n : Int), .int .u64 (b : Int), .string ⟨k.toArray⟩] := (Blk.new w _ _).alloc _
  have kg : Blk ((w.alloc (.cells #[.int .u64 (n : Int), .int .u64 (b : Int), .string ⟨k.toArray⟩] 24)).alloc (.cells #[.int .u64 0, .int .u64 0, .string ⟨#[]⟩] 24)) (w.heap.size + 1) 24 #[.int .u64 0, .int .u64 0, .string ⟨#[]⟩] := Blk.newAt (by simp) _ _
  have hB0 : Below w.heap.size w ((w.alloc (.cells #[.int .u64 (n : Int), .int .u64 (b : Int), .string ⟨k.toArray⟩] 24)).alloc (.cells #[.int .u64 0, .int .u64 0, .string ⟨#[]⟩] 24)) := ba (ba (Below.refl _ _) _) _
  have KP := Lib.hid kp
  have KG := Lib.hid kg
  have HB0 := Lib.hid hB0
  clear kp kg hB0 M1
  have e1 : decide (m ≤ n) = true := by simp; omega
  have e2 : decide ((m : Int) ≤ (n : Int)) = true := by simp; omega
  go_enter Try.func9, Try.ntmps9
  go_wp2_with fail
  refine (mayBe_any n b k _ hk).mono ?_
  rw [hm]
  rintro e w1 ⟨rfl, hb1⟩
  have kp := KP.out.below hb1
  have kg := KG.out.below hb1
  have hB := bt HB0.out hb1
  clear KP KG HB0 hb1
  obtain ⟨⟨p0, p1, p2⟩, u0, u1, u2⟩ := tcells kp
  obtain ⟨⟨g0, g1, g2⟩, v0, v1, v2⟩ := tcells kg
  go_wp2
  refine bodyPost_ret (slot_result rfl (((kg.set_ 0 _).set_ 1 _).set_ 2 _)) rfl ?_
  exact ⟨rfl, bs (bs (bs hB (by omega) _) (by omega) _) (by omega) _⟩

set_option maxRecDepth 100000 in
set_option maxHeartbeats 2000000 in
theorem commit_yes (n b m : Nat) (k : List UInt8) (w : World) (hk : (k.length : Int) ≤ 9223372036854775807) (hm : mayB b k = true) (hn : n < m) :
    Calls Try.prog 9 #[tv n b k, .int .u64 (m : Int)] w fun e w' => e = .returned (.tuple #[tv m b k, .int .i64 0]) ∧ Below w.heap.size w w' := by
  have M1 : ∀ W, Below w.heap.size w W → w.heap.size + 2 ≤ W.heap.size → Calls Try.prog 18 #[tv n b k] W fun e w' => e = .returned (.bool (mayB b k)) ∧ Below W.heap.size W w' := fun W _ _ => mayBe_any n b k W hk
  have kp : Blk ((w.alloc (.cells #[.int .u64 (n : Int), .int .u64 (b : Int), .string ⟨k.toArray⟩] 24)).alloc (.cells #[.int .u64 0, .int .u64 0, .string ⟨#[]⟩] 24)) w.heap.size 24 #[.int .u64 (n : Int), .int .u64 (b : Int), .string ⟨k.toArray⟩] := (Blk.new w _ _).alloc _
  have kg : Blk ((w.alloc (.cells #[.int .u64 (n : Int), .int .u64 (b : Int), .string ⟨k.toArray⟩] 24)).alloc (.cells #[.int .u64 0, .int .u64 0, .string ⟨#[]⟩] 24)) (w.heap.size + 1) 24 #[.int .u64 0, .int .u64 0, .string ⟨#[]⟩] := Blk.newAt (by simp) _ _
  have hB0 : Below w.heap.size w ((w.alloc (.cells #[.int .u64 (n : Int), .int .u64 (b : Int), .string ⟨k.toArray⟩] 24)).alloc (.cells #[.int .u64 0, .int .u64 0, .string ⟨#[]⟩] 24)) := ba (ba (Below.refl _ _) _) _
  have KP := Lib.hid kp
  have KG := Lib.hid kg
  have HB0 := Lib.hid hB0
  clear kp kg hB0 M1
  have e1 : decide (m ≤ n) = false := by simp; omega
  have e2 : decide ((m : Int) ≤ (n : Int)) = false := by simp; omega
  go_enter Try.func9, Try.ntmps9
  go_wp2_with fail
  refine (mayBe_any n b k _ hk).mono ?_
  rw [hm]
  rintro e w1 ⟨rfl, hb1⟩
  have kp := KP.out.below hb1
  have kg := KG.out.below hb1
  have hB := bt HB0.out hb1
  clear KP KG HB0 hb1
  obtain ⟨⟨p0, p1, p2⟩, u0, u1, u2⟩ := tcells kp
  obtain ⟨⟨g0, g1, g2⟩, v0, v1, v2⟩ := tcells kg
  go_wp2
  refine bodyPost_ret (slot_result rfl ((((kg.far (p := ⟨w.heap.size, 0, none⟩) (by simp) _).set_ 0 _).set_ 1 _).set_ 2 _)) rfl ?_
  exact ⟨rfl, bs (bs (bs (bs hB (Nat.le_refl _) _) (by omega) _) (by omega) _) (by omega) _⟩
end Go.Proofs.Ytilcondnpoinkaa
