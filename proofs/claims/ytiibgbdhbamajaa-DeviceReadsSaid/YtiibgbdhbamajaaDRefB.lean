/- The contracts of the reference's Write and Crash. -/
import Derived.Test.YtiibgbdhbamajaaDRRead
import Derived.Test.YtiibgbdhbamajaaDLawA
import Derived.Deep.DeepCutAuto
namespace Go.Proofs.Ytiibgbdhbamajaa
open Go.RowKit

set_option maxRecDepth 100000 in
set_option maxHeartbeats 4000000 in
theorem rwrite_some (A : Option Addr) (a : Addr) (c d n m : Nat) (C : List PutL) (k : Int) (s : List UInt8) (w : World) (hB : PR w (some a) C) (hm : C.length = m) (hm2 : m ≤ 65535) :
    Calls Try.prog 18 #[dv A n c (some a) m d, .int .i64 k, sv s] w fun e w' => ∃ B' d', e = .returned (dv A n c B' (m + 1) d') ∧ PR w' B' (C ++ [(k, s)]) ∧ Below w.heap.size w w' := by
  obtain ⟨ti, hi, hz0, hz1, hz2⟩ := info_parts infoP
  have hB0 : Below w.heap.size w (((w.alloc (.cells #[.slice A n c, .slice (some a) m d] 25)).alloc (.cells #[.slice none 0 0, .slice none 0 0] 25)).alloc (.cells #[] 47)) := ba (ba (ba (Below.refl _ _) _) _) _
  have k0 : Blk (((w.alloc (.cells #[.slice A n c, .slice (some a) m d] 25)).alloc (.cells #[.slice none 0 0, .slice none 0 0] 25)).alloc (.cells #[] 47)) w.heap.size 25 #[.slice A n c, .slice (some a) m d] := ((Blk.new w _ _).alloc _).alloc _
  have k1 : Blk (((w.alloc (.cells #[.slice A n c, .slice (some a) m d] 25)).alloc (.cells #[.slice none 0 0, .slice none 0 0] 25)).alloc (.cells #[] 47)) (w.heap.size + 1) 25 #[.slice none 0 0, .slice none 0 0] := (Blk.newAt (by simp) _ _).alloc _
  have HC := Lib.hid ((hB.later hB0).cells)
  have HL : Hid ((pcells C).length = m * 2) := Lib.hid (by rw [pcells_len, hm])
  have H1 := Lib.hid (pcells_one C)
  have HP : Hid (pcells (C ++ [(k, s)]) = pcells C ++ [.int .i64 k, sv s] ∧ (C ++ [(k, s)]).length = m + 1) := Lib.hid ⟨by rw [pcells_more]; rfl, by simp [hm]⟩
  generalize C ++ [(k, s)] = C2 at HP ⊢
  have HO : Hid ((((w.alloc (.cells #[.slice A n c, .slice (some a) m d] 25)).alloc (.cells #[.slice none 0 0, .slice none 0 0] 25)).alloc (.cells #[] 47)).ownsRow (w.heap.size + 2) 47 2 (.slice (some ⟨w.heap.size + 2, 0, none⟩) 0 0) 0 []) := Lib.hid (by
    have := Blk.new ((w.alloc (.cells #[.slice A n c, .slice (some a) m d] 25)).alloc (.cells #[.slice none 0 0, .slice none 0 0] 25)) 47 #[]
    simp only [World.size_alloc] at this
    exact down_nil this (Nat.le_refl _))
  have hz : (((w.alloc (.cells #[.slice A n c, .slice (some a) m d] 25)).alloc (.cells #[.slice none 0 0, .slice none 0 0] 25)).alloc (.cells #[] 47)).heap.size = w.heap.size + 3 := by simp
  clear hB hm
  go_enter Try.func18, Try.ntmps18
  obtain ⟨q0, q1, _, _⟩ := dcells k0
  go_upto_region 3 with (at_builtin; refine wpList_append_own _ rfl _ _ 23 rfl (w.heap.size + 2) 47 ti _ 2 24 Try.underlying23 hi hz0 hz1 hz2 rfl (by decide) _ _ _ rfl HO.out a m d (pcells C) rfl HL.out HC.out H1.out (by unfold maxLen; omega) (by omega) (by simp) ?_; intro v3 w3 hown3 hgrow3 _)
  have K4 := Blk.grown k0 hgrow3 (fun e => by have := (HO.out.lt _ e.symm).1; omega)
  have K5 := Blk.grown k1 hgrow3 (fun e => by have := (HO.out.lt _ e.symm).1; omega)
  have HB5 : Hid (Below w.heap.size w w3) := Lib.hid (hB0.grown hgrow3 (by omega) (fun k e => by have := (HO.out.lt k e).1; omega))
  have z3 := hgrow3.size
  rw [hz] at z3
  rw [Nat.zero_add, List.nil_append] at hown3
  obtain ⟨B3, d3, rfl, _⟩ := own_form hown3
  have hownA := hown3.alloc (.cells #[.int .i64 k, sv s] 47)
  have hnews := World.news_of_block (heap_alloc_new w3 (.cells #[.int .i64 k, sv s] 47))
  have K6 := Lib.hid (K4.alloc (.cells #[.int .i64 k, sv s] 47))
  have K7 := Lib.hid (K5.alloc (.cells #[.int .i64 k, sv s] 47))
  have HB6 := Lib.hid (ba HB5.out (.cells #[.int .i64 k, sv s] 47))
  clear k0 k1 hB0 hown3 hgrow3 K4 K5 HB5 HO hz
  go_wp2_with (at_builtin; refine wpList_append_own _ rfl _ _ 23 rfl (w.heap.size + 2) 47 ti _ 2 24 Try.underlying23 hi hz0 hz1 hz2 rfl (by decide) _ _ _ rfl hownA ⟨w3.heap.size, 0, none⟩ 1 1 [.int .i64 k, sv s] rfl rfl hnews (by simp [Value.oneCell']) (by unfold maxLen; omega) (by omega) (by simp; omega) ?_; intro v4 w5 hown5 hgrow5 _; obtain ⟨g5, c5, rfl⟩ := ownsRow_succ hown5; have K8 := Blk.grown K6.out hgrow5 (fun e => by have := (hownA.lt _ e.symm).1; omega); have K9 := Blk.grown K7.out hgrow5 (fun e => by have := (hownA.lt _ e.symm).1; omega); obtain ⟨q0, q1, _, _⟩ := dcells K8; obtain ⟨_, _, f0, f1⟩ := dcells K9; obtain ⟨r0, r1, _, _⟩ := dcells K9)
  have HB7 : Below w.heap.size w w5 := HB6.out.grown hgrow5 (by simp; omega) (fun k e => by have := (hownA.lt k e).1; omega)
  have hPR : PR w5 (some ⟨g5, 0, none⟩) C2 := own_PR (by rw [HP.out.1]; exact hown5) HP.out.2
  have hg := hown5.lt g5 rfl
  have KK := (K9.set_ 0 (.slice A n c)).set_ 1 (.slice (some ⟨g5, 0, none⟩) (m + 1) c5)
  refine bodyPost_ret (dev1_result rfl KK) rfl ?_
  exact ⟨some ⟨g5, 0, none⟩, ⟨c5, rfl⟩, (hPR.far (fun g off e => by cases e; simp; omega) _).far (fun g off e => by cases e; simp; omega) _, bs (bs HB7 (by omega) _) (by omega) _⟩

set_option maxRecDepth 100000 in
set_option maxHeartbeats 4000000 in
theorem rwrite_none (A : Option Addr) (c n : Nat) (k : Int) (s : List UInt8) (w : World) :
    Calls Try.prog 18 #[dv A n c none 0 0, .int .i64 k, sv s] w fun e w' => ∃ B' d', e = .returned (dv A n c B' 1 d') ∧ PR w' B' [(k, s)] ∧ Below w.heap.size w w' := by
  obtain ⟨ti, hi, hz0, hz1, hz2⟩ := info_parts infoP
  have hB0 : Below w.heap.size w (((w.alloc (.cells #[.slice A n c, .slice none 0 0] 25)).alloc (.cells #[.slice none 0 0, .slice none 0 0] 25)).alloc (.cells #[] 47)) := ba (ba (ba (Below.refl _ _) _) _) _
  have k0 : Blk (((w.alloc (.cells #[.slice A n c, .slice none 0 0] 25)).alloc (.cells #[.slice none 0 0, .slice none 0 0] 25)).alloc (.cells #[] 47)) w.heap.size 25 #[.slice A n c, .slice none 0 0] := ((Blk.new w _ _).alloc _).alloc _
  have k1 : Blk (((w.alloc (.cells #[.slice A n c, .slice none 0 0] 25)).alloc (.cells #[.slice none 0 0, .slice none 0 0] 25)).alloc (.cells #[] 47)) (w.heap.size + 1) 25 #[.slice none 0 0, .slice none 0 0] := (Blk.newAt (by simp) _ _).alloc _
  have hown3 : (((w.alloc (.cells #[.slice A n c, .slice none 0 0] 25)).alloc (.cells #[.slice none 0 0, .slice none 0 0] 25)).alloc (.cells #[] 47)).ownsRow (w.heap.size + 2) 47 2 (.slice (some ⟨w.heap.size + 2, 0, none⟩) 0 0) 0 [] := by
    have := Blk.new ((w.alloc (.cells #[.slice A n c, .slice none 0 0] 25)).alloc (.cells #[.slice none 0 0, .slice none 0 0] 25)) 47 #[]
    simp only [World.size_alloc] at this
    exact down_nil this (Nat.le_refl _)
  have z3 : (((w.alloc (.cells #[.slice A n c, .slice none 0 0] 25)).alloc (.cells #[.slice none 0 0, .slice none 0 0] 25)).alloc (.cells #[] 47)).heap.size = w.heap.size + 3 := by simp
  go_enter Try.func18, Try.ntmps18
  go_upto_region 3 with fail
  generalize (((w.alloc (.cells #[.slice A n c, .slice none 0 0] 25)).alloc (.cells #[.slice none 0 0, .slice none 0 0] 25)).alloc (.cells #[] 47)) = w3 at hB0 k0 k1 hown3 z3 ⊢
  have hownA := hown3.alloc (.cells #[.int .i64 k, sv s] 47)
  have hnews := World.news_of_block (heap_alloc_new w3 (.cells #[.int .i64 k, sv s] 47))
  have K6 := Lib.hid (k0.alloc (.cells #[.int .i64 k, sv s] 47))
  have K7 := Lib.hid (k1.alloc (.cells #[.int .i64 k, sv s] 47))
  have HB6 := Lib.hid (ba hB0 (.cells #[.int .i64 k, sv s] 47))
  have Z3 : Hid (w.heap.size + 3 ≤ w3.heap.size) := Lib.hid (by omega)
  clear k0 k1 hB0 hown3 z3
  go_wp2_with (at_builtin; refine wpList_append_own _ rfl _ _ 23 rfl (w.heap.size + 2) 47 ti _ 2 24 Try.underlying23 hi hz0 hz1 hz2 rfl (by decide) _ _ _ rfl hownA ⟨w3.heap.size, 0, none⟩ 1 1 [.int .i64 k, sv s] rfl rfl hnews (by simp [Value.oneCell']) (by unfold maxLen; omega) (by omega) (by have := Z3.out; simp; omega) ?_; intro v4 w5 hown5 hgrow5 _; obtain ⟨g5, c5, rfl⟩ := ownsRow_succ hown5; have K8 := Blk.grown K6.out hgrow5 (fun e => by have := (hownA.lt _ e.symm).1; have := Z3.out; omega); have K9 := Blk.grown K7.out hgrow5 (fun e => by have := (hownA.lt _ e.symm).1; have := Z3.out; omega); obtain ⟨q0, q1, _, _⟩ := dcells K8; obtain ⟨_, _, f0, f1⟩ := dcells K9; obtain ⟨r0, r1, _, _⟩ := dcells K9)
  have z3 := Z3.out
  have HB7 : Below w.heap.size w w5 := HB6.out.grown hgrow5 (by simp; omega) (fun k e => by have := (hownA.lt k e).1; omega)
  have hPR : PR w5 (some ⟨g5, 0, none⟩) [(k, s)] := own_PR (by simpa [pcells] using hown5) rfl
  have hg := hown5.lt g5 rfl
  have KK := (K9.set_ 0 (.slice A n c)).set_ 1 (.slice (some ⟨g5, 0, none⟩) 1 c5)
  refine bodyPost_ret (dev1_result rfl KK) rfl ?_
  exact ⟨some ⟨g5, 0, none⟩, ⟨c5, rfl⟩, (hPR.far (fun g off e => by cases e; simp; omega) _).far (fun g off e => by cases e; simp; omega) _, bs (bs HB7 (by omega) _) (by omega) _⟩

/-- The reference's Write. -/
theorem rwrite_any (A B : Option Addr) (c d n m : Nat) (C : List PutL) (k : Int) (s : List UInt8) (w : World) (hB : PR w B C) (hm : C.length = m) (h0 : B = none → d = 0) (hm2 : m ≤ 65535) :
    Calls Try.prog 18 #[dv A n c B m d, .int .i64 k, sv s] w fun e w' => ∃ B' d', e = .returned (dv A n c B' (m + 1) d') ∧ PR w' B' (C ++ [(k, s)]) ∧ Below w.heap.size w w' := by
  cases B with
  | none =>
    have hC : C = [] := by
      cases C with
      | nil => rfl
      | cons x r => obtain ⟨g, off, e, _⟩ := hB 0 (by simp); cases e
    subst hC
    subst hm
    rw [h0 rfl]
    exact rwrite_none A c n k s w
  | some a => exact rwrite_some A a c d n m C k s w hB hm hm2
end Go.Proofs.Ytiibgbdhbamajaa
