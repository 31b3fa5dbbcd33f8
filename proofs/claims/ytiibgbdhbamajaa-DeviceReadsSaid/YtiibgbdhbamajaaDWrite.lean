/- The contract of Write, where it writes. -/
import Derived.Test.YtiibgbdhbamajaaDWriteA
namespace Go.Proofs.Ytiibgbdhbamajaa
open Go.RowKit

theorem SR.far {w : World} {A : Option Addr} {L : List (List UInt8)} (h : SR w A L) {p : Addr} (hp : ∀ g off, A = some ⟨g, off, none⟩ → g ≠ p.block) (u : Value) : SR (w.setCell p u) A L := fun j hj => by
  obtain ⟨g, off, e, h0⟩ := h j hj
  exact ⟨g, off, e, (World.cell?_of_block (a := ⟨g, off + j, none⟩) (Below.heap_setCell w p u g (hp g off e))).trans h0⟩
theorem PR.far {w : World} {A : Option Addr} {L : List PutL} (h : PR w A L) {p : Addr} (hp : ∀ g off, A = some ⟨g, off, none⟩ → g ≠ p.block) (u : Value) : PR (w.setCell p u) A L := fun j hj => by
  obtain ⟨g, off, e, h0, h1⟩ := h j hj
  exact ⟨g, off, e, (World.cell?_of_block (a := ⟨g, off + j * 2, none⟩) (Below.heap_setCell w p u g (hp g off e))).trans h0, (World.cell?_of_block (a := ⟨g, off + j * 2 + 1, none⟩) (Below.heap_setCell w p u g (hp g off e))).trans h1⟩
theorem own_at {W : World} {base : Nat} {t : TypeId} {size n c : Nat} {A : Option Addr} {xs : List Value} (h : W.ownsRow base t size (.slice A n c) n xs) : ∀ g off, A = some ⟨g, off, none⟩ → base ≤ g := fun g off e => by
  subst e
  exact (h.lt g rfl).1

set_option maxRecDepth 100000 in
set_option maxHeartbeats 4000000 in
theorem write_yes (A B : Option Addr) (c d n m : Nat) (S : List (List UInt8)) (C : List PutL) (k : Int) (t : List UInt8) (w : World) (hA : SR w A S) (hB : PR w B C) (hn : S.length = n) (hm : C.length = m) (hr : rightB S C = true) (hh : hasB n k = true) (ht : t.length ≤ 128) (hm6 : m ≠ 60) (h0 : A = none → c = 0) (h1 : B = none → d = 0) :
    Calls Try.prog 14 #[dv A n c B m d, .int .i64 k, sv t] w fun e w' => ∃ A' c' B' d', e = .returned (.tuple #[dv A' n c' B' (m + 1) d', .int .i64 0]) ∧ SR w' A' S ∧ PR w' B' (C ++ [(k, t)]) ∧ Below w.heap.size w w' := by
  obtain ⟨s1, s2, s3, _, _⟩ := rightB_yes hr
  rw [hn] at s1 s2
  rw [hm] at s3
  obtain ⟨ti, hi, hz0, hz1, hz2⟩ := info_parts infoP
  have HR := Lib.hid (fun W (hb : Below w.heap.size w W) => right_any A B c d n m S C W (hA.later hb) (hB.later hb) hn hm)
  rw [hr] at HR
  have HH := Lib.hid (fun W => has_any A B n c m d k W)
  rw [hh] at HH
  have HF := Lib.hid (fun W => fits_any t W)
  rw [decide_eq_true ht] at HF
  have HC := Lib.hid (fun W (hb : Below w.heap.size w W) => cls_any A c n S W (hA.later hb) hn h0 (by omega))
  have HD := Lib.hid (fun W (hb : Below w.heap.size w W) => clp_any B d m C W (hB.later hb) hm h1 (by omega))
  have HP : Hid (pcells (C ++ [(k, t)]) = pcells C ++ [.int .i64 k, sv t] ∧ (C ++ [(k, t)]).length = m + 1) := Lib.hid ⟨by rw [pcells_more]; rfl, by simp [hm]⟩
  have HN := Lib.hid hn
  have hm7 : ((m : Int) == 60) = false := by simp; omega
  have hm8 : (m == 60) = false := by simp; omega
  generalize C ++ [(k, t)] = C2 at HP ⊢
  clear hA hB hn hm hr hh ht h0 h1 hm6
  have hB0 : Below w.heap.size w ((w.alloc (.cells #[.slice A n c, .slice B m d] 25)).alloc (.cells #[.slice none 0 0, .slice none 0 0] 25)) := ba (ba (Below.refl _ _) _) _
  have k0 : Blk ((w.alloc (.cells #[.slice A n c, .slice B m d] 25)).alloc (.cells #[.slice none 0 0, .slice none 0 0] 25)) w.heap.size 25 #[.slice A n c, .slice B m d] := (Blk.new w _ _).alloc _
  have k1 : Blk ((w.alloc (.cells #[.slice A n c, .slice B m d] 25)).alloc (.cells #[.slice none 0 0, .slice none 0 0] 25)) (w.heap.size + 1) 25 #[.slice none 0 0, .slice none 0 0] := Blk.newAt (by simp) _ _
  have hz : ((w.alloc (.cells #[.slice A n c, .slice B m d] 25)).alloc (.cells #[.slice none 0 0, .slice none 0 0] 25)).heap.size = w.heap.size + 2 := by simp
  go_enter Try.func14, Try.ntmps14
  go_wp2_with fail
  refine (HR.out _ hB0).mono ?_
  rintro e w1 ⟨rfl, hb1⟩
  obtain ⟨q0, q1, _, _⟩ := dcells (k0.below hb1)
  go_wp2_with fail
  refine (HH.out _).mono ?_
  rintro e w2 ⟨rfl, hb2⟩
  clear q0 q1
  have K0 := Lib.hid ((k0.below hb1).below hb2)
  have K1 := Lib.hid ((k1.below hb1).below hb2)
  have HB1 := Lib.hid (bt (bt hB0 hb1) hb2)
  have z2 : w.heap.size + 2 ≤ w2.heap.size := by have := hb1.size; have := hb2.size; omega
  clear k0 k1 hB0 hb1 hb2 hz
  go_wp2_with fail
  refine (HF.out _).mono ?_
  rintro e w3 ⟨rfl, rfl⟩
  obtain ⟨q0, q1, _, _⟩ := dcells K0.out
  go_wp2_with fail
  refine (HD.out _ HB1.out).mono ?_
  rintro e w4 ⟨B3, d3, rfl, hown, hb4⟩
  have K2 := Lib.hid (K0.out.below hb4)
  have K3 := Lib.hid (K1.out.below hb4)
  have HB4 := Lib.hid (bt HB1.out hb4)
  have z4 := hb4.size
  have hownA := hown.alloc (.cells #[.int .i64 k, sv t] 47)
  have hnews := World.news_of_block (heap_alloc_new w4 (.cells #[.int .i64 k, sv t] 47))
  clear q0 q1 K0 K1 HB1 hb4 hown
  go_wp2_with (at_builtin; refine wpList_append_own _ rfl _ _ 23 rfl w2.heap.size 47 ti _ 2 24 Try.underlying23 hi hz0 hz1 hz2 rfl (by decide) _ _ _ rfl hownA ⟨w4.heap.size, 0, none⟩ 1 1 [.int .i64 k, sv t] rfl rfl hnews (by simp [Value.oneCell']) (by unfold maxLen; omega) (by omega) (by simp; omega) ?_; intro v3 w5 hown3 hgrow3 _; obtain ⟨g3, c3, rfl⟩ := ownsRow_succ hown3; have K4 := Blk.grown (K2.out.alloc (.cells #[.int .i64 k, sv t] 47)) hgrow3 (fun e => by have := (hownA.lt _ e.symm).1; omega); obtain ⟨q0, q1, _, _⟩ := dcells K4)
  have K5 := Blk.grown (K3.out.alloc (.cells #[.int .i64 k, sv t] 47)) hgrow3 (fun e => by have := (hownA.lt _ e.symm).1; omega)
  have HB5 : Hid (Below w.heap.size w w5) := Lib.hid ((ba HB4.out _).grown hgrow3 (by simp; omega) (fun k e => by have := (hownA.lt k e).1; omega))
  have HO := Lib.hid hown3
  have z5 := hgrow3.size
  rw [World.size_alloc] at z5
  refine (HC.out _ HB5.out).mono ?_
  rintro e w6 ⟨A3, c4, rfl, hown6, hb6⟩
  have K6 := K5.below hb6
  have HO6 := Lib.hid hown6
  have HB6 := Lib.hid hb6
  have HG : Hid (w2.heap.size ≤ g3 ∧ g3 < w5.heap.size) := Lib.hid (HO.out.lt g3 rfl)
  obtain ⟨_, _, f0, f1⟩ := dcells K6
  obtain ⟨r0, r1, _, _⟩ := dcells K6
  clear q0 q1 hown6 hb6 hown3 hgrow3 hownA hnews K4 K5
  go_wp2_with fail
  have KK := (K6.set_ 0 (.slice A3 n c4)).set_ 1 (.slice (some ⟨g3, 0, none⟩) (m + 1) c3)
  have hPR : PR w5 (some ⟨g3, 0, none⟩) C2 := own_PR (by rw [HP.out.1]; exact HO.out) HP.out.2
  have hSR : SR w6 A3 S := own_SR' HO6.out HN.out
  have hSO := own_at HO6.out
  have hg3 := HG.out
  refine bodyPost_ret (dev_result rfl KK) rfl ?_
  refine ⟨A3, c4, some ⟨g3, 0, none⟩, c3, rfl, ?_, ?_, bs (bs (bt HB5.out HB6.out) (by omega) _) (by omega) _⟩
  · exact (hSR.far (fun g off e => by have := hSO g off e; simp; omega) _).far (fun g off e => by have := hSO g off e; simp; omega) _
  · exact ((hPR.later HB6.out).far (fun g off e => by cases e; simp; omega) _).far (fun g off e => by cases e; simp; omega) _
end Go.Proofs.Ytiibgbdhbamajaa
