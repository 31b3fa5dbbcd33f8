/- The contract of the reference's Drop. -/
import Derived.Test.YtnehodipblabbaaQRPush
namespace Go.Proofs.Ytnehodipblabbaa
open Go.RowKit

set_option maxRecDepth 100000 in
set_option maxHeartbeats 4000000 in
theorem rdrop_walk (A : Option Addr) (n c f m k p q : Nat) (I T : List (List UInt8)) (w : World) (hn1 : 1 ≤ n) (hn : n ≤ 64) (hf : f < n) (hkm : k ≤ m) (hmn : m ≤ n) (hp : (f + k) % n = p) (hq : m - k = q)
    (HI : Hid (∀ W, Below w.heap.size w W → Calls Try.prog 17 #[qv A n c (f : Int) (m : Int)] W fun e w' => ∃ g' c', e = .returned (.slice (some ⟨g', 0, none⟩) m c') ∧ m ≤ c' ∧ SR w' (some ⟨g', 0, none⟩) I ∧ Below W.heap.size W w'))
    (HIL : Hid (I.length = m))
    (HO : Hid (∀ W A' c', SR W A' (I.drop k) → Calls Try.prog 26 #[.int .i64 (n : Int), .int .i64 (p : Int), .slice A' q c'] W fun e w' => ∃ A' c', e = .returned (qv A' n c' (p : Int) (q : Int)) ∧ w'.ownsRow (W.heap.size + 1) 9 1 (.slice A' n c') n (T.map sv) ∧ Below W.heap.size W w'))
    (HTL : Hid (T.length = n)) :
    Calls Try.prog 19 #[qv A n c (f : Int) (m : Int), .int .i64 (k : Int)] w fun e w' => ∃ A' c', e = .returned (qv A' n c' (p : Int) (q : Int)) ∧ QM w' A' n c' T ∧ Below w.heap.size w w' := by
  have HB := Lib.hid (qtwo_below w A n c (f : Int) (m : Int))
  have HK := Lib.hid (qtwo_blk w A n c (f : Int) (m : Int))
  have HR := Lib.hid (qtwo_out w A n c (f : Int) (m : Int))
  obtain ⟨s, hs⟩ : ∃ s, f + k = s := ⟨_, rfl⟩
  rw [hs] at hp
  have e1 : (f : Int) + (k : Int) = (s : Int) := by omega
  have e2 : s ≤ 140 := by omega
  have e4 : Int.tmod (s : Int) (n : Int) = (p : Int) := by rw [Int.tmod_eq_emod_of_nonneg (by omega)]; omega
  have e5 : (s : Int) % (n : Int) = (p : Int) := by omega
  have e6 : ¬ n = 0 := by omega
  have e7 : ¬ (n : Int) = 0 := by omega
  have HKM := Lib.hid hkm
  have HQ := Lib.hid hq
  clear hs hp hkm hq hn1 hf
  have e8 : IntKind.i64.wrap (s : Int) = (s : Int) := by rw [IntKind.wrap_i64]; omega
  have HKS : Hid (∀ W, Below (w.heap.size + 1) (qtwo w A n c (f : Int) (m : Int)) W → Blk W w.heap.size 24 (qcs A n c (f : Int) (m : Int))) := Lib.hid fun W hb => (hb.block w.heap.size (by omega)).trans HK.out
  have HSB : Hid (∀ W, Below (qtwo w A n c (f : Int) (m : Int)).heap.size (qtwo w A n c (f : Int) (m : Int)) W → Below (w.heap.size + 1) (qtwo w A n c (f : Int) (m : Int)) W) := Lib.hid fun W hb => hb.mono (by simp)
  have HSS : Hid (∀ W v (o : Nat), Below (w.heap.size + 1) (qtwo w A n c (f : Int) (m : Int)) W → Below (w.heap.size + 1) (qtwo w A n c (f : Int) (m : Int)) (W.setCell ⟨w.heap.size + 1, o, none⟩ v)) := Lib.hid fun W v o hb => hb.setCell (p := ⟨w.heap.size + 1, o, none⟩) (Nat.le_refl _) v
  go_enter Try.func19, Try.ntmps19
  go_wp2_with fail
  refine wp_region_held_drew (S := fun W => Below (w.heap.size + 1) (qtwo w A n c (f : Int) (m : Int)) W) (by kernel_rfl) (HSB.out _ (Below.refl _ _).drew) (fun hHeld => ?_)
  refine wpAnyH_take (i := 0) (oi := ⟨some 5, _, _, _, _, _⟩) (v := ?_) rfl (by kernel_rfl) (by kernel_rfl) (by kernel_rfl) (fun _ _ _ h => h) (Or.inl ⟨by rfl, ?_⟩) (by assumption) ?_
  rotate_left
  · (intro w9 hSw; (try dsimp only at hSw); go_simp; try with_reducible rfl)
  try simp only [Act.put, List.setIfInBounds_toArray, List.set_cons_zero, List.set_cons_succ]
  refine wpAnyH_take (i := 1) (oi := ⟨some 6, _, _, _, _, _⟩) (v := .slice A n c) rfl (by kernel_rfl) (by kernel_rfl) (by kernel_rfl) (fun _ _ _ h => h) (Or.inl ⟨by rfl, ?_⟩) (by assumption) ?_
  · (intro w9 hSw; obtain ⟨⟨x0, x1, x2⟩, _⟩ := qcells (HKS.out _ hSw); (try dsimp only at hSw); go_simp)
  try simp only [Act.put, List.setIfInBounds_toArray, List.set_cons_zero, List.set_cons_succ]
  refine wpAnyH_take (i := 2) (oi := ⟨some 7, _, _, _, _, _⟩) (v := ?_) rfl (by kernel_rfl) (by kernel_rfl) (by kernel_rfl) (fun _ _ _ h => h) (Or.inl ⟨by rfl, ?_⟩) (by assumption) ?_
  rotate_left
  · (intro w9 hSw; (try dsimp only at hSw); go_simp; try with_reducible rfl)
  try simp only [Act.put, List.setIfInBounds_toArray, List.set_cons_zero, List.set_cons_succ]
  refine wpAnyH_take (i := 3) (oi := ⟨some 8, _, _, _, _, _⟩) (v := ?_) rfl (by kernel_rfl) (by kernel_rfl) (by kernel_rfl) (fun _ _ _ h => h) (Or.inl ⟨by rfl, ?_⟩) (by assumption) ?_
  rotate_left
  · (intro w9 hSw; (try dsimp only at hSw); go_simp; try with_reducible rfl)
  try simp only [Act.put, List.setIfInBounds_toArray, List.set_cons_zero, List.set_cons_succ]
  refine wpAnyH_take (i := 4) (oi := ⟨some 9, _, _, _, _, _⟩) (v := .int .i64 (f : Int)) rfl (by kernel_rfl) (by kernel_rfl) (by kernel_rfl) (fun _ _ _ h => h) (Or.inl ⟨by rfl, ?_⟩) (by assumption) ?_
  · (intro w9 hSw; obtain ⟨⟨x0, x1, x2⟩, _⟩ := qcells (HKS.out _ hSw); (try dsimp only at hSw); go_simp)
  try simp only [Act.put, List.setIfInBounds_toArray, List.set_cons_zero, List.set_cons_succ]
  refine wpAnyH_take (i := 5) (oi := ⟨some 10, _, _, _, _, _⟩) (v := ?_) rfl (by kernel_rfl) (by kernel_rfl) (by kernel_rfl) (fun _ _ _ h => h) (Or.inl ⟨by rfl, ?_⟩) (by assumption) ?_
  rotate_left
  · (intro w9 hSw; (try dsimp only at hSw); go_simp; try with_reducible rfl)
  try simp only [Act.put, List.setIfInBounds_toArray, List.set_cons_zero, List.set_cons_succ]
  refine wpAnyH_take (i := 6) (oi := ⟨some 11, _, _, _, _, _⟩) (v := .int .i64 (s : Int)) rfl (by kernel_rfl) (by kernel_rfl) (by kernel_rfl) (fun _ _ _ h => h) (Or.inl ⟨by rfl, ?_⟩) (by assumption) ?_
  · (intro w9 hSw; (try dsimp only at hSw); go_simp)
  try simp only [Act.put, List.setIfInBounds_toArray, List.set_cons_zero, List.set_cons_succ]
  refine wpAnyH_take (i := 7) (oi := ⟨some 12, _, _, _, _, _⟩) (v := ?_) rfl (by kernel_rfl) (by kernel_rfl) (by kernel_rfl) (fun _ _ _ h => h) (Or.inl ⟨by rfl, ?_⟩) (by assumption) ?_
  rotate_left
  · (intro w9 hSw; (try dsimp only at hSw); go_simp; try with_reducible rfl)
  try simp only [Act.put, List.setIfInBounds_toArray, List.set_cons_zero, List.set_cons_succ]
  refine wpAnyH_take (i := 8) (oi := ⟨some 13, _, _, _, _, _⟩) (v := .slice A n c) rfl (by kernel_rfl) (by kernel_rfl) (by kernel_rfl) (fun _ _ _ h => h) (Or.inl ⟨by rfl, ?_⟩) (by assumption) ?_
  · (intro w9 hSw; obtain ⟨⟨x0, x1, x2⟩, _⟩ := qcells (HKS.out _ hSw); (try dsimp only at hSw); go_simp)
  try simp only [Act.put, List.setIfInBounds_toArray, List.set_cons_zero, List.set_cons_succ]
  refine wpAnyH_take (i := 9) (oi := ⟨some 14, _, _, _, _, _⟩) (v := ?_) rfl (by kernel_rfl) (by kernel_rfl) (by kernel_rfl) (fun _ _ _ h => h) (Or.inl ⟨by rfl, ?_⟩) (by assumption) ?_
  rotate_left
  · (intro w9 hSw; (try dsimp only at hSw); go_simp; try with_reducible rfl)
  try simp only [Act.put, List.setIfInBounds_toArray, List.set_cons_zero, List.set_cons_succ]
  refine wpAnyH_take (i := 10) (oi := ⟨some 15, _, _, _, _, _⟩) (v := .int .i64 (p : Int)) rfl (by kernel_rfl) (by kernel_rfl) (by kernel_rfl) (fun _ _ _ h => h) (Or.inl ⟨by rfl, ?_⟩) (by assumption) ?_
  · (intro w9 hSw; (try dsimp only at hSw); go_simp)
  try simp only [Act.put, List.setIfInBounds_toArray, List.set_cons_zero, List.set_cons_succ]
  refine wpAnyH_take (i := 11) (oi := ⟨some 16, _, _, _, _, _⟩) (v := qv A n c (f : Int) (m : Int)) rfl (by kernel_rfl) (by kernel_rfl) (by kernel_rfl) (fun _ _ _ h => h) (Or.inl ⟨by rfl, ?_⟩) (by assumption) ?_
  · (intro w9 hSw; obtain ⟨⟨x0, x1, x2⟩, _⟩ := qcells (HKS.out _ hSw); (try dsimp only at hSw); go_simp)
  try simp only [Act.put, List.setIfInBounds_toArray, List.set_cons_zero, List.set_cons_succ]
  refine wpAnyH_take (i := 13) (oi := ⟨some 18, _, _, _, _, _⟩) (v := ?_) rfl (by kernel_rfl) (by kernel_rfl) (by kernel_rfl) (fun _ _ _ h => h) (Or.inl ⟨by rfl, ?_⟩) (by assumption) ?_
  rotate_left
  · (intro w9 hSw; (try dsimp only at hSw); go_simp; try with_reducible rfl)
  try simp only [Act.put, List.setIfInBounds_toArray, List.set_cons_zero, List.set_cons_succ]
  refine wpAnyH_ready (rs := [12]) (by kernel_rfl) (by simp) ?_
  refine AllReadyH.cons (o := ⟨some 17, _, _, _, _, _⟩) rfl (fun K9 hK9 => ?_) AllReadyH.nil
  go_simp; go_at_call 17
  refine (HI.out _ HB.out.drew).mono ?_
  rintro e w7 ⟨g7, c7, rfl, hmc, hsr, hb7⟩
  have hB7 : Below (qtwo w A n c (f : Int) (m : Int)).heap.size (qtwo w A n c (f : Int) (m : Int)) w7 := bt (Below.refl _ _).drew hb7
  obtain ⟨A8, hrun, hsr8⟩ := qslice_from (some ⟨g7, 0, none⟩) I m c7 k HIL.out HKM.out hmc
  have HS8 := Lib.hid (hsr8 _ hsr)
  rw [HQ.out] at hrun
  clear hsr hsr8 hmc
  refine hK9.out _ _ ?_ (fun hHeld => ?_)
  · exact HSB.out _ hB7
  clear hK9 K9
  try simp only [Act.put, List.setIfInBounds_toArray, List.set_cons_zero, List.set_cons_succ]
  refine wpAnyH_take (i := 14) (oi := ⟨some 19, _, _, _, _, _⟩) (v := .slice A8 q (c7 - k)) rfl (by kernel_rfl) (by kernel_rfl) (by kernel_rfl) (fun _ _ _ h => h) (Or.inl ⟨by rfl, ?_⟩) (by assumption) ?_
  · (intro w9 hSw; (try dsimp only at hSw); go_simp)
  try simp only [Act.put, List.setIfInBounds_toArray, List.set_cons_zero, List.set_cons_succ]
  refine wpAnyH_ready (rs := [15]) (by kernel_rfl) (by simp) ?_
  refine AllReadyH.cons (o := ⟨some 20, _, _, _, _, _⟩) rfl (fun K9 hK9 => ?_) AllReadyH.nil
  go_simp; go_at_call 26
  refine (HO.out _ _ _ HS8.out).mono ?_
  rintro e w8 ⟨A9, c9, rfl, hown8, hb8⟩
  have hB8 := bt hB7 hb8
  have hlt8 := (HR.out.below hB7).lt
  refine hK9.out _ _ ?_ (fun hHeld => ?_)
  · exact HSB.out _ hB8
  clear hK9 K9
  try simp only [Act.put, List.setIfInBounds_toArray, List.set_cons_zero, List.set_cons_succ]
  refine wpAnyH_ready (rs := [16]) (by kernel_rfl) (by simp) ?_
  refine AllReadyH.cons (o := ⟨none, _, _, _, _, _⟩) rfl (fun K9 hK9 => ?_) AllReadyH.nil
  have R8 := HR.out.below hB8; obtain ⟨⟨r0, r1, r2⟩, p0, p1, p2⟩ := qcells R8
  go_simp
  refine hK9.out _ _ ?_ (fun hHeld => ?_)
  · exact HSS.out _ _ 2 (HSS.out _ _ 1 (HSS.out _ _ 0 (HSB.out _ hB8)))
  clear hK9 K9
  try simp only [Act.put]
  refine wpAnyH_done (by kernel_rfl) ?_ _
  clear hHeld
  go_wp2
  refine bodyPost_ret (ring1_result rfl (((R8.set_ 0 _).set_ 1 _).set_ 2 _)) rfl ?_
  have hB9 := bt HB.out hB8
  exact ⟨A9, c9, rfl, own_QM (qown_far (qown_far (qown_far hown8 (by simp; omega) _) (by simp; omega) _) (by simp; omega) _) HTL.out (by omega), bs (bs (bs hB9 (by omega) _) (by omega) _) (by omega) _⟩

theorem rdrop_any (A : Option Addr) (n c f m k : Nat) (L : List (List UInt8)) (w : World) (hM : QM w A n c L) (hr : QR L f m) (hk : k ≤ m) :
    Calls Try.prog 19 #[qv A n c (f : Int) (m : Int), .int .i64 (k : Int)] w fun e w' => ∃ A' c', e = .returned (qv A' n c' ((qs n f k : Nat) : Int) ((m - k : Nat) : Int)) ∧ QM w' A' n c' (qdrop L f k) ∧ Below w.heap.size w w' := by
  have hl := hM.len
  have h1 := hr.lo
  have h2 := hr.hi
  have h3 := hr.start
  have h4 := hr.many
  have h5 := hr.drop_of hk
  rw [hl] at h1 h2 h3 h4 h5
  refine rdrop_walk A n c f m k (qs n f k) (m - k) (qitems L f m) (qdrop L f k) w h1 h2 h3 hk h4 rfl rfl (Lib.hid fun W hb => ?_) (Lib.hid (qitems_len _ _ _)) (Lib.hid fun W A' c' hA => ?_) (Lib.hid (by rw [qdrop_len, hl]))
  · refine (ritems_any A n c f m L W (hM.later hb) h1 h2 h3 h4).mono ?_
    rintro e w' ⟨g, c', rfl, hown, hb2⟩
    have hc : m ≤ c' := by
      obtain ⟨A2, c2, e2, hh⟩ := own_form hown
      injection e2 with e3 e4 e5
      subst e5
      rcases hh with ⟨_, e6, _⟩ | ⟨_, _, e6, _⟩
      · omega
      · exact e6
    exact ⟨g, c', rfl, hc, own_SR hown (qitems_len _ _ _), hb2⟩
  · have := rof_any A' n c' (qs n f k) (m - k) ((qitems L f m).drop k) W hA (by rw [List.length_drop, qitems_len]) h1 h2 (qs_lt h1)
    rwa [h5] at this
end Go.Proofs.Ytnehodipblabbaa
