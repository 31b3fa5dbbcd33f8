/- MacGoes is true of every two texts, every list of texts and every number, and leaves them as they were. -/
import Derived.Test.YtehdejpgpogklaaMChain
import Derived.Deep.RegionHeld3
namespace Go.Proofs.Ytehdejpgpogklaa
open Go.ChangeShapes Go.WideShapes Go.ChangeAt Go.RowKit Go.Joins Go.Deep

theorem slice_strs_from (A : Option Addr) (L : List (List UInt8)) (n c k : Nat) (hl : L.length = n) (hk : k ≤ n) (hc : n ≤ c) :
    ∃ A' : Option Addr, (∀ W : World, (Instr.slice 26 (.slice A n c) (some (.int .i64 (k : Int))) none none).run Try.prog W = .ok (.slice A' (n - k) (c - k)) W) ∧ ∀ W, SR W A L → SR W A' (L.drop k) := by
  refine ⟨if c = k then A else A.map (·.add (k * 1)), fun W => ?_, fun W h => ?_⟩
  · rw [run_slice_l (P := Try.prog) W _ _ _ _ Try.underlying26 .i64 (k : Int) (by omega) (by omega)]
    go_simp
  · by_cases hkn : k = n
    · subst hkn
      rw [List.drop_of_length_le (by omega)]
      exact SR.nil _ _
    · obtain ⟨g, off, rfl, _⟩ := h k (by omega)
      rw [if_neg (by omega)]
      simp only [Option.map_some, Nat.mul_one]
      have := h.drop k
      rw [show (⟨g, off, none⟩ : Addr).add k = ⟨g, off + k, none⟩ from Go.WideShapes.add_plain _ _ _]
      exact this
theorem rem_small (k : Int) (m : Nat) (hm : m ≤ 100) : ∃ j : Nat, j ≤ m ∧ (k.tmod ((m : Int) + 1) + (m : Int) + 1).tmod ((m : Int) + 1) = (j : Int) ∧ 0 ≤ k.tmod ((m : Int) + 1) + (m : Int) + 1 ∧ k.tmod ((m : Int) + 1) + (m : Int) + 1 ≤ 300 ∧ -101 ≤ k.tmod ((m : Int) + 1) ∧ k.tmod ((m : Int) + 1) ≤ 101 := by
  have h1 := Int.tmod_lt_of_pos k (show (0 : Int) < (m : Int) + 1 by omega)
  have h2 : -((m : Int) + 1) < k.tmod ((m : Int) + 1) := by
    have := Int.lt_tmod_of_pos k (show (0 : Int) < (m : Int) + 1 by omega)
    omega
  have h3 : 0 ≤ k.tmod ((m : Int) + 1) + (m : Int) + 1 := by omega
  rw [Int.tmod_eq_emod_of_nonneg h3]
  have h4 := Int.emod_nonneg (k.tmod ((m : Int) + 1) + (m : Int) + 1) (show ((m : Int) + 1) ≠ 0 by omega)
  have h5 := Int.emod_lt_of_pos (k.tmod ((m : Int) + 1) + (m : Int) + 1) (show (0 : Int) < (m : Int) + 1 by omega)
  generalize (k.tmod ((m : Int) + 1) + (m : Int) + 1) % ((m : Int) + 1) = r at h4 h5
  exact ⟨r.toNat, by omega, by omega, h3, by omega, by omega, by omega⟩

set_option maxRecDepth 100000 in
set_option maxHeartbeats 4000000 in
theorem goes_any (a b : List UInt8) (L0 : List (List UInt8)) (A0 : Option Addr) (c0 : Nat) (i : Int) (w : World) (ha : (a.length : Int) ≤ 9223372036854775807) (hb : (b.length : Int) ≤ 9223372036854775807)
    (hc : L0.length ≤ c0) (hL : (L0.length : Int) ≤ 9223372036854775807) (hS : ∀ j, ((L0.getD j []).length : Int) ≤ 9223372036854775807) (hR : SR w A0 L0) :
    Calls Try.prog 6 #[.string ⟨a.toArray⟩, .string ⟨b.toArray⟩, .slice A0 L0.length c0, .int .i64 i] w fun e w' => e = .returned (.bool true) ∧ Below w.heap.size w w' := by
  have HA := Lib.hid (cut_any a w ha)
  have HB := Lib.hid (cut_any b w hb)
  have hl1 : (a.take 200).length ≤ 200 := by rw [List.length_take]; omega
  have hl2 : (b.take 200).length ≤ 200 := by rw [List.length_take]; omega
  generalize a.take 200 = K at HA hl1
  generalize b.take 200 = F at HB hl2
  have HF := Lib.hid (few_any L0 A0 c0 w hR hL hc hS)
  have hfl := fewL_len L0
  have hfs : ∀ j, ((fewL L0).getD j []).length ≤ 200 := fewL_get L0
  generalize fewL L0 = L at HF hfl hfs
  obtain ⟨n, hn⟩ : ∃ n, L.length = n := ⟨_, rfl⟩
  rw [hn] at HF hfl
  obtain ⟨k, hkn, hk1, hk2, hk3, hk4, hk5⟩ := rem_small i n (by omega)
  clear hb ha hc hL hS hR
  go_enter Try.func6, Try.ntmps6
  go_wp2_with fail
  refine HA.out.mono ?_
  rintro e w1 ⟨rfl, rfl⟩
  go_wp2_with fail
  refine HB.out.mono ?_
  rintro e w1 ⟨rfl, rfl⟩
  go_wp2_with fail
  refine HF.out.mono ?_
  rintro e w1 ⟨A1, c1, rfl, hown1, hb1⟩
  have hc1 : n ≤ c1 := by
    obtain ⟨A', c', e, hh⟩ := own_form hown1
    injection e with e1 e2 e3
    subst e3
    rcases hh with ⟨_, h0, _⟩ | ⟨_, _, h0, _⟩ <;> omega
  have hs1 := own_SR' hown1 hn
  clear hown1 HA HB HF
  have HC := Lib.hid (fun W hA => chain_any K F L A1 c1 n W hn hA (by omega) (by omega) (by omega) (fun j _ => by have := hfs j; omega))
  have hCl : (chainL K F L).length = n := by rw [chainL, chainK_len, hn]
  have HD : Hid (∀ m, m ≤ n → chainL K (headK (innL K) (outL K) F L m) (L.drop m) = (chainL K F L).drop m) := Lib.hid (fun m h => chainK_drop (innL K) (outL K) L F m (by omega))
  have HAT := Lib.hid (fun m (h : m < n) => chainK_at (innL K) (outL K) L F m (by omega))
  have HHS := Lib.hid (fun m (h : m < n) => headK_succ (innL K) (outL K) F L m (by omega))
  have HHL := Lib.hid (fun m (h : m ≤ n) => headK_len (innL K) (outL K) F L m 200 (by omega) (by omega) (by omega))
  have HCQ : Hid (chainL K F L = chainK (innL K) (outL K) F L) := Lib.hid rfl
  generalize chainL K F L = C at HC hCl HCQ HD
  go_wp2_with fail
  refine (HC.out _ hs1).mono ?_
  rintro e w2 ⟨g2, c2, rfl, hown2, hb2⟩
  have hs2 := hs1.later hb2
  have ht2 := own_SR hown2 hCl
  have hc2 : n ≤ c2 := by
    obtain ⟨A', c', e, hh⟩ := own_form hown2
    injection e with e1 e2 e3
    subst e3
    rcases hh with ⟨_, h0, _⟩ | ⟨_, _, h0, _⟩ <;> omega
  have hB2 := bt hb1 hb2
  clear hs1 hb1 hb2 hown2
  go_wp2_with fail
  refine (alive_any _).mono ?_
  rintro e w3 ⟨rfl, hb3⟩
  have hs3 := hs2.later hb3
  have ht3 := ht2.later hb3
  have hB3 := bt hB2 hb3
  clear hs2 ht2 hB2 hb3
  go_wp2_with fail
  have HTL : Hid (∀ t, tagL K t = tagK (innL K) (outL K) t) := Lib.hid fun _ => rfl
  have HCK := Lib.hid (fun s t W (h : s.length ≤ 60000) => check_any K s t W (by omega) h)
  generalize innL K = I at HD HAT HHS HHL HCQ HTL
  generalize outL K = O at HD HAT HHS HHL HCQ HTL
  rw [← HCQ.out] at HAT
  have H0 : Hid (headK I O F L 0 = F) := Lib.hid rfl
  have HKC : Hid (∀ m, m < n → headK I O F L (m + 1) = C.getD m []) := Lib.hid fun m h => by rw [HHS.out m h, HAT.out m h]
  have HFS := Lib.hid hfs
  have HS3 := Lib.hid hs3
  have HT3 := Lib.hid ht3
  have HLN := Lib.hid hn
  have HCL := Lib.hid hCl
  clear hfs hs3 ht3 HCQ HHS hn hCl
  go_loopw [10, 49] (fun fv iv wr => ∃ j : Nat, j ≤ n ∧ iv = .int .i64 j ∧ fv = .string ⟨(headK I O F L j).toArray⟩ ∧ Below w3.heap.size w3 wr) (fun _ iv _ => n - (intOf iv).toNat)
  case atStart => exact ⟨0, Nat.zero_le _, rfl, by rw [H0.out], Below.refl _ _⟩
  case round =>
    obtain ⟨j, hj, rfl, rfl, hb⟩ := hrel
    by_cases hlt : j < n
    · obtain ⟨ga, off, rfl, ca⟩ := (HS3.out.later hb) j (by rw [HLN.out]; omega)
      obtain ⟨gb, ofb, eb, cb⟩ := (HT3.out.later hb) j (by rw [HCL.out]; omega)
      obtain ⟨rfl, rfl⟩ : g2 = gb ∧ 0 = ofb := by injection eb with e; injection e with e1 e2; exact ⟨e1, e2⟩
      rw [Nat.zero_add] at cb
      have h1 := HFS.out j
      have h2 := HHL.out j (by omega)
      have h3 := HAT.out j hlt
      have h4 := HKC.out j hlt
      generalize L.getD j [] = x at ca h1 h3
      generalize headK I O F L j = hd at h2 h3 ⊢
      generalize C.getD j [] = y at cb h3 h4
      have a1 : ∀ W : World, (Op.stringOp .add ⟨hd.toArray⟩ ⟨x.toArray⟩).run Try.prog W = .ok (.string ⟨(hd ++ x).toArray⟩) W := fun W => run_string_add_lists (P := Try.prog) W _ _ (by omega) (by omega)
      have HT1 := Lib.hid (fun W => HCK.out (hd ++ x) y W (by rw [List.length_append]; omega))
      rw [HTL.out, ← h3, show (y == y) = true from by simp] at HT1
      have H4 := Lib.hid h4
      clear h1 h2 h3 h4 eb
      generalize hd ++ x = hx at a1 HT1
      have i0 : (0 : Int) ≤ (j : Int) := by omega
      have i1 : (j : Int) < (n : Int) := by omega
      go_wp2_with fail
      refine (HT1.out _).mono ?_
      rintro e w4 ⟨rfl, hb4⟩
      have hB4 := bt hb hb4
      have cb4 := cell_later hb4 cb
      clear hb hb4 ca cb
      go_wp2_with fail
      exact ⟨⟨j + 1, by omega, by go_num, by rw [H4.out], hB4⟩, by simp [intOf]; omega⟩
    · obtain rfl : j = n := by omega
      obtain ⟨A2, sl1, sl2⟩ := slice_strs_from A1 L j c1 k HLN.out hkn hc1
      obtain ⟨A3, sl3, sl4⟩ := slice_strs_from (some ⟨g2, 0, none⟩) C j c2 k HCL.out hkn hc2
      have hB3' : Below w.heap.size w wr := bt hB3 hb
      have hSR2 := sl2 wr (HS3.out.later hb)
      have hSR4 := sl4 wr (HT3.out.later hb)
      have hdr := HD.out k hkn
      have hdl := HHL.out k hkn
      have hln2 : (L.drop k).length = j - k := by rw [List.length_drop, HLN.out]
      have hcl2 : (C.drop k).length = j - k := by rw [List.length_drop, HCL.out]
      have hfs2 : ∀ m, ((L.drop k).getD m []).length ≤ 200 := fun m => by rw [getD_drop]; exact HFS.out _
      have HTOP : Hid (headK I O F L k = if k = 0 then F else C.getD (k - 1) []) := Lib.hid (by
        by_cases h0 : k = 0
        · subst h0; rw [H0.out]; rfl
        · rw [if_neg h0]
          have := HKC.out (k - 1) (by omega)
          rwa [show k - 1 + 1 = k by omega] at this)
      have HCH := Lib.hid (fun (f : List UInt8) (hf : f.length ≤ 1000) A c W hA => chain_any K f (L.drop k) A c (j - k) W hln2 hA (by omega) (by omega) hf (fun m _ => by have := hfs2 m; omega))
      have HCE : Hid (chainL K (headK I O F L k) (L.drop k) = C.drop k) := Lib.hid hdr
      have hb9 := hb
      clear hb HS3 hdr hfs2 hln2 HFS HHL HD HAT HKC HTL H0 HCK
      obtain ⟨T, hT⟩ : ∃ T, headK I O F L k = T := ⟨_, rfl⟩
      rw [hT] at hdl HTOP HCE
      have HCT := Lib.hid (HCH.out T (by omega))
      rw [HCE.out] at HCT
      clear hT HCH HCE hdl
      have fin : ∀ (W : World), SR W A2 (L.drop k) → SR W A3 (C.drop k) → Below w.heap.size w W → True := fun _ _ _ _ => trivial
      clear fin
      by_cases hk0 : k = 0
      · have hi0 : ¬ (0 : Int) < (k : Int) := by omega
        have hTF : T = F := by rw [HTOP.out, if_pos hk0]
        subst hTF
        clear hk0
        go_wp2_with fail
        clear hi0
        refine wp_region_held_drew (S := fun W => Below w.heap.size w W) (by kernel_rfl) ?_ (fun hHeld => ?_)
        · exact hB3'.drew
        refine wpAnyH_take (i := 0) (oi := ⟨some 77, _, _, _, _, _⟩) (v := ?_) rfl (by kernel_rfl) (by kernel_rfl) (by kernel_rfl) (fun _ _ _ h => h) (Or.inl ⟨by rfl, ?_⟩) (by assumption) ?_
        rotate_left
        · (intro w9 hSw; (try dsimp only at hSw); go_simp; try with_reducible rfl)
        try simp only [Act.put, List.setIfInBounds_toArray, List.set_cons_zero, List.set_cons_succ]
        refine wpAnyH_take (i := 1) (oi := ⟨some 78, _, _, _, _, _⟩) (v := ?_) rfl (by kernel_rfl) (by kernel_rfl) (by kernel_rfl) (fun _ _ _ h => h) (Or.inl ⟨by rfl, ?_⟩) (by assumption) ?_
        rotate_left
        · (intro w9 hSw; (try dsimp only at hSw); go_simp; try with_reducible rfl)
        try simp only [Act.put, List.setIfInBounds_toArray, List.set_cons_zero, List.set_cons_succ]
        refine wpAnyH_take (i := 2) (oi := ⟨some 79, _, _, _, _, _⟩) (v := ?_) rfl (by kernel_rfl) (by kernel_rfl) (by kernel_rfl) (fun _ _ _ h => h) (Or.inl ⟨by rfl, ?_⟩) (by assumption) ?_
        rotate_left
        · (intro w9 hSw; (try dsimp only at hSw); go_simp; try with_reducible rfl)
        try simp only [Act.put, List.setIfInBounds_toArray, List.set_cons_zero, List.set_cons_succ]
        refine wpAnyH_take (i := 3) (oi := ⟨some 80, _, _, _, _, _⟩) (v := ?_) rfl (by kernel_rfl) (by kernel_rfl) (by kernel_rfl) (fun _ _ _ h => h) (Or.inl ⟨by rfl, ?_⟩) (by assumption) ?_
        rotate_left
        · (intro w9 hSw; (try dsimp only at hSw); go_simp; try with_reducible rfl)
        try simp only [Act.put, List.setIfInBounds_toArray, List.set_cons_zero, List.set_cons_succ]
        refine wpAnyH_take (i := 4) (oi := ⟨some 81, _, _, _, _, _⟩) (v := .slice A2 (j - k) (c1 - k)) rfl (by kernel_rfl) (by kernel_rfl) (by kernel_rfl) (fun _ _ _ h => h) (Or.inl ⟨by rfl, ?_⟩) (by assumption) ?_
        · (intro w9 hSw; (try dsimp only at hSw); go_simp; try rw [sl1]; try with_reducible rfl)
        try simp only [Act.put, List.setIfInBounds_toArray, List.set_cons_zero, List.set_cons_succ]
        refine wpAnyH_take (i := 6) (oi := ⟨some 83, _, _, _, _, _⟩) (v := ?_) rfl (by kernel_rfl) (by kernel_rfl) (by kernel_rfl) (fun _ _ _ h => h) (Or.inl ⟨by rfl, ?_⟩) (by assumption) ?_
        rotate_left
        · (intro w9 hSw; (try dsimp only at hSw); go_simp; try with_reducible rfl)
        try simp only [Act.put, List.setIfInBounds_toArray, List.set_cons_zero, List.set_cons_succ]
        refine wpAnyH_take (i := 7) (oi := ⟨some 84, _, _, _, _, _⟩) (v := ?_) rfl (by kernel_rfl) (by kernel_rfl) (by kernel_rfl) (fun _ _ _ h => h) (Or.inl ⟨by rfl, ?_⟩) (by assumption) ?_
        rotate_left
        · (intro w9 hSw; (try dsimp only at hSw); go_simp; try with_reducible rfl)
        try simp only [Act.put, List.setIfInBounds_toArray, List.set_cons_zero, List.set_cons_succ]
        refine wpAnyH_take (i := 8) (oi := ⟨some 85, _, _, _, _, _⟩) (v := .slice A3 (j - k) (c2 - k)) rfl (by kernel_rfl) (by kernel_rfl) (by kernel_rfl) (fun _ _ _ h => h) (Or.inl ⟨by rfl, ?_⟩) (by assumption) ?_
        · (intro w9 hSw; (try dsimp only at hSw); go_simp; try rw [sl3]; try with_reducible rfl)
        try simp only [Act.put, List.setIfInBounds_toArray, List.set_cons_zero, List.set_cons_succ]
        refine wpAnyH_ready (rs := [5]) (by kernel_rfl) (by simp) ?_
        refine AllReadyH.cons (o := ⟨some 82, _, _, _, _, _⟩) rfl (fun K9 hK9 => ?_) AllReadyH.nil
        go_simp
        go_at_call 14
        refine (HCT.out _ _ _ (hSR2.later (Below.refl _ _).drew)).mono ?_
        rintro e x1 ⟨g5, c5, rfl, hown5, hb5⟩
        have ht5 := own_SR hown5 hcl2
        have hs5 := (hSR4.later (Below.refl _ _).drew).later hb5
        have hS5 := bt (by assumption : Below w.heap.size w _) hb5
        clear hb5 hown5
        go_wp2_with fail
        refine hK9.out _ _ ?_ (fun hHeld => ?_)
        · assumption
        clear hK9 K9
        try simp only [Act.put, List.setIfInBounds_toArray, List.set_cons_zero, List.set_cons_succ]
        refine wpAnyH_ready (rs := [9]) (by kernel_rfl) (by simp) ?_
        refine AllReadyH.cons (o := ⟨some 86, _, _, _, _, _⟩) rfl (fun K9 hK9 => ?_) AllReadyH.nil
        go_simp
        go_at_call 13
        refine (rsame_any _ _ _ _ _ (C.drop k) _ ht5 hs5 hcl2 (by omega)).mono ?_
        rintro e x2 ⟨rfl, hb6⟩
        have hS6 := bt (by assumption : Below w.heap.size w _) hb6
        clear hb6
        go_wp2_with fail
        refine hK9.out _ _ ?_ (fun hHeld => ?_)
        · assumption
        clear hK9 K9
        try simp only [Act.put, List.setIfInBounds_toArray, List.set_cons_zero, List.set_cons_succ]
        refine wpAnyH_take (i := 10) (oi := ⟨some 8, _, _, _, _, _⟩) (v := ?_) rfl (by kernel_rfl) (by kernel_rfl) (by kernel_rfl) (fun _ _ _ h => h) (Or.inl ⟨by rfl, ?_⟩) (by assumption) ?_
        rotate_left
        · (intro w9 hSw; (try dsimp only at hSw); go_simp; try with_reducible rfl)
        try simp only [Act.put, List.setIfInBounds_toArray, List.set_cons_zero, List.set_cons_succ]
        refine wpAnyH_done (by kernel_rfl) ?_ _
        go_wp2_with fail
        go_ret
        exact ⟨rfl, by assumption⟩
      · have hi0 : (0 : Int) < (k : Int) := by omega
        have hTF : T = C.getD (k - 1) [] := by rw [HTOP.out, if_neg hk0]
        obtain ⟨gb, ofb, eb, cb⟩ := (HT3.out.later hb9) (k - 1) (by rw [HCL.out]; omega)
        obtain ⟨rfl, rfl⟩ : g2 = gb ∧ 0 = ofb := by injection eb with e; injection e with e1 e2; exact ⟨e1, e2⟩
        rw [Nat.zero_add, ← hTF] at cb
        obtain ⟨q, hq⟩ : ∃ q : Nat, q + 1 = k := ⟨k - 1, by omega⟩
        rw [show k - 1 = q by omega] at cb
        have iq : (k : Int) - 1 = (q : Int) := by omega
        have iq2 : (0 : Int) ≤ (q : Int) := by omega
        have iq3 : (q : Int) < (j : Int) := by omega
        clear hq hTF eb hk0
        go_wp2_with fail
        clear iq iq2 iq3 cb hi0
        refine wp_region_held_drew (S := fun W => Below w.heap.size w W) (by kernel_rfl) ?_ (fun hHeld => ?_)
        · exact hB3'.drew
        refine wpAnyH_take (i := 0) (oi := ⟨some 77, _, _, _, _, _⟩) (v := ?_) rfl (by kernel_rfl) (by kernel_rfl) (by kernel_rfl) (fun _ _ _ h => h) (Or.inl ⟨by rfl, ?_⟩) (by assumption) ?_
        rotate_left
        · (intro w9 hSw; (try dsimp only at hSw); go_simp; try with_reducible rfl)
        try simp only [Act.put, List.setIfInBounds_toArray, List.set_cons_zero, List.set_cons_succ]
        refine wpAnyH_take (i := 1) (oi := ⟨some 78, _, _, _, _, _⟩) (v := ?_) rfl (by kernel_rfl) (by kernel_rfl) (by kernel_rfl) (fun _ _ _ h => h) (Or.inl ⟨by rfl, ?_⟩) (by assumption) ?_
        rotate_left
        · (intro w9 hSw; (try dsimp only at hSw); go_simp; try with_reducible rfl)
        try simp only [Act.put, List.setIfInBounds_toArray, List.set_cons_zero, List.set_cons_succ]
        refine wpAnyH_take (i := 2) (oi := ⟨some 79, _, _, _, _, _⟩) (v := ?_) rfl (by kernel_rfl) (by kernel_rfl) (by kernel_rfl) (fun _ _ _ h => h) (Or.inl ⟨by rfl, ?_⟩) (by assumption) ?_
        rotate_left
        · (intro w9 hSw; (try dsimp only at hSw); go_simp; try with_reducible rfl)
        try simp only [Act.put, List.setIfInBounds_toArray, List.set_cons_zero, List.set_cons_succ]
        refine wpAnyH_take (i := 3) (oi := ⟨some 80, _, _, _, _, _⟩) (v := ?_) rfl (by kernel_rfl) (by kernel_rfl) (by kernel_rfl) (fun _ _ _ h => h) (Or.inl ⟨by rfl, ?_⟩) (by assumption) ?_
        rotate_left
        · (intro w9 hSw; (try dsimp only at hSw); go_simp; try with_reducible rfl)
        try simp only [Act.put, List.setIfInBounds_toArray, List.set_cons_zero, List.set_cons_succ]
        refine wpAnyH_take (i := 4) (oi := ⟨some 81, _, _, _, _, _⟩) (v := .slice A2 (j - k) (c1 - k)) rfl (by kernel_rfl) (by kernel_rfl) (by kernel_rfl) (fun _ _ _ h => h) (Or.inl ⟨by rfl, ?_⟩) (by assumption) ?_
        · (intro w9 hSw; (try dsimp only at hSw); go_simp; try rw [sl1]; try with_reducible rfl)
        try simp only [Act.put, List.setIfInBounds_toArray, List.set_cons_zero, List.set_cons_succ]
        refine wpAnyH_take (i := 6) (oi := ⟨some 83, _, _, _, _, _⟩) (v := ?_) rfl (by kernel_rfl) (by kernel_rfl) (by kernel_rfl) (fun _ _ _ h => h) (Or.inl ⟨by rfl, ?_⟩) (by assumption) ?_
        rotate_left
        · (intro w9 hSw; (try dsimp only at hSw); go_simp; try with_reducible rfl)
        try simp only [Act.put, List.setIfInBounds_toArray, List.set_cons_zero, List.set_cons_succ]
        refine wpAnyH_take (i := 7) (oi := ⟨some 84, _, _, _, _, _⟩) (v := ?_) rfl (by kernel_rfl) (by kernel_rfl) (by kernel_rfl) (fun _ _ _ h => h) (Or.inl ⟨by rfl, ?_⟩) (by assumption) ?_
        rotate_left
        · (intro w9 hSw; (try dsimp only at hSw); go_simp; try with_reducible rfl)
        try simp only [Act.put, List.setIfInBounds_toArray, List.set_cons_zero, List.set_cons_succ]
        refine wpAnyH_take (i := 8) (oi := ⟨some 85, _, _, _, _, _⟩) (v := .slice A3 (j - k) (c2 - k)) rfl (by kernel_rfl) (by kernel_rfl) (by kernel_rfl) (fun _ _ _ h => h) (Or.inl ⟨by rfl, ?_⟩) (by assumption) ?_
        · (intro w9 hSw; (try dsimp only at hSw); go_simp; try rw [sl3]; try with_reducible rfl)
        try simp only [Act.put, List.setIfInBounds_toArray, List.set_cons_zero, List.set_cons_succ]
        refine wpAnyH_ready (rs := [5]) (by kernel_rfl) (by simp) ?_
        refine AllReadyH.cons (o := ⟨some 82, _, _, _, _, _⟩) rfl (fun K9 hK9 => ?_) AllReadyH.nil
        go_simp
        go_at_call 14
        refine (HCT.out _ _ _ (hSR2.later (Below.refl _ _).drew)).mono ?_
        rintro e x1 ⟨g5, c5, rfl, hown5, hb5⟩
        have ht5 := own_SR hown5 hcl2
        have hs5 := (hSR4.later (Below.refl _ _).drew).later hb5
        have hS5 := bt (by assumption : Below w.heap.size w _) hb5
        clear hb5 hown5
        go_wp2_with fail
        refine hK9.out _ _ ?_ (fun hHeld => ?_)
        · assumption
        clear hK9 K9
        try simp only [Act.put, List.setIfInBounds_toArray, List.set_cons_zero, List.set_cons_succ]
        refine wpAnyH_ready (rs := [9]) (by kernel_rfl) (by simp) ?_
        refine AllReadyH.cons (o := ⟨some 86, _, _, _, _, _⟩) rfl (fun K9 hK9 => ?_) AllReadyH.nil
        go_simp
        go_at_call 13
        refine (rsame_any _ _ _ _ _ (C.drop k) _ ht5 hs5 hcl2 (by omega)).mono ?_
        rintro e x2 ⟨rfl, hb6⟩
        have hS6 := bt (by assumption : Below w.heap.size w _) hb6
        clear hb6
        go_wp2_with fail
        refine hK9.out _ _ ?_ (fun hHeld => ?_)
        · assumption
        clear hK9 K9
        try simp only [Act.put, List.setIfInBounds_toArray, List.set_cons_zero, List.set_cons_succ]
        refine wpAnyH_take (i := 10) (oi := ⟨some 8, _, _, _, _, _⟩) (v := ?_) rfl (by kernel_rfl) (by kernel_rfl) (by kernel_rfl) (fun _ _ _ h => h) (Or.inl ⟨by rfl, ?_⟩) (by assumption) ?_
        rotate_left
        · (intro w9 hSw; (try dsimp only at hSw); go_simp; try with_reducible rfl)
        try simp only [Act.put, List.setIfInBounds_toArray, List.set_cons_zero, List.set_cons_succ]
        refine wpAnyH_done (by kernel_rfl) ?_ _
        go_wp2_with fail
        go_ret
        exact ⟨rfl, by assumption⟩


set_option maxHeartbeats 1000000 in
set_option maxRecDepth 100000 in
theorem goes_lifted (os : Os) (started : os.Started) (H : Type) (enc : TypeId × Value → H) :
    ReturnsInHanded {} Try.checked os 6 .any (Rows.macGoesSpec.pre6 enc Try.prog Try.f6 Rows.macGoesRow.domain false) (Rows.macGoesSpec.post enc Try.prog Try.f6 false true false false) := by
  refine returnsInHanded_of_change (C := Try.checked) Try.own started (by kernel_rfl) Try.func6
    (ChangeSpec.witness6 (enc := enc) (C := Try.checked) false ⟨#[], #[.string ⟨#[]⟩, .string ⟨#[]⟩, .slice none 0 0, .int .i64 0], []⟩ 8 (by kernel_rfl) (by kernel_rfl) (by kernel_rfl) (by kernel_rfl)) ?_
  intro W base args ds gs before hval0 hW _ _
  have hval : ∀ (j : Nat) t v, Try.f6.params[j]? = some t → args[j]? = some v → Value.okWide Try.prog W .any base t v := hval0
  have hW' := hW
  obtain ⟨p, q, hA0, hV, rfl, _, _⟩ := hW
  have hA : DataW.TrodAll enc Try.prog W 0 (fun _ => true) true Try.f6.params.toList args.toList ds p := hA0
  rw [Try.params6] at hA hval
  obtain ⟨rfl, rfl⟩ := trodVars_none hV
  have hAk := hA
  obtain ⟨v0, v1, v2, v3, d0, d1, d2, d3, p0, p1, p2, p3, rfl, rfl, hp, h0, h1, h2, h3⟩ := trodAll_four hA
  have hlt : ∀ x ∈ p, x.block < W.heap.size := fun x hx => hW'.lt x (by simpa using hx)
  obtain ⟨s0, rfl, rfl, _, ws0⟩ := ChangeMaps.open_string Try.underlying9 (hval 0 9 v0 rfl rfl) h0
  unfold maxLen at ws0
  obtain ⟨l0, rfl, hz0⟩ := str_list s0
  have hl0 : (l0.length : Int) ≤ 9223372036854775807 := by omega
  obtain ⟨s1, rfl, rfl, _, ws1⟩ := ChangeMaps.open_string Try.underlying9 (hval 1 9 v1 rfl rfl) h1
  unfold maxLen at ws1
  obtain ⟨l1, rfl, hz1⟩ := str_list s1
  have hl1 : (l1.length : Int) ≤ 9223372036854775807 := by omega
  obtain ⟨A2, cap2, l2, rfl, hc2, hL2, hS2, hR2⟩ := open_texts (hval 2 26 v2 rfl rfl) h2
  obtain ⟨n3, rfl, rfl, _, wn3⟩ := open_int Try.underlying3 (hval 3 3 v3 rfl rfl) h3
  clear hA0 hval0
  refine (goes_any l0 l1 l2 A2 cap2 n3 W hl0 hl1 hc2 hL2 hS2 hR2).mono fun e W' ⟨he, hn⟩ => ?_
  subst he
  refine ⟨_, rfl, ?_⟩
  refine ⟨_, _, _, [], p, [], hW', ?_, trodAll_below_ Try.laidOut hn _ hAk (all_readable (by kernel_rfl)) hlt, rfl, hn.frame _, fun h => by cases h⟩
  exact trodAll_mk1 (shut_bool Try.underlying4 true)

/-- MacGoes, for every input. -/
theorem goes_holds : Rows.MacGoesSaid :=
  OpenClaim.holds_of_wide 6 Try.f6 rfl rfl rfl rfl rfl rfl rfl ⟨rfl, rfl, rfl, rfl, rfl⟩ rfl rfl rfl rfl rfl (by kernel_rfl) Try.func6 (by kernel_rfl)
    (of_decide_eq_true (by kernel_rfl)) (by unfold Func.isWrapper; rw [if_neg (of_decide_eq_false (by kernel_rfl))]; exact ⟨rfl, rfl⟩)
    (fun os started H enc _ => goes_lifted os started H enc)
#print axioms goes_holds
end Go.Proofs.Ytehdejpgpogklaa
