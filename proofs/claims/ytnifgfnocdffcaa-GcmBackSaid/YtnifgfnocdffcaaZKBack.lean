/- GcmBack is true of every key, nonce, head, text, what is sealed and number, and leaves them as they were. -/
import Derived.Test.YtnifgfnocdffcaaQ14
import Derived.Test.YtnifgfnocdffcaaQ17
namespace Go.Proofs.Ytnifgfnocdffcaa
open Go.ChangeShapes Go.WideShapes Go.ChangeAt Go.RowKit Go.Joins Go.Deep

theorem ART.turn {w : World} {g d : Nat} {S : List UInt8} {m : UInt8} (h : ART w g S) (hd : d < S.length) : ART (w.setCell ⟨g, d, none⟩ (uv (ub S d ^^^ m))) g (turnB S d m) := fun j hj => by
  rw [turnB_len] at hj
  have hA := h j hj
  refine ⟨?_, by rw [World.frozen?_setCell]; exact hA.2⟩
  rw [ub_turnB m hd]
  by_cases e : j = d
  · subst e
    rw [if_pos rfl]
    exact World.cell?_setCell_same _ _ _ hA.1
  · rw [if_neg e, ← hA.1]
    refine World.cell?_setCell_other _ _ _ _ ?_
    intro e9; cases e9; exact e rfl
theorem ART.kdr {w : World} {g : Nat} {L : List UInt8} (h : ART w g L) : ART w.drew g L := h
set_option maxRecDepth 100000 in
set_option maxHeartbeats 8000000 in
theorem kback_yes (k0 n0 h0 t0 s0 key nonce head text sealed : List UInt8) (kk : Int) (w : World) (hk0 : (k0.length : Int) ≤ 9223372036854775807) (hn0 : (n0.length : Int) ≤ 9223372036854775807) (hh0 : (h0.length : Int) ≤ 9223372036854775807) (ht0 : (t0.length : Int) ≤ 9223372036854775807) (hs0 : (s0.length : Int) ≤ 9223372036854775807)
    (ek : k0.take 70 = key) (en : n0.take 70 = nonce) (eh : h0.take 70 = head) (et : t0.take 70 = text) (es : s0.take 90 = sealed) (hf : kfit key nonce = true) :
    Calls Try.prog 6 #[.string ⟨k0.toArray⟩, .string ⟨n0.toArray⟩, .string ⟨h0.toArray⟩, .string ⟨t0.toArray⟩, .string ⟨s0.toArray⟩, .int .i64 kk] w fun e w' => e = .returned (.bool true) ∧ Below w.heap.size w w' := by
  have HC1 := Lib.hid (fun W => kcut_any k0 W hk0)
  have HC2 := Lib.hid (fun W => kcut_any n0 W hn0)
  have HC3 := Lib.hid (fun W => kcut_any h0 W hh0)
  have HC4 := Lib.hid (fun W => kcut_any t0 W ht0)
  rw [ek] at HC1
  rw [en] at HC2
  rw [eh] at HC3
  rw [et] at HC4
  have lh : head.length ≤ 70 := by rw [← eh, List.length_take]; omega
  have lt : text.length ≤ 70 := by rw [← et, List.length_take]; omega
  have ls : sealed.length ≤ 90 := by rw [← es, List.length_take]; omega
  have HL := Lib.hid kalive_any
  -- the text that is cut at 90
  obtain ⟨n, hn⟩ : ∃ n, s0.length = n := ⟨_, rfl⟩
  obtain ⟨r, hr⟩ : ∃ r, min n 90 = r := ⟨_, rfl⟩
  have hex := extract_take s0 r
  have he : s0.take r = sealed := by
    rw [← hr, ← es]
    by_cases h : n ≤ 90
    · rw [Nat.min_eq_left h, List.take_of_length_le (by omega), List.take_of_length_le (by omega)]
    · rw [Nat.min_eq_right (by omega)]
  rw [he] at hex
  have hst := size_of s0
  rw [hn] at hst hs0
  have g5 : min (n : Int) 90 = (r : Int) := by omega
  have g6 : (r : Int) ≤ (n : Int) := by omega
  have g7 : r ≤ n := by omega
  have HX := Lib.hid hex
  have HST := Lib.hid hst
  have HG := Lib.hid (show min (n : Int) 90 = (r : Int) ∧ (r : Int) ≤ (n : Int) ∧ r ≤ n from ⟨g5, g6, g7⟩)
  clear hr he hn ek en eh et es hk0 hn0 hh0 ht0
  obtain ⟨hk, hn12⟩ := kfit_yes hf
  -- what is sealed
  have HS := Lib.hid (fun W => seal_yes key nonce head text W hf (by omega) (by omega))
  have HSL := Lib.hid (sealL_len (E := encL key) (nonce := nonce) (head := head) text)
  have HO1 := Lib.hid (fun W => open_yes key nonce head (sealL (encL key) nonce head text) W hf (by omega) (by rw [sealL_len]; omega) (by rw [sealL_len]; omega))
  rw [open_seal] at HO1
  rw [show openR (some text) = .tuple #[.string ⟨text.toArray⟩, .int .i64 0] from rfl] at HO1
  obtain ⟨q, hq⟩ : ∃ q, text.length + 16 = q := ⟨_, rfl⟩
  rw [hq] at HSL
  -- what is turned
  have HT := Lib.hid (fun j m (hm : m ≠ 0) (hj : j < q) (h0 : encL key gzeros ≠ gzeros) => open_turned (E := encL key) (nonce := nonce) (head := head) (encL_len _ _ gzeros_blk) h0 text (j := j) (m := m) hm (by omega))
  have HO2 := Lib.hid (fun j m W => open_yes key nonce head (turnB (sealL (encL key) nonce head text) j m) W hf (by omega) (by rw [turnB_len, sealL_len]; omega) (by rw [turnB_len, sealL_len]; omega))
  have H0 := Lib.hid (fun W => rep_any 16 W (by omega))
  rw [show (List.replicate 16 (0 : UInt8)) = gzeros from rfl] at H0
  have HE0 := Lib.hid (fun W => enc_yes key gzeros W hk gzeros_blk)
  -- what is opened
  have HO3 := Lib.hid (fun (h16 : 16 ≤ sealed.length) W => open_yes key nonce head sealed W hf (by omega) h16 (by omega))
  have HO4 := Lib.hid (fun (h16 : ¬ 16 ≤ sealed.length) W => open_no key nonce head sealed W (by omega) (fun q => h16 q.2.2.1))
  have HSA := Lib.hid (fun u (h : openL (encL key) nonce head sealed = some u) W => seal_yes key nonce head u W hf (by omega) (by have := open_len h; omega))
  have HSB := Lib.hid (fun u (h : openL (encL key) nonce head sealed = some u) => seal_open h)
  have hss := size_of (sealL (encL key) nonce head text)
  rw [HSL.out] at hss
  have hsx := size_of text
  have q86 : q ≤ 86 := by omega
  have q16 : 16 ≤ q := by omega
  obtain ⟨S, hS⟩ : ∃ S, sealL (encL key) nonce head text = S := ⟨_, rfl⟩
  rw [hS] at HS HSL HO1 HT HO2 hss
  generalize encL key gzeros = Z at HT HE0
  generalize gzeros = G at HT HE0 H0
  clear hf hk hn12 hS lh lt ls
  go_enter Try.func6, Try.ntmps6
  go_wp2_with fail
  clear hst g5 g6 g7 hex hs0
  refine wp_region_held_drew (S := fun _ => True) (by kernel_rfl) trivial (fun hHeld => ?_)
  refine wpAnyH_take (i := 0) (oi := ⟨some 27, _, _, _, _, _⟩) (v := ?_) rfl (by kernel_rfl) (by kernel_rfl) (by kernel_rfl) (fun _ _ _ h => h) (Or.inl ⟨by rfl, ?_⟩) (by assumption) ?_
  rotate_left
  · (intro w9 hSw; (try dsimp only at hSw); go_simp; try with_reducible rfl)
  try simp only [Act.put, List.setIfInBounds_toArray, List.set_cons_zero, List.set_cons_succ]
  refine wpAnyH_take (i := 2) (oi := ⟨some 29, _, _, _, _, _⟩) (v := ?_) rfl (by kernel_rfl) (by kernel_rfl) (by kernel_rfl) (fun _ _ _ h => h) (Or.inl ⟨by rfl, ?_⟩) (by assumption) ?_
  rotate_left
  · (intro w9 hSw; (try dsimp only at hSw); go_simp; try with_reducible rfl)
  try simp only [Act.put, List.setIfInBounds_toArray, List.set_cons_zero, List.set_cons_succ]
  refine wpAnyH_take (i := 4) (oi := ⟨some 31, _, _, _, _, _⟩) (v := ?_) rfl (by kernel_rfl) (by kernel_rfl) (by kernel_rfl) (fun _ _ _ h => h) (Or.inl ⟨by rfl, ?_⟩) (by assumption) ?_
  rotate_left
  · (intro w9 hSw; (try dsimp only at hSw); go_simp; try with_reducible rfl)
  try simp only [Act.put, List.setIfInBounds_toArray, List.set_cons_zero, List.set_cons_succ]
  refine wpAnyH_take (i := 6) (oi := ⟨some 33, _, _, _, _, _⟩) (v := ?_) rfl (by kernel_rfl) (by kernel_rfl) (by kernel_rfl) (fun _ _ _ h => h) (Or.inl ⟨by rfl, ?_⟩) (by assumption) ?_
  rotate_left
  · (intro w9 hSw; (try dsimp only at hSw); go_simp; try with_reducible rfl)
  try simp only [Act.put, List.setIfInBounds_toArray, List.set_cons_zero, List.set_cons_succ]
  refine wpAnyH_take (i := 8) (oi := ⟨some 35, _, _, _, _, _⟩) (v := ?_) rfl (by kernel_rfl) (by kernel_rfl) (by kernel_rfl) (fun _ _ _ h => h) (Or.inl ⟨by rfl, ?_⟩) (by assumption) ?_
  rotate_left
  · (intro w9 hSw; (try dsimp only at hSw); go_simp; try with_reducible rfl)
  try simp only [Act.put, List.setIfInBounds_toArray, List.set_cons_zero, List.set_cons_succ]
  refine wpAnyH_take (i := 9) (oi := ⟨some 36, _, _, _, _, _⟩) (v := ?_) rfl (by kernel_rfl) (by kernel_rfl) (by kernel_rfl) (fun _ _ _ h => h) (Or.inl ⟨by rfl, ?_⟩) (by assumption) ?_
  rotate_left
  · (intro w9 hSw; (try dsimp only at hSw); go_simp; try with_reducible rfl)
  try simp only [Act.put, List.setIfInBounds_toArray, List.set_cons_zero, List.set_cons_succ]
  refine wpAnyH_take (i := 10) (oi := ⟨some 37, _, _, _, _, _⟩) (v := .int .i64 (n : Int)) rfl (by kernel_rfl) (by kernel_rfl) (by kernel_rfl) (fun _ _ _ h => h) (Or.inl ⟨by rfl, ?_⟩) (by assumption) ?_
  · (intro w9 hSw; have f1 := HST.out; (try dsimp only at hSw); go_simp)
  try simp only [Act.put, List.setIfInBounds_toArray, List.set_cons_zero, List.set_cons_succ]
  refine wpAnyH_take (i := 11) (oi := ⟨some 38, _, _, _, _, _⟩) (v := .int .i64 (r : Int)) rfl (by kernel_rfl) (by kernel_rfl) (by kernel_rfl) (fun _ _ _ h => h) (Or.inl ⟨by rfl, ?_⟩) (by assumption) ?_
  · (intro w9 hSw; have f1 := HG.out.1; (try dsimp only at hSw); go_simp)
  try simp only [Act.put, List.setIfInBounds_toArray, List.set_cons_zero, List.set_cons_succ]
  refine wpAnyH_take (i := 12) (oi := ⟨some 39, _, _, _, _, _⟩) (v := .string ⟨sealed.toArray⟩) rfl (by kernel_rfl) (by kernel_rfl) (by kernel_rfl) (fun _ _ _ h => h) (Or.inl ⟨by rfl, ?_⟩) (by assumption) ?_
  · (intro w9 hSw; have f1 := HX.out; have f2 := HG.out.2.1; have f3 := HG.out.2.2; have f4 := HST.out; (try dsimp only at hSw); go_simp)
  try simp only [Act.put, List.setIfInBounds_toArray, List.set_cons_zero, List.set_cons_succ]
  refine wpAnyH_ready (rs := [1]) (by kernel_rfl) (by simp) ?_
  refine AllReadyH.cons (o := ⟨some 28, _, _, _, _, _⟩) rfl (fun K9 hK9 => ?_) AllReadyH.nil
  go_simp; go_at_call 7
  refine (HC1.out _).mono ?_
  rintro e w9 ⟨rfl, rfl⟩
  refine hK9.out _ _ ?_ (fun hHeld => ?_)
  · trivial
  clear hK9 K9
  try simp only [Act.put, List.setIfInBounds_toArray, List.set_cons_zero, List.set_cons_succ]
  refine wpAnyH_ready (rs := [3]) (by kernel_rfl) (by simp) ?_
  refine AllReadyH.cons (o := ⟨some 30, _, _, _, _, _⟩) rfl (fun K9 hK9 => ?_) AllReadyH.nil
  go_simp; go_at_call 7
  refine (HC2.out _).mono ?_
  rintro e w9 ⟨rfl, rfl⟩
  refine hK9.out _ _ ?_ (fun hHeld => ?_)
  · trivial
  clear hK9 K9
  try simp only [Act.put, List.setIfInBounds_toArray, List.set_cons_zero, List.set_cons_succ]
  refine wpAnyH_ready (rs := [5]) (by kernel_rfl) (by simp) ?_
  refine AllReadyH.cons (o := ⟨some 32, _, _, _, _, _⟩) rfl (fun K9 hK9 => ?_) AllReadyH.nil
  go_simp; go_at_call 7
  refine (HC3.out _).mono ?_
  rintro e w9 ⟨rfl, rfl⟩
  refine hK9.out _ _ ?_ (fun hHeld => ?_)
  · trivial
  clear hK9 K9
  try simp only [Act.put, List.setIfInBounds_toArray, List.set_cons_zero, List.set_cons_succ]
  refine wpAnyH_ready (rs := [7]) (by kernel_rfl) (by simp) ?_
  refine AllReadyH.cons (o := ⟨some 34, _, _, _, _, _⟩) rfl (fun K9 hK9 => ?_) AllReadyH.nil
  go_simp; go_at_call 7
  refine (HC4.out _).mono ?_
  rintro e w9 ⟨rfl, rfl⟩
  refine hK9.out _ _ ?_ (fun hHeld => ?_)
  · trivial
  clear hK9 K9
  try simp only [Act.put, List.setIfInBounds_toArray, List.set_cons_zero, List.set_cons_succ]
  refine wpAnyH_take (i := 13) (oi := ⟨some 0, _, _, _, _, _⟩) (v := ?_) rfl (by kernel_rfl) (by kernel_rfl) (by kernel_rfl) (fun _ _ _ h => h) (Or.inl ⟨by rfl, ?_⟩) (by assumption) ?_
  rotate_left
  · (intro w9 hSw; (try dsimp only at hSw); go_simp; try with_reducible rfl)
  try simp only [Act.put, List.setIfInBounds_toArray, List.set_cons_zero]
  refine wpAnyH_take (i := 14) (oi := ⟨some 1, _, _, _, _, _⟩) (v := ?_) rfl (by kernel_rfl) (by kernel_rfl) (by kernel_rfl) (fun _ _ _ h => h) (Or.inl ⟨by rfl, ?_⟩) (by assumption) ?_
  rotate_left
  · (intro w9 hSw; (try dsimp only at hSw); go_simp; try with_reducible rfl)
  try simp only [Act.put, List.setIfInBounds_toArray, List.set_cons_zero, List.set_cons_succ]
  refine wpAnyH_take (i := 15) (oi := ⟨some 2, _, _, _, _, _⟩) (v := ?_) rfl (by kernel_rfl) (by kernel_rfl) (by kernel_rfl) (fun _ _ _ h => h) (Or.inl ⟨by rfl, ?_⟩) (by assumption) ?_
  rotate_left
  · (intro w9 hSw; (try dsimp only at hSw); go_simp; try with_reducible rfl)
  try simp only [Act.put, List.setIfInBounds_toArray, List.set_cons_zero, List.set_cons_succ]
  refine wpAnyH_take (i := 16) (oi := ⟨some 3, _, _, _, _, _⟩) (v := ?_) rfl (by kernel_rfl) (by kernel_rfl) (by kernel_rfl) (fun _ _ _ h => h) (Or.inl ⟨by rfl, ?_⟩) (by assumption) ?_
  rotate_left
  · (intro w9 hSw; (try dsimp only at hSw); go_simp; try with_reducible rfl)
  try simp only [Act.put, List.setIfInBounds_toArray, List.set_cons_zero, List.set_cons_succ]
  refine wpAnyH_take (i := 17) (oi := ⟨some 4, _, _, _, _, _⟩) (v := ?_) rfl (by kernel_rfl) (by kernel_rfl) (by kernel_rfl) (fun _ _ _ h => h) (Or.inl ⟨by rfl, ?_⟩) (by assumption) ?_
  rotate_left
  · (intro w9 hSw; (try dsimp only at hSw); go_simp; try with_reducible rfl)
  try simp only [Act.put, List.setIfInBounds_toArray, List.set_cons_zero, List.set_cons_succ]
  refine wpAnyH_done (by kernel_rfl) ?_ _
  clear HC1 HC2 HC3 HC4 HX HST HG
  go_wp2_with fail
  refine (HS.out _).mono ?_
  rintro e w1 ⟨rfl, hb1⟩
  have hb1 := kdrew hb1
  go_wp2_with fail
  refine (HO1.out _).mono ?_
  rintro e w2 ⟨rfl, hb2⟩
  have hb2 := bt hb1 hb2
  clear hb1
  have hq2 : (text.length : Int) + 16 = (q : Int) := by omega
  go_wp2_with fail
  refine (HL.out _).mono ?_
  rintro e w3 ⟨rfl, hb3⟩
  have hb3 := bt hb2 hb3
  clear hb2
  obtain ⟨Q, hQ⟩ : ∃ Q : Nat, 8 * q = Q := ⟨_, rfl⟩
  have h8 : (8 : Int) * (q : Int) = (Q : Int) := by omega
  have hQ0 : ¬ Q = 0 := by omega
  have hQ1 : ¬ (Q : Int) = 0 := by omega
  have hQ2 : (Q : Int) ≤ 688 := by omega
  obtain ⟨r1, hr1⟩ : ∃ r1 : Int, kk.tmod (Q : Int) = r1 := ⟨_, rfl⟩
  have hr2 : -(Q : Int) < r1 ∧ r1 < (Q : Int) := by
    rw [← hr1]
    refine ⟨?_, Int.tmod_lt_of_pos _ (by omega)⟩
    have := Int.lt_tmod_of_pos kk (show (0 : Int) < (Q : Int) by omega)
    exact this
  obtain ⟨p, hp⟩ : ∃ p : Nat, r1 + (Q : Int) = (p : Int) := ⟨(r1 + (Q : Int)).toNat, by omega⟩
  have hw : wrap64 (r1 + (Q : Int)) = (p : Int) := by rw [hp]; unfold wrap64; omega
  obtain ⟨j, hj⟩ : ∃ j : Nat, p % Q = j := ⟨_, rfl⟩
  have hj1 : (p : Int) % (Q : Int) = (j : Int) := by omega
  have hj2 : (p : Int).tmod (Q : Int) = (j : Int) := by rw [Int.tmod_eq_emod_of_nonneg (by omega)]; exact hj1
  have hjQ : j < Q := by rw [← hj]; exact Nat.mod_lt _ (by omega)
  obtain ⟨cap, wa, hcv, hart, hb4⟩ := bytes_conv S w3
  rw [HSL.out] at hcv
  have hb4 := bt hb3 hb4
  go_wp2_with fail
  clear hr1 hr2 hw hp hj1 hj2 hcv
  obtain ⟨d, hd⟩ : ∃ d : Nat, j / 8 = d := ⟨_, rfl⟩
  obtain ⟨f, hff⟩ : ∃ f : Nat, j % 8 = f := ⟨_, rfl⟩
  have hdq : d < q := by omega
  have hf8 : f < 8 := by omega
  have hd1 : (j : Int) / 8 = (d : Int) := by omega
  have hd2 : (j : Int).tdiv 8 = (d : Int) := by rw [Int.tdiv_eq_ediv_of_nonneg (by omega)]; exact hd1
  have hf1 : (j : Int) % 8 = (f : Int) := by omega
  have hf2 : (j : Int).tmod 8 = (f : Int) := by rw [Int.tmod_eq_emod_of_nonneg (by omega)]; exact hf1
  have hdq1 : (d : Int) < (q : Int) := by omega
  have hd0 : (0 : Int) ≤ (d : Int) := by omega
  have hf0 : (0 : Int) ≤ (f : Int) := by omega
  have hf7 : (f : Int) < 8 := by omega
  have hat := hart d (by rw [HSL.out]; exact hdq)
  obtain ⟨m, hm⟩ : ∃ m : UInt8, UInt8.ofNat (2 ^ f) = m := ⟨_, rfl⟩
  obtain ⟨x, hx⟩ : ∃ x, ub S d = x := ⟨_, rfl⟩
  have hwd : IntKind.i64.wrap (d : Int) = (d : Int) := IntWalk.i64_in _ (by omega)
  have hwm : IntKind.u8.wrap (2 ^ f) = (m.toNat : Int) ∧ m ≠ 0 := by
    rw [← hm]
    obtain rfl | rfl | rfl | rfl | rfl | rfl | rfl | rfl : f = 0 ∨ f = 1 ∨ f = 2 ∨ f = 3 ∨ f = 4 ∨ f = 5 ∨ f = 6 ∨ f = 7 := by omega
    all_goals exact ⟨by decide, by decide⟩
  obtain ⟨hwm, hm0⟩ := hwm
  have hxy := xor_byte x m
  obtain ⟨y, hy⟩ : ∃ y, x ^^^ m = y := ⟨_, rfl⟩
  rw [hy] at hxy
  have HAT : Hid (At wa w3.heap.size d (uv x)) := Lib.hid (by rw [← hx]; exact hat)
  have HB4 := Lib.hid hb4
  have HP5 := Lib.hid (hart.turn (m := m) (by rw [HSL.out]; exact hdq))
  rw [hx, hy] at HP5
  have HT2 := Lib.hid (HT.out d m hm0 hdq)
  have HO5 := Lib.hid (HO2.out d m)
  have HTL : Hid ((turnB S d m).length = q) := Lib.hid (by rw [turnB_len, HSL.out])
  generalize turnB S d m = U at HP5 HT2 HO5 HTL
  clear hat hb4 hart HT HO2 hm hx hy hd hff hf8 hdq hj hm0
  refine wp_region_held_drew (S := fun _ => True) (by kernel_rfl) trivial (fun hHeld => ?_)
  refine wpAnyH_take (i := 0) (oi := ⟨some 97, _, _, _, _, _⟩) (v := ?_) rfl (by kernel_rfl) (by kernel_rfl) (by kernel_rfl) (fun _ _ _ h => h) (Or.inl ⟨by rfl, ?_⟩) (by assumption) ?_
  rotate_left
  · (intro w9 hSw; (try dsimp only at hSw); go_simp; try with_reducible rfl)
  try simp only [Act.put, List.setIfInBounds_toArray, List.set_cons_zero, List.set_cons_succ]
  refine wpAnyH_take (i := 1) (oi := ⟨some 98, _, _, _, _, _⟩) (v := ?_) rfl (by kernel_rfl) (by kernel_rfl) (by kernel_rfl) (fun _ _ _ h => h) (Or.inl ⟨by rfl, ?_⟩) (by assumption) ?_
  rotate_left
  · (intro w9 hSw; (try dsimp only at hSw); go_simp; try with_reducible rfl)
  try simp only [Act.put, List.setIfInBounds_toArray, List.set_cons_zero, List.set_cons_succ]
  refine wpAnyH_take (i := 2) (oi := ⟨some 99, _, _, _, _, _⟩) (v := .int .i64 (d : Int)) rfl (by kernel_rfl) (by kernel_rfl) (by kernel_rfl) (fun _ _ _ h => h) (Or.inl ⟨by rfl, ?_⟩) (by assumption) ?_
  · (intro w9 hSw; (try dsimp only at hSw); go_simp)
  try simp only [Act.put, List.setIfInBounds_toArray, List.set_cons_zero, List.set_cons_succ]
  refine wpAnyH_take (i := 3) (oi := ⟨some 100, _, _, _, _, _⟩) (v := .pointer (some ⟨w3.heap.size, d, none⟩)) rfl (by kernel_rfl) (by kernel_rfl) (by kernel_rfl) (fun _ _ _ h => h) (Or.inl ⟨by rfl, ?_⟩) (by assumption) ?_
  · (intro w9 hSw; (try dsimp only at hSw); go_simp)
  try simp only [Act.put, List.setIfInBounds_toArray, List.set_cons_zero, List.set_cons_succ]
  refine wpAnyH_take (i := 5) (oi := ⟨some 102, _, _, _, _, _⟩) (v := ?_) rfl (by kernel_rfl) (by kernel_rfl) (by kernel_rfl) (fun _ _ _ h => h) (Or.inl ⟨by rfl, ?_⟩) (by assumption) ?_
  rotate_left
  · (intro w9 hSw; (try dsimp only at hSw); go_simp; try with_reducible rfl)
  try simp only [Act.put, List.setIfInBounds_toArray, List.set_cons_zero, List.set_cons_succ]
  refine wpAnyH_take (i := 6) (oi := ⟨some 103, _, _, _, _, _⟩) (v := .int .i64 (f : Int)) rfl (by kernel_rfl) (by kernel_rfl) (by kernel_rfl) (fun _ _ _ h => h) (Or.inl ⟨by rfl, ?_⟩) (by assumption) ?_
  · (intro w9 hSw; (try dsimp only at hSw); go_simp)
  try simp only [Act.put, List.setIfInBounds_toArray, List.set_cons_zero, List.set_cons_succ]
  refine wpAnyH_take (i := 7) (oi := ⟨some 104, _, _, _, _, _⟩) (v := .int .u8 (m.toNat : Int)) rfl (by kernel_rfl) (by kernel_rfl) (by kernel_rfl) (fun _ _ _ h => h) (Or.inl ⟨by rfl, ?_⟩) (by assumption) ?_
  · (intro w9 hSw; (try dsimp only at hSw); go_simp)
  try simp only [Act.put, List.setIfInBounds_toArray, List.set_cons_zero, List.set_cons_succ]
  refine wpAnyH_ready (rs := [4]) (by kernel_rfl) (by simp) ?_
  refine AllReadyH.cons (o := ⟨some 101, _, _, _, _, _⟩) rfl (fun K9 hK9 => ?_) AllReadyH.nil
  have c0 := HAT.out.1; have f0 := HAT.out.2
  go_simp
  clear c0 f0
  refine hK9.out _ _ ?_ (fun hHeld => ?_)
  · trivial
  clear hK9 K9
  try simp only [Act.put, List.setIfInBounds_toArray, List.set_cons_zero, List.set_cons_succ]
  refine wpAnyH_take (i := 8) (oi := ⟨some 105, _, _, _, _, _⟩) (v := .int .u8 (y.toNat : Int)) rfl (by kernel_rfl) (by kernel_rfl) (by kernel_rfl) (fun _ _ _ h => h) (Or.inl ⟨by rfl, ?_⟩) (by assumption) ?_
  · (intro w9 hSw; (try dsimp only at hSw); go_simp)
  try simp only [Act.put, List.setIfInBounds_toArray, List.set_cons_zero, List.set_cons_succ]
  refine wpAnyH_take (i := 9) (oi := ⟨some 106, _, _, _, _, _⟩) (v := .pointer (some ⟨w3.heap.size, d, none⟩)) rfl (by kernel_rfl) (by kernel_rfl) (by kernel_rfl) (fun _ _ _ h => h) (Or.inl ⟨by rfl, ?_⟩) (by assumption) ?_
  · (intro w9 hSw; (try dsimp only at hSw); go_simp)
  try simp only [Act.put, List.setIfInBounds_toArray, List.set_cons_zero, List.set_cons_succ]
  refine wpAnyH_ready (rs := [10]) (by kernel_rfl) (by simp) ?_
  refine AllReadyH.cons (o := ⟨none, _, _, _, _, _⟩) rfl (fun K9 hK9 => ?_) AllReadyH.nil
  have c0 := HAT.out.1; have f0 := HAT.out.2
  go_simp
  clear c0 f0
  refine hK9.out _ _ ?_ (fun hHeld => ?_)
  · trivial
  clear hK9 K9
  try simp only [Act.put]
  refine wpAnyH_done (by kernel_rfl) ?_ _
  have P5 := Lib.hid HP5.out.kdr
  have hb5 := (bs HB4.out (b := w3.heap.size) (o := d) (by have := hb3.size; omega) (uv y)).drew
  generalize (wa.setCell ⟨w3.heap.size, d, none⟩ (.int .u8 (y.toNat : Int))).drew = w5 at P5 hb5 ⊢
  clear HP5 HAT HB4 hd1 hd2 hf1 hf2 hdq1 hd0 hf0 hf7 hwd hwm hxy hb3 h8 hQ0 hQ1 hQ2 hQ hjQ
  generalize w3.heap.size = g at P5 ⊢
  go_wp2_with fail
  refine (H0.out _).mono ?_
  rintro e w6 ⟨rfl, hb6⟩
  have P6 := Lib.hid (P5.out.later hb6)
  have hb6 := bt hb5 hb6
  clear P5 hb5
  go_wp2_with fail
  refine (HE0.out _).mono ?_
  rintro e w7 ⟨rfl, hb7⟩
  have P7 := Lib.hid (P6.out.later hb7)
  have hb7 := bt hb6 hb7
  clear P6 hb6
  have hcv := P7.out.text (c := cap) HTL.out
  clear P7
  by_cases hZG : Z = G
  · subst hZG
    obtain ⟨u1, e1, he1⟩ : ∃ (u1 : List UInt8) (e1 : Int), openR (openL (encL key) nonce head U) = .tuple #[.string ⟨u1.toArray⟩, .int .i64 e1] := ⟨_, _, rfl⟩
    rw [he1] at HO5
    clear he1 HT2
    go_wp2_with fail
    refine (HO5.out _).mono ?_
    rintro e w8 ⟨rfl, hb8⟩
    have hb8 := bt hb7 hb8
    clear hb7 hcv
    by_cases h16 : 16 ≤ sealed.length
    · have HO6 := Lib.hid (HO3.out h16)
      cases ho : openL (encL key) nonce head sealed with
      | some u =>
        rw [ho, show openR (some u) = .tuple #[.string ⟨u.toArray⟩, .int .i64 0] from rfl] at HO6
        have HS6 := Lib.hid (HSA.out u ho)
        rw [HSB.out u ho] at HS6
        clear HO3 HO4 HSA HSB h16 ho
        go_wp2_with fail
        refine (HO6.out _).mono ?_
        rintro e w9 ⟨rfl, hb9⟩
        go_wp2_with fail
        refine (HS6.out _).mono ?_
        rintro e wb ⟨rfl, hbb⟩
        go_wp2_with fail
        go_ret
        exact ⟨rfl, bt (bt hb8 hb9) hbb⟩
      | none =>
        rw [ho, show openR none = .tuple #[.string ⟨#[]⟩, .int .i64 5] from rfl] at HO6
        clear HO3 HO4 HSA HSB h16 ho
        go_wp2_with fail
        refine (HO6.out _).mono ?_
        rintro e w9 ⟨rfl, hb9⟩
        go_wp2_with fail
        go_ret
        exact ⟨rfl, bt hb8 hb9⟩
    · have HO6 := Lib.hid (HO4.out h16)
      clear HO3 HO4 HSA HSB h16
      go_wp2_with fail
      refine (HO6.out _).mono ?_
      rintro e w9 ⟨rfl, hb9⟩
      go_wp2_with fail
      go_ret
      exact ⟨rfl, bt hb8 hb9⟩
  · have hne : (Z == G) = false := beq_eq_false_iff_ne.2 hZG
    rw [HT2.out hZG, show openR none = .tuple #[.string ⟨#[]⟩, .int .i64 5] from rfl] at HO5
    clear HT2
    go_wp2_with fail
    refine (HO5.out _).mono ?_
    rintro e w8 ⟨rfl, hb8⟩
    have hb8 := bt hb7 hb8
    clear hb7 hcv
    by_cases h16 : 16 ≤ sealed.length
    · have HO6 := Lib.hid (HO3.out h16)
      cases ho : openL (encL key) nonce head sealed with
      | some u =>
        rw [ho, show openR (some u) = .tuple #[.string ⟨u.toArray⟩, .int .i64 0] from rfl] at HO6
        have HS6 := Lib.hid (HSA.out u ho)
        rw [HSB.out u ho] at HS6
        clear HO3 HO4 HSA HSB h16 ho
        go_wp2_with fail
        refine (HO6.out _).mono ?_
        rintro e w9 ⟨rfl, hb9⟩
        go_wp2_with fail
        refine (HS6.out _).mono ?_
        rintro e wb ⟨rfl, hbb⟩
        go_wp2_with fail
        go_ret
        exact ⟨rfl, bt (bt hb8 hb9) hbb⟩
      | none =>
        rw [ho, show openR none = .tuple #[.string ⟨#[]⟩, .int .i64 5] from rfl] at HO6
        clear HO3 HO4 HSA HSB h16 ho
        go_wp2_with fail
        refine (HO6.out _).mono ?_
        rintro e w9 ⟨rfl, hb9⟩
        go_wp2_with fail
        go_ret
        exact ⟨rfl, bt hb8 hb9⟩
    · have HO6 := Lib.hid (HO4.out h16)
      clear HO3 HO4 HSA HSB h16
      go_wp2_with fail
      refine (HO6.out _).mono ?_
      rintro e w9 ⟨rfl, hb9⟩
      go_wp2_with fail
      go_ret
      exact ⟨rfl, bt hb8 hb9⟩

set_option maxRecDepth 100000 in
set_option maxHeartbeats 4000000 in
theorem kback_no (k0 n0 h0 t0 s0 key nonce head text sealed : List UInt8) (kk : Int) (w : World) (hk0 : (k0.length : Int) ≤ 9223372036854775807) (hn0 : (n0.length : Int) ≤ 9223372036854775807) (hh0 : (h0.length : Int) ≤ 9223372036854775807) (ht0 : (t0.length : Int) ≤ 9223372036854775807) (hs0 : (s0.length : Int) ≤ 9223372036854775807)
    (ek : k0.take 70 = key) (en : n0.take 70 = nonce) (eh : h0.take 70 = head) (et : t0.take 70 = text) (es : s0.take 90 = sealed) (hf : ¬ kfit key nonce = true) :
    Calls Try.prog 6 #[.string ⟨k0.toArray⟩, .string ⟨n0.toArray⟩, .string ⟨h0.toArray⟩, .string ⟨t0.toArray⟩, .string ⟨s0.toArray⟩, .int .i64 kk] w fun e w' => e = .returned (.bool true) ∧ Below w.heap.size w w' := by
  have HC1 := Lib.hid (fun W => kcut_any k0 W hk0)
  have HC2 := Lib.hid (fun W => kcut_any n0 W hn0)
  have HC3 := Lib.hid (fun W => kcut_any h0 W hh0)
  have HC4 := Lib.hid (fun W => kcut_any t0 W ht0)
  rw [ek] at HC1
  rw [en] at HC2
  rw [eh] at HC3
  rw [et] at HC4
  have lh : head.length ≤ 70 := by rw [← eh, List.length_take]; omega
  have lt : text.length ≤ 70 := by rw [← et, List.length_take]; omega
  have ls : sealed.length ≤ 90 := by rw [← es, List.length_take]; omega
  have HL := Lib.hid kalive_any
  -- the text that is cut at 90
  obtain ⟨n, hn⟩ : ∃ n, s0.length = n := ⟨_, rfl⟩
  obtain ⟨r, hr⟩ : ∃ r, min n 90 = r := ⟨_, rfl⟩
  have hex := extract_take s0 r
  have he : s0.take r = sealed := by
    rw [← hr, ← es]
    by_cases h : n ≤ 90
    · rw [Nat.min_eq_left h, List.take_of_length_le (by omega), List.take_of_length_le (by omega)]
    · rw [Nat.min_eq_right (by omega)]
  rw [he] at hex
  have hst := size_of s0
  rw [hn] at hst hs0
  have g5 : min (n : Int) 90 = (r : Int) := by omega
  have g6 : (r : Int) ≤ (n : Int) := by omega
  have g7 : r ≤ n := by omega
  have HX := Lib.hid hex
  have HST := Lib.hid hst
  have HG := Lib.hid (show min (n : Int) 90 = (r : Int) ∧ (r : Int) ≤ (n : Int) ∧ r ≤ n from ⟨g5, g6, g7⟩)
  clear hr he hn ek en eh et es hk0 hn0 hh0 ht0
  have HS := Lib.hid (fun W => seal_no key nonce head text W (fun q => hf q.1))
  clear hf lh lt ls
  go_enter Try.func6, Try.ntmps6
  go_wp2_with fail
  clear hst g5 g6 g7 hex hs0
  refine wp_region_held_drew (S := fun _ => True) (by kernel_rfl) trivial (fun hHeld => ?_)
  refine wpAnyH_take (i := 0) (oi := ⟨some 27, _, _, _, _, _⟩) (v := ?_) rfl (by kernel_rfl) (by kernel_rfl) (by kernel_rfl) (fun _ _ _ h => h) (Or.inl ⟨by rfl, ?_⟩) (by assumption) ?_
  rotate_left
  · (intro w9 hSw; (try dsimp only at hSw); go_simp; try with_reducible rfl)
  try simp only [Act.put, List.setIfInBounds_toArray, List.set_cons_zero, List.set_cons_succ]
  refine wpAnyH_take (i := 2) (oi := ⟨some 29, _, _, _, _, _⟩) (v := ?_) rfl (by kernel_rfl) (by kernel_rfl) (by kernel_rfl) (fun _ _ _ h => h) (Or.inl ⟨by rfl, ?_⟩) (by assumption) ?_
  rotate_left
  · (intro w9 hSw; (try dsimp only at hSw); go_simp; try with_reducible rfl)
  try simp only [Act.put, List.setIfInBounds_toArray, List.set_cons_zero, List.set_cons_succ]
  refine wpAnyH_take (i := 4) (oi := ⟨some 31, _, _, _, _, _⟩) (v := ?_) rfl (by kernel_rfl) (by kernel_rfl) (by kernel_rfl) (fun _ _ _ h => h) (Or.inl ⟨by rfl, ?_⟩) (by assumption) ?_
  rotate_left
  · (intro w9 hSw; (try dsimp only at hSw); go_simp; try with_reducible rfl)
  try simp only [Act.put, List.setIfInBounds_toArray, List.set_cons_zero, List.set_cons_succ]
  refine wpAnyH_take (i := 6) (oi := ⟨some 33, _, _, _, _, _⟩) (v := ?_) rfl (by kernel_rfl) (by kernel_rfl) (by kernel_rfl) (fun _ _ _ h => h) (Or.inl ⟨by rfl, ?_⟩) (by assumption) ?_
  rotate_left
  · (intro w9 hSw; (try dsimp only at hSw); go_simp; try with_reducible rfl)
  try simp only [Act.put, List.setIfInBounds_toArray, List.set_cons_zero, List.set_cons_succ]
  refine wpAnyH_take (i := 8) (oi := ⟨some 35, _, _, _, _, _⟩) (v := ?_) rfl (by kernel_rfl) (by kernel_rfl) (by kernel_rfl) (fun _ _ _ h => h) (Or.inl ⟨by rfl, ?_⟩) (by assumption) ?_
  rotate_left
  · (intro w9 hSw; (try dsimp only at hSw); go_simp; try with_reducible rfl)
  try simp only [Act.put, List.setIfInBounds_toArray, List.set_cons_zero, List.set_cons_succ]
  refine wpAnyH_take (i := 9) (oi := ⟨some 36, _, _, _, _, _⟩) (v := ?_) rfl (by kernel_rfl) (by kernel_rfl) (by kernel_rfl) (fun _ _ _ h => h) (Or.inl ⟨by rfl, ?_⟩) (by assumption) ?_
  rotate_left
  · (intro w9 hSw; (try dsimp only at hSw); go_simp; try with_reducible rfl)
  try simp only [Act.put, List.setIfInBounds_toArray, List.set_cons_zero, List.set_cons_succ]
  refine wpAnyH_take (i := 10) (oi := ⟨some 37, _, _, _, _, _⟩) (v := .int .i64 (n : Int)) rfl (by kernel_rfl) (by kernel_rfl) (by kernel_rfl) (fun _ _ _ h => h) (Or.inl ⟨by rfl, ?_⟩) (by assumption) ?_
  · (intro w9 hSw; have f1 := HST.out; (try dsimp only at hSw); go_simp)
  try simp only [Act.put, List.setIfInBounds_toArray, List.set_cons_zero, List.set_cons_succ]
  refine wpAnyH_take (i := 11) (oi := ⟨some 38, _, _, _, _, _⟩) (v := .int .i64 (r : Int)) rfl (by kernel_rfl) (by kernel_rfl) (by kernel_rfl) (fun _ _ _ h => h) (Or.inl ⟨by rfl, ?_⟩) (by assumption) ?_
  · (intro w9 hSw; have f1 := HG.out.1; (try dsimp only at hSw); go_simp)
  try simp only [Act.put, List.setIfInBounds_toArray, List.set_cons_zero, List.set_cons_succ]
  refine wpAnyH_take (i := 12) (oi := ⟨some 39, _, _, _, _, _⟩) (v := .string ⟨sealed.toArray⟩) rfl (by kernel_rfl) (by kernel_rfl) (by kernel_rfl) (fun _ _ _ h => h) (Or.inl ⟨by rfl, ?_⟩) (by assumption) ?_
  · (intro w9 hSw; have f1 := HX.out; have f2 := HG.out.2.1; have f3 := HG.out.2.2; have f4 := HST.out; (try dsimp only at hSw); go_simp)
  try simp only [Act.put, List.setIfInBounds_toArray, List.set_cons_zero, List.set_cons_succ]
  refine wpAnyH_ready (rs := [1]) (by kernel_rfl) (by simp) ?_
  refine AllReadyH.cons (o := ⟨some 28, _, _, _, _, _⟩) rfl (fun K9 hK9 => ?_) AllReadyH.nil
  go_simp; go_at_call 7
  refine (HC1.out _).mono ?_
  rintro e w9 ⟨rfl, rfl⟩
  refine hK9.out _ _ ?_ (fun hHeld => ?_)
  · trivial
  clear hK9 K9
  try simp only [Act.put, List.setIfInBounds_toArray, List.set_cons_zero, List.set_cons_succ]
  refine wpAnyH_ready (rs := [3]) (by kernel_rfl) (by simp) ?_
  refine AllReadyH.cons (o := ⟨some 30, _, _, _, _, _⟩) rfl (fun K9 hK9 => ?_) AllReadyH.nil
  go_simp; go_at_call 7
  refine (HC2.out _).mono ?_
  rintro e w9 ⟨rfl, rfl⟩
  refine hK9.out _ _ ?_ (fun hHeld => ?_)
  · trivial
  clear hK9 K9
  try simp only [Act.put, List.setIfInBounds_toArray, List.set_cons_zero, List.set_cons_succ]
  refine wpAnyH_ready (rs := [5]) (by kernel_rfl) (by simp) ?_
  refine AllReadyH.cons (o := ⟨some 32, _, _, _, _, _⟩) rfl (fun K9 hK9 => ?_) AllReadyH.nil
  go_simp; go_at_call 7
  refine (HC3.out _).mono ?_
  rintro e w9 ⟨rfl, rfl⟩
  refine hK9.out _ _ ?_ (fun hHeld => ?_)
  · trivial
  clear hK9 K9
  try simp only [Act.put, List.setIfInBounds_toArray, List.set_cons_zero, List.set_cons_succ]
  refine wpAnyH_ready (rs := [7]) (by kernel_rfl) (by simp) ?_
  refine AllReadyH.cons (o := ⟨some 34, _, _, _, _, _⟩) rfl (fun K9 hK9 => ?_) AllReadyH.nil
  go_simp; go_at_call 7
  refine (HC4.out _).mono ?_
  rintro e w9 ⟨rfl, rfl⟩
  refine hK9.out _ _ ?_ (fun hHeld => ?_)
  · trivial
  clear hK9 K9
  try simp only [Act.put, List.setIfInBounds_toArray, List.set_cons_zero, List.set_cons_succ]
  refine wpAnyH_take (i := 13) (oi := ⟨some 0, _, _, _, _, _⟩) (v := ?_) rfl (by kernel_rfl) (by kernel_rfl) (by kernel_rfl) (fun _ _ _ h => h) (Or.inl ⟨by rfl, ?_⟩) (by assumption) ?_
  rotate_left
  · (intro w9 hSw; (try dsimp only at hSw); go_simp; try with_reducible rfl)
  try simp only [Act.put, List.setIfInBounds_toArray, List.set_cons_zero]
  refine wpAnyH_take (i := 14) (oi := ⟨some 1, _, _, _, _, _⟩) (v := ?_) rfl (by kernel_rfl) (by kernel_rfl) (by kernel_rfl) (fun _ _ _ h => h) (Or.inl ⟨by rfl, ?_⟩) (by assumption) ?_
  rotate_left
  · (intro w9 hSw; (try dsimp only at hSw); go_simp; try with_reducible rfl)
  try simp only [Act.put, List.setIfInBounds_toArray, List.set_cons_zero, List.set_cons_succ]
  refine wpAnyH_take (i := 15) (oi := ⟨some 2, _, _, _, _, _⟩) (v := ?_) rfl (by kernel_rfl) (by kernel_rfl) (by kernel_rfl) (fun _ _ _ h => h) (Or.inl ⟨by rfl, ?_⟩) (by assumption) ?_
  rotate_left
  · (intro w9 hSw; (try dsimp only at hSw); go_simp; try with_reducible rfl)
  try simp only [Act.put, List.setIfInBounds_toArray, List.set_cons_zero, List.set_cons_succ]
  refine wpAnyH_take (i := 16) (oi := ⟨some 3, _, _, _, _, _⟩) (v := ?_) rfl (by kernel_rfl) (by kernel_rfl) (by kernel_rfl) (fun _ _ _ h => h) (Or.inl ⟨by rfl, ?_⟩) (by assumption) ?_
  rotate_left
  · (intro w9 hSw; (try dsimp only at hSw); go_simp; try with_reducible rfl)
  try simp only [Act.put, List.setIfInBounds_toArray, List.set_cons_zero, List.set_cons_succ]
  refine wpAnyH_take (i := 17) (oi := ⟨some 4, _, _, _, _, _⟩) (v := ?_) rfl (by kernel_rfl) (by kernel_rfl) (by kernel_rfl) (fun _ _ _ h => h) (Or.inl ⟨by rfl, ?_⟩) (by assumption) ?_
  rotate_left
  · (intro w9 hSw; (try dsimp only at hSw); go_simp; try with_reducible rfl)
  try simp only [Act.put, List.setIfInBounds_toArray, List.set_cons_zero, List.set_cons_succ]
  refine wpAnyH_done (by kernel_rfl) ?_ _
  clear HC1 HC2 HC3 HC4 HX HST HG
  go_wp2_with fail
  refine (HS.out _).mono ?_
  rintro e w1 ⟨rfl, hb1⟩
  go_wp2_with fail
  refine (HL.out _).mono ?_
  rintro e w2 ⟨rfl, hb2⟩
  go_wp2_with fail
  go_ret
  exact ⟨rfl, bt (kdrew hb1) hb2⟩

theorem kback_any (k0 n0 h0 t0 s0 : List UInt8) (kk : Int) (w : World) (hk0 : (k0.length : Int) ≤ 9223372036854775807) (hn0 : (n0.length : Int) ≤ 9223372036854775807) (hh0 : (h0.length : Int) ≤ 9223372036854775807) (ht0 : (t0.length : Int) ≤ 9223372036854775807) (hs0 : (s0.length : Int) ≤ 9223372036854775807) :
    Calls Try.prog 6 #[.string ⟨k0.toArray⟩, .string ⟨n0.toArray⟩, .string ⟨h0.toArray⟩, .string ⟨t0.toArray⟩, .string ⟨s0.toArray⟩, .int .i64 kk] w fun e w' => e = .returned (.bool true) ∧ Below w.heap.size w w' := by
  by_cases hf : kfit (k0.take 70) (n0.take 70) = true
  · exact kback_yes k0 n0 h0 t0 s0 _ _ _ _ _ kk w hk0 hn0 hh0 ht0 hs0 rfl rfl rfl rfl rfl hf
  · exact kback_no k0 n0 h0 t0 s0 _ _ _ _ _ kk w hk0 hn0 hh0 ht0 hs0 rfl rfl rfl rfl rfl hf

set_option maxHeartbeats 1000000 in
set_option maxRecDepth 100000 in
theorem back_lifted (os : Os) (started : os.Started) (H : Type) (enc : TypeId × Value → H) :
    ReturnsInHanded {} Try.checked os 6 .any (Rows.gcmBackSpec.pre6 enc Try.prog Try.f6 Rows.gcmBackRow.domain false) (Rows.gcmBackSpec.post enc Try.prog Try.f6 false true false false) := by
  refine returnsInHanded_of_change (C := Try.checked) Try.own started (by kernel_rfl) Try.func6
    (ChangeSpec.witness6 (enc := enc) (C := Try.checked) false ⟨#[], #[.string ⟨#[]⟩, .string ⟨#[]⟩, .string ⟨#[]⟩, .string ⟨#[]⟩, .string ⟨#[]⟩, .int .i64 0], []⟩ 8 (by kernel_rfl) (by kernel_rfl) (by kernel_rfl) (by kernel_rfl)) ?_
  intro W base args ds gs before hval0 hW _ _
  have hval : ∀ (j : Nat) t v, Try.f6.params[j]? = some t → args[j]? = some v → Value.okWide Try.prog W .any base t v := hval0
  have hW' := hW
  obtain ⟨p, q, hA0, hV, rfl, _, _⟩ := hW
  have hA : DataW.TrodAll enc Try.prog W 0 (fun _ => true) true Try.f6.params.toList args.toList ds p := hA0
  rw [Try.params6] at hA hval
  obtain ⟨rfl, rfl⟩ := trodVars_none hV
  have hAk := hA
  obtain ⟨v0, v1, v2, v3, v4, v5, d0, d1, d2, d3, d4, d5, p0, p1, p2, p3, p4, p5, rfl, rfl, hp, h0, h1, h2, h3, h4, h5⟩ := trodAll_six hA
  have hlt : ∀ x ∈ p, x.block < W.heap.size := fun x hx => hW'.lt x (by simpa using hx)
  obtain ⟨s0, rfl, rfl, _, ws0⟩ := ChangeMaps.open_string Try.underlying9 (hval 0 9 v0 rfl rfl) h0
  unfold maxLen at ws0
  obtain ⟨l0, rfl, hz0⟩ := str_list s0
  have hl0 : (l0.length : Int) ≤ 9223372036854775807 := by omega
  obtain ⟨s1, rfl, rfl, _, ws1⟩ := ChangeMaps.open_string Try.underlying9 (hval 1 9 v1 rfl rfl) h1
  unfold maxLen at ws1
  obtain ⟨l1, rfl, hz1⟩ := str_list s1
  have hl1 : (l1.length : Int) ≤ 9223372036854775807 := by omega
  obtain ⟨s2, rfl, rfl, _, ws2⟩ := ChangeMaps.open_string Try.underlying9 (hval 2 9 v2 rfl rfl) h2
  unfold maxLen at ws2
  obtain ⟨l2, rfl, hz2⟩ := str_list s2
  have hl2 : (l2.length : Int) ≤ 9223372036854775807 := by omega
  obtain ⟨s3, rfl, rfl, _, ws3⟩ := ChangeMaps.open_string Try.underlying9 (hval 3 9 v3 rfl rfl) h3
  unfold maxLen at ws3
  obtain ⟨l3, rfl, hz3⟩ := str_list s3
  have hl3 : (l3.length : Int) ≤ 9223372036854775807 := by omega
  obtain ⟨s4, rfl, rfl, _, ws4⟩ := ChangeMaps.open_string Try.underlying9 (hval 4 9 v4 rfl rfl) h4
  unfold maxLen at ws4
  obtain ⟨l4, rfl, hz4⟩ := str_list s4
  have hl4 : (l4.length : Int) ≤ 9223372036854775807 := by omega
  obtain ⟨n5, rfl, rfl, _, wn5⟩ := open_int Try.underlying3 (hval 5 3 v5 rfl rfl) h5
  have hi5 := i64_bounds wn5
  clear hA0 hval0
  refine (kback_any l0 l1 l2 l3 l4 n5 W hl0 hl1 hl2 hl3 hl4).mono fun e W' ⟨he, hn⟩ => ?_
  subst he
  refine ⟨_, rfl, ?_⟩
  refine ⟨_, _, _, [], p, [], hW', ?_, trodAll_below_ Try.laidOut hn _ hAk (all_readable (by kernel_rfl)) hlt, rfl, hn.frame _, fun h => by cases h⟩
  exact trodAll_mk1 (shut_bool Try.underlying4 true)

/-- GcmBack, for every input. -/
theorem back_holds : Rows.GcmBackSaid :=
  OpenClaim.holds_of_wide 6 Try.f6 rfl rfl rfl rfl rfl rfl rfl ⟨rfl, rfl, rfl, rfl, rfl⟩ rfl rfl rfl rfl rfl (by kernel_rfl) Try.func6 (by kernel_rfl)
    (of_decide_eq_true (by kernel_rfl)) (by unfold Func.isWrapper; rw [if_neg (of_decide_eq_false (by kernel_rfl))]; exact ⟨rfl, rfl⟩)
    (fun os started H enc _ => back_lifted os started H enc)
#print axioms back_holds
end Go.Proofs.Ytnifgfnocdffcaa
