/- The contracts of Chain, the code's and the reference's, and of the reference's Same. -/
import Derived.Test.YtehdejpgpogklaaMLaw
namespace Go.Proofs.Ytehdejpgpogklaa
open Go.RowKit

theorem chainK_len (i o : List UInt8) : ∀ (f : List UInt8) (l : List (List UInt8)), (chainK i o f l).length = l.length := by
  intro f l
  induction l generalizing f with
  | nil => rfl
  | cons s l ih => simp [chainK, ih]
/-- The tag ahead of the place k. -/
def headK (i o f : List UInt8) (l : List (List UInt8)) (k : Nat) : List UInt8 := if k = 0 then f else (chainK i o f l).getD (k - 1) []
theorem fewL_get (L : List (List UInt8)) (j : Nat) : ((fewL L).getD j []).length ≤ 200 := by
  by_cases h : j < (fewL L).length
  · have hm : (fewL L).getD j [] ∈ fewL L := by
      rw [List.getD, List.getElem?_eq_getElem h]
      exact List.getElem_mem h
    obtain ⟨x, _, hx⟩ := List.mem_map.1 hm
    rw [← hx, List.length_take]
    omega
  · rw [List.getD, List.getElem?_eq_none (by omega)]
    simp
theorem headK_zero (i o f : List UInt8) (l : List (List UInt8)) : headK i o f l 0 = f := rfl
theorem chainK_at (i o : List UInt8) : ∀ (l : List (List UInt8)) (f : List UInt8) (k : Nat), k < l.length → (chainK i o f l).getD k [] = tagK i o (headK i o f l k ++ l.getD k []) := by
  intro l
  induction l with
  | nil => intro f k h; simp at h
  | cons s l ih =>
    intro f k h
    cases k with
    | zero => simp [chainK, headK]
    | succ k =>
      have := ih (tagK i o (f ++ s)) k (by simpa using h)
      simp only [chainK, List.getD_cons_succ, this]
      congr 2
      cases k with
      | zero => simp [headK, chainK]
      | succ k => simp [headK, chainK]
theorem headK_succ (i o f : List UInt8) (l : List (List UInt8)) (k : Nat) (h : k < l.length) : headK i o f l (k + 1) = tagK i o (headK i o f l k ++ l.getD k []) := by
  rw [← chainK_at i o l f k h]
  simp [headK]
theorem chainK_take (i o f : List UInt8) (l : List (List UInt8)) (k : Nat) (h : k < l.length) : (chainK i o f l).take (k + 1) = (chainK i o f l).take k ++ [headK i o f l (k + 1)] := by
  rw [List.take_succ_eq_append_getElem (by rw [chainK_len]; exact h)]
  congr 2
  rw [headK]
  simp [List.getD, chainK_len, h]
theorem headK_len (i o f : List UInt8) (l : List (List UInt8)) (k n : Nat) (h : k ≤ l.length) (hf : f.length ≤ n) (hn : 32 ≤ n) : (headK i o f l k).length ≤ n := by
  cases k with
  | zero => exact hf
  | succ k => rw [headK_succ i o f l k (by omega), tagK_len]; exact hn
/-- From the place k on a chain is one that goes on from the tag ahead. -/
theorem chainK_drop (i o : List UInt8) : ∀ (l : List (List UInt8)) (f : List UInt8) (k : Nat), k ≤ l.length → chainK i o (headK i o f l k) (l.drop k) = (chainK i o f l).drop k := by
  intro l
  induction l with
  | nil => intro f k h; obtain rfl : k = 0 := by simpa using h
           rfl
  | cons s l ih =>
    intro f k h
    cases k with
    | zero => rfl
    | succ k =>
      have := ih (tagK i o (f ++ s)) k (by simpa using h)
      simp only [chainK, List.drop_succ_cons]
      rw [← this]
      congr 1
      cases k with
      | zero => simp [headK, chainK]
      | succ k => simp [headK, chainK]

set_option maxRecDepth 100000 in
set_option maxHeartbeats 2000000 in
theorem rsame_any (A B : Option Addr) (c d n : Nat) (L : List (List UInt8)) (w : World) (hA : SR w A L) (hB : SR w B L) (hl : L.length = n) (hn : n ≤ 65536) :
    Calls Try.prog 13 #[.slice A n c, .slice B n d] w fun e w' => e = .returned (.bool true) ∧ Below w.heap.size w w' := by
  have HA := Lib.hid hA
  have HB := Lib.hid hB
  have HL := Lib.hid hl
  clear hA hB hl
  go_enter Try.func13, Try.ntmps13
  go_wp2_with fail
  go_loopw [13] (fun iv wr => ∃ k : Nat, k ≤ n ∧ iv = .int .i64 k ∧ Below w.heap.size w wr) (fun i _ => n - (intOf i).toNat)
  case atStart => exact ⟨0, Nat.zero_le _, rfl, Below.refl _ _⟩
  case round =>
    obtain ⟨k, hk, rfl, hb⟩ := hrel
    by_cases hlt : k < n
    · obtain ⟨g, off, rfl, c0⟩ := (HA.out.later hb) k (by rw [HL.out]; exact hlt)
      obtain ⟨g', off', rfl, d0⟩ := (HB.out.later hb) k (by rw [HL.out]; exact hlt)
      have i0 : (0 : Int) ≤ (k : Int) := by omega
      have i1 : (k : Int) < (n : Int) := by omega
      generalize L.getD k [] = x at c0 d0
      go_wp2_with fail
      go_quiet (fail)
      go_wp2
      exact ⟨⟨k + 1, by omega, by go_num, bdn' hb _⟩, by simp [intOf]; omega⟩
    · obtain rfl : k = n := by omega
      go_wp2
      go_ret
      exact ⟨rfl, hb⟩

set_option maxRecDepth 100000 in
set_option maxHeartbeats 2000000 in
theorem rchain_any (key f : List UInt8) (L : List (List UInt8)) (A : Option Addr) (c n : Nat) (w : World) (hn : L.length = n) (hA : SR w A L) (hN : n ≤ 4096) (hk : key.length ≤ 1000) (hf : f.length ≤ 1000) (hs : ∀ j, j < n → (L.getD j []).length ≤ 1000) :
    Calls Try.prog 15 #[.string ⟨key.toArray⟩, .string ⟨f.toArray⟩, .slice A n c] w fun e w' => ∃ g c', e = .returned (.slice (some ⟨g, 0, none⟩) n c') ∧ w'.ownsRow w.heap.size 9 1 (.slice (some ⟨g, 0, none⟩) n c') n ((chainL key f L).map sv) ∧ Below w.heap.size w w' := by
  obtain ⟨ti, hi0, hz0, hz1, hz2⟩ := info_parts infoS
  have HA := Lib.hid hA
  have HS := Lib.hid hs
  have HT := Lib.hid (fun s W (h : s.length ≤ 60000) => rtag_any key s W (by omega) h)
  have HQ : Hid (∀ s, tagL key s = tagK (innL key) (outL key) s) := Lib.hid fun _ => rfl
  unfold chainL
  generalize innL key = I at HQ ⊢
  generalize outL key = O at HQ ⊢
  have HC := Lib.hid (chainK_take I O f L)
  have HH := Lib.hid (headK_succ I O f L)
  have HLN := Lib.hid (fun k (h : k ≤ L.length) => headK_len I O f L k 1000 h hf (by omega))
  have HZ : Hid (headK I O f L 0 = f) := Lib.hid rfl
  have HW : Hid ((chainK I O f L).length = n) := Lib.hid (by rw [chainK_len, hn])
  generalize chainK I O f L = C at HC HW ⊢
  have HN := Lib.hid hn
  clear hn hA hs hf hk
  have O0 : (w.alloc (.cells #[] 9)).ownsRow w.heap.size 9 1 (.slice (some ⟨w.heap.size, 0, none⟩) 0 0) 0 [] := own_nil (Blk.new w _ _) (Nat.le_refl _)
  have HO := Lib.hid O0
  clear O0
  go_enter Try.func15, Try.ntmps15
  go_wp2_with fail
  go_loopw [1, 7, 13] (fun fv ov iv wr => ∃ (k g d : Nat), k ≤ n ∧ iv = .int .i64 k ∧ fv = .string ⟨(headK I O f L k).toArray⟩ ∧ ov = .slice (some ⟨g, 0, none⟩) k d ∧ wr.ownsRow w.heap.size 9 1 (.slice (some ⟨g, 0, none⟩) k d) k ((C.take k).map sv) ∧ Below w.heap.size w wr) (fun _ _ i _ => n - (intOf i).toNat)
  case atStart => exact ⟨0, _, _, Nat.zero_le _, rfl, by rw [HZ.out], rfl, HO.out, ba (Below.refl _ _) _⟩
  case round =>
    obtain ⟨k, g, d, hk, rfl, rfl, rfl, hown, hb⟩ := hrel
    by_cases hlt : k < n
    · obtain ⟨ga, off, rfl, c0⟩ := (HA.out.later hb) k (by rw [HN.out]; omega)
      have h1 := HS.out k hlt
      have h2 := HLN.out k (by rw [HN.out]; omega)
      have HCk := Lib.hid (HC.out k (by rw [HN.out]; exact hlt))
      have hh := HH.out k (by rw [HN.out]; exact hlt)
      rw [← HQ.out] at hh
      generalize L.getD k [] = x at c0 h1 hh
      generalize headK I O f L k = hd at h2 hh ⊢
      obtain ⟨hd1, he1⟩ : ∃ y, headK I O f L (k + 1) = y := ⟨_, rfl⟩
      rw [he1] at hh HCk
      have HE1 := Lib.hid he1
      clear he1
      have a1 : ∀ W : World, (Op.stringOp .add ⟨hd.toArray⟩ ⟨x.toArray⟩).run Try.prog W = .ok (.string ⟨(hd ++ x).toArray⟩) W := fun W => run_string_add_lists (P := Try.prog) W _ _ (by omega) (by omega)
      have HT1 := Lib.hid (fun W => HT.out (hd ++ x) W (by rw [List.length_append]; omega))
      rw [← hh] at HT1
      clear hh
      generalize hd ++ x = hx at a1 HT1
      have i0 : (0 : Int) ≤ (k : Int) := by omega
      have i1 : (k : Int) < (n : Int) := by omega
      have HO1 := Lib.hid hown
      clear hown h1 h2
      go_wp2_with fail
      refine (HT1.out _).mono ?_
      rintro e w1 ⟨rfl, hb1⟩
      have hB1 := bt hb hb1
      have z := hB1.size
      have hownA := (own_later HO1.out hb1).alloc (.cells #[sv hd1] 9)
      have hnews := World.news_of_block (heap_alloc_new w1 (.cells #[sv hd1] 9))
      clear hb hb1
      go_wp2_with (at_builtin; refine wpList_append_own _ rfl _ _ 26 rfl w.heap.size 9 ti _ 1 16 Try.underlying26 hi0 hz0 hz1 hz2 rfl (by decide) _ _ _ rfl hownA ⟨w1.heap.size, 0, none⟩ 1 1 [sv hd1] rfl rfl hnews (by simp [Value.oneCell']) (by unfold maxLen; omega) (by omega) (by simp; omega) ?_; intro v3 w3 hown3 hgrow3 _; obtain ⟨g3, c3, rfl⟩ := ownsRow_succ hown3)
      have hb3 : Below w.heap.size w w3 := (ba hB1 _).grown hgrow3 (by simp; omega) (fun k e => (hownA.lt k e).1)
      exact ⟨⟨k + 1, g3, c3, by omega, by go_num, by rw [HE1.out], rfl, by rw [HCk.out, List.map_append]; exact hown3, hb3⟩, by simp [intOf]; omega⟩
    · obtain rfl : k = n := by omega
      have htk : C.take k = C := List.take_of_length_le (by rw [HW.out]; exact Nat.le_refl _)
      rw [htk] at hown
      clear htk
      go_wp2
      go_ret
      exact ⟨_, _, rfl, hown, hb⟩

set_option maxRecDepth 100000 in
set_option maxHeartbeats 4000000 in
theorem chain_any (key f : List UInt8) (L : List (List UInt8)) (A : Option Addr) (c n : Nat) (w : World) (hn : L.length = n) (hA : SR w A L) (hN : n ≤ 4096) (hk : key.length ≤ 1000) (hf : f.length ≤ 1000) (hs : ∀ j, j < n → (L.getD j []).length ≤ 1000) :
    Calls Try.prog 14 #[.string ⟨key.toArray⟩, .string ⟨f.toArray⟩, .slice A n c] w fun e w' => ∃ g c', e = .returned (.slice (some ⟨g, 0, none⟩) n c') ∧ w'.ownsRow w.heap.size 9 1 (.slice (some ⟨g, 0, none⟩) n c') n ((chainL key f L).map sv) ∧ Below w.heap.size w w' := by
  obtain ⟨ti, hi0, hz0, hz1, hz2⟩ := info_parts infoS
  have HA := Lib.hid hA
  have HS := Lib.hid hs
  have HKO := Lib.hid (fun W => keysOf_any key W (by omega))
  have hI := innL_len key
  have hO := outL_len key
  unfold chainL
  generalize innL key = I at HKO hI ⊢
  generalize outL key = O at HKO hO ⊢
  have HT := Lib.hid (fun s W (h : s.length ≤ 60000) => tag_any I O s W hI hO h)
  have HC := Lib.hid (chainK_take I O f L)
  have HH := Lib.hid (headK_succ I O f L)
  have HLN := Lib.hid (fun k (h : k ≤ L.length) => headK_len I O f L k 1000 h hf (by omega))
  have HZ : Hid (headK I O f L 0 = f) := Lib.hid rfl
  have HW : Hid ((chainK I O f L).length = n) := Lib.hid (by rw [chainK_len, hn])
  generalize chainK I O f L = C at HC HW ⊢
  have HN := Lib.hid hn
  have HMK := Lib.hid (fun W : World => run_makeSlice_owned (P := Try.prog) (w := W) W.heap.size 26 9 ti (.string ⟨#[]⟩) 1 Try.underlying26 hi0 hz0 hz1 .i64 .i64 n (by omega) (by rw [hz2]; omega) (by unfold maxLen; omega) (Nat.le_refl _))
  clear hn hA hs hf hk hI hO
  go_enter Try.func14, Try.ntmps14
  go_wp2_with fail
  refine (HKO.out _).mono ?_
  rintro e w1 ⟨rfl, hb1⟩
  obtain ⟨w2, hmk, ho2, hg2⟩ := HMK.out (w1.alloc (.cells #[sv I, sv O] 37))
  have K2 : Hid (Blk w2 w1.heap.size 37 #[sv I, sv O]) := Lib.hid ((Blk.new w1 37 #[sv I, sv O]).grown hg2 (by simp))
  have hB2 : Below w.heap.size w w2 := (ba hb1 _).grown hg2 (by have := hb1.size; simp; omega) (fun k e => by cases e)
  simp only [World.size_alloc] at hmk ho2
  have z1 := hb1.size
  obtain ⟨kb, hkb⟩ : ∃ kb, w1.heap.size = kb := ⟨_, rfl⟩
  have HO := Lib.hid ho2
  clear ho2 hg2 HMK HKO
  go_wp2_with fail
  rw [hkb] at z1 K2 HO
  clear hmk hb1 hkb w1
  go_loopw [8, 9, 20] (fun ov fv iv wr => ∃ (k g d : Nat), k ≤ n ∧ iv = .int .i64 k ∧ fv = .string ⟨(headK I O f L k).toArray⟩ ∧ ov = .slice (some ⟨g, 0, none⟩) k d ∧ wr.ownsRow (kb + 1) 9 1 (.slice (some ⟨g, 0, none⟩) k d) k ((C.take k).map sv) ∧ Blk wr kb 37 #[sv I, sv O] ∧ Below w.heap.size w wr) (fun _ _ i _ => n - (intOf i).toNat)
  case atStart => exact ⟨0, _, _, Nat.zero_le _, rfl, by rw [HZ.out], rfl, HO.out, K2.out, hB2⟩
  case round =>
    clear K2 hB2 HO
    obtain ⟨k, g, d, hk, rfl, rfl, rfl, hown, hkb, hb⟩ := hrel
    by_cases hlt : k < n
    · obtain ⟨ga, off, rfl, ca⟩ := (HA.out.later hb) k (by rw [HN.out]; omega)
      have h1 := HS.out k hlt
      have h2 := HLN.out k (by rw [HN.out]; omega)
      have HCk := Lib.hid (HC.out k (by rw [HN.out]; exact hlt))
      have hh := HH.out k (by rw [HN.out]; exact hlt)
      generalize L.getD k [] = x at ca h1 hh
      generalize headK I O f L k = hd at h2 hh ⊢
      obtain ⟨hd1, he1⟩ : ∃ y, headK I O f L (k + 1) = y := ⟨_, rfl⟩
      rw [he1] at hh HCk
      have HE1 := Lib.hid he1
      have J1 := Lib.hid (fun g W h0 h1 => joined_any hd x g W h0 h1 (by omega))
      have HT1 := Lib.hid (fun W => HT.out (hd ++ x) W (by rw [List.length_append]; omega))
      rw [← hh] at HT1
      clear hh he1
      generalize hd ++ x = hx at J1 HT1
      have i0 : (0 : Int) ≤ (k : Int) := by omega
      have i1 : (k : Int) < (n : Int) := by omega
      have HO1 := Lib.hid hown
      have HK1 := Lib.hid hkb
      have c0 := hkb.cell 0
      have c1 := hkb.cell 1
      simp only [List.getElem?_toArray, List.getElem?_cons_zero, List.getElem?_cons_succ] at c0 c1
      clear hown hkb h1 h2
      go_wp2_with fail
      go_region_held3 (fun W => W.cell? ⟨kb, 0, none⟩ = some (sv I) ∧ W.cell? ⟨kb, 1, none⟩ = some (sv O) ∧ Below wr.heap.size wr W) (first | assumption | exact three_of c0 c1 (Below.refl _ _).drew | exact three_of c0 c1 (ba (Below.refl _ _).drew _) | exact three_of c0 c1 (ba (by assumption : _ ∧ _ ∧ Below wr.heap.size wr _).2.2 _)) (first
        | (go_at_call 22; refine (J1.out _ _ (by simp) (by simp)).mono ?_; rintro e w1 ⟨rfl, hb1⟩; have hS1 := three_of c0 c1 (bt (ba (Below.refl wr.heap.size wr).drew _) hb1))
        | (go_at_call 21; (with_reducible refine (HT1.out _).mono ?_); rintro e w1 ⟨rfl, hb1⟩; have hS1 := three_of c0 c1 (bt (by assumption : _ ∧ _ ∧ Below wr.heap.size wr _).2.2 hb1)))
      have hbw := hS1.2.2
      have hB1 := bt hb hbw
      have z := hB1.size
      have hK1 := HK1.out.below hbw
      have hownA := (own_later HO1.out hbw).alloc (.cells #[sv hd1] 9)
      have hnews := World.news_of_block (heap_alloc_new w1 (.cells #[sv hd1] 9))
      have nk := hK1.lt
      have HK2 := Lib.hid hK1
      clear hb hbw hS1 hb1 c0 c1 hK1
      go_wp2_with (at_builtin; refine wpList_append_own _ rfl _ _ 26 rfl (kb + 1) 9 ti _ 1 16 Try.underlying26 hi0 hz0 hz1 hz2 rfl (by decide) _ _ _ rfl hownA ⟨w1.heap.size, 0, none⟩ 1 1 [sv hd1] rfl rfl hnews (by simp [Value.oneCell']) (by unfold maxLen; omega) (by omega) (by simp; omega) ?_; intro v3 w3 hown3 hgrow3 _; obtain ⟨g3, c3, rfl⟩ := ownsRow_succ hown3)
      have hb3 : Below w.heap.size w w3 := (ba hB1 _).grown hgrow3 (by simp; omega) (fun k e => by have := (hownA.lt k e).1; omega)
      have hk3 : Blk w3 kb 37 #[sv I, sv O] := (HK2.out.alloc _).grown hgrow3 (fun e => by have := (hownA.lt kb e.symm).1; omega)
      exact ⟨⟨k + 1, g3, c3, by omega, by go_num, by rw [HE1.out], rfl, by rw [HCk.out, List.map_append]; exact hown3, hk3, hb3⟩, by simp [intOf]; omega⟩
    · obtain rfl : k = n := by omega
      have htk : C.take k = C := List.take_of_length_le (by rw [HW.out]; exact Nat.le_refl _)
      rw [htk] at hown
      clear htk
      go_wp2
      go_ret
      exact ⟨_, _, rfl, hown.mono (by omega), hb⟩
end Go.Proofs.Ytehdejpgpogklaa
