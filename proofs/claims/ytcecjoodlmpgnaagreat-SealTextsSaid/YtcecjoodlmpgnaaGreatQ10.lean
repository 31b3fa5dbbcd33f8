/- Texts of this seat, one behind the other: GRFill, GRXor, GXorM, GRBlks. -/
import Derived.Laws.MakeOwn
import Derived.Test.YtcecjoodlmpgnaaGreatQ07
import Derived.Test.YtcecjoodlmpgnaaGreatQ09
/- The contract of the reference's filled. -/
namespace Go.Proofs.YtcecjoodlmpgnaaGreat
open Go.RowKit

def fillT (L : List UInt8) : List (List UInt8) := (fillC L).map nb
theorem fillT_len (L : List UInt8) : (fillT L).length = (L.length + 15) / 16 := by simp [fillT, fillC]
theorem fillT_take (L : List UInt8) {i : Nat} (h : i < (L.length + 15) / 16) : ((fillT L).take (i + 1)).map sv = ((fillT L).take i).map sv ++ [sv (nb (bn ((L.drop (16 * i)).take 16)))] := by
  have h1 : i < (fillT L).length := by rw [fillT_len]; exact h
  rw [← List.take_append_getElem h1, List.map_append]
  congr 2
  simp [fillT, fillC]
theorem ub_pad (L : List UInt8) (r j : Nat) : ub (L ++ List.replicate r 0) j = ub L j := by
  unfold ub
  by_cases h : j < L.length
  · simp [List.getD, List.getElem?_append_left h]
  · by_cases h2 : j < L.length + r
    · have : j - L.length < r := by omega
      simp [List.getD, h, List.getElem?_append_right (Nat.le_of_not_lt h), this]
    · simp [List.getD, List.getElem?_eq_none (l := L ++ List.replicate r 0) (i := j) (by simp; omega), List.getElem?_eq_none (l := L) (i := j) (by omega)]
theorem chunk_is (L : List UInt8) (r i K : Nat) (hK : (L ++ List.replicate r 0).length = 16 * K) (h : i < K) : ((L ++ List.replicate r 0).drop (16 * i)).take 16 = nb (bn ((L.drop (16 * i)).take 16)) := by
  refine list_ext (n := 16) (by rw [List.length_take, List.length_drop, hK]; omega) (nb_len _) fun j hj => ?_
  rw [nb_any _ hj, gub_take, if_pos hj, gub_take, if_pos hj, gub_drop, gub_drop, ub_pad]
theorem gextract_part (s : List UInt8) (m k : Nat) : (⟨s.toArray⟩ : ByteArray).extract m (m + k) = ⟨((s.drop m).take k).toArray⟩ := by
  apply ByteArray.ext
  apply Array.toList_inj.1
  rw [Lib.extract_data]
  simp
def sizeV : Value → Nat
  | .string s => s.size
  | _ => 0

set_option maxRecDepth 100000 in
set_option maxHeartbeats 4000000 in
theorem rfilled_any (L : List UInt8) (n : Nat) (w : World) (hL : L.length = n) (hn : n ≤ 80) :
    Calls Tryz.prog 105 #[.string ⟨L.toArray⟩] w fun e w' => ∃ g c, e = .returned (.slice (some ⟨g, 0, none⟩) ((n + 15) / 16) c) ∧ w'.ownsRow w.heap.size 9 1 (.slice (some ⟨g, 0, none⟩) ((n + 15) / 16) c) ((n + 15) / 16) ((fillT L).map sv) ∧ Below w.heap.size w w' := by
  obtain ⟨i0, hi0, hz0, hz1, hz2⟩ := info_parts infoS
  have HJ := Lib.hid (fun s => join_text s [0])
  have HX := Lib.hid gextract_part
  have HC := Lib.hid (chunk_is L)
  have HT := Lib.hid (fun i hi => fillT_take L (i := i) hi)
  have HFL := Lib.hid (fillT_len L)
  have HL := Lib.hid hL
  rw [hL] at HT HFL
  obtain ⟨K, hK⟩ : ∃ K, (n + 15) / 16 = K := ⟨_, rfl⟩
  rw [hK] at HT HFL ⊢
  have HK := Lib.hid hK
  have hK5 : K ≤ 5 := by omega
  have HP0 : Hid (L ++ List.replicate 0 0 = L) := Lib.hid (by simp)
  have HPR : Hid (∀ r, L ++ List.replicate (r + 1) 0 = (L ++ List.replicate r 0) ++ [0]) := Lib.hid (fun r => by rw [List.replicate_succ', List.append_assoc])
  have HPL : Hid (∀ r, (L ++ List.replicate r 0).length = n + r) := Lib.hid (fun r => by simp [hL])
  generalize fillT L = F at HT HFL ⊢
  obtain ⟨P, hP⟩ : ∃ P : Nat → List UInt8, ∀ r, L ++ List.replicate r 0 = P r := ⟨fun r => L ++ List.replicate r 0, fun _ => rfl⟩
  simp only [hP] at HC HP0 HPR HPL
  rw [← HP0.out]
  clear hP hK hL
  go_enter Tryz.func105, Tryz.ntmps105
  go_wp2_with fail
  go_loopw [0] (fun sv0 wr => ∃ r : Nat, Hid (n + r ≤ 16 * K) ∧ sv0 = .string ⟨(P r).toArray⟩ ∧ Below w.heap.size w wr) (fun sv0 _ => 100 - sizeV sv0)
  case atStart => exact ⟨0, Lib.hid (by have := HK.out; omega), rfl, Below.refl _ _⟩
  case round =>
    obtain ⟨r, HR, rfl, hb⟩ := hrel
    have hsz := size_of (P r)
    rw [HPL.out r] at hsz
    obtain ⟨m, hm⟩ : ∃ m, n + r = m := ⟨_, rfl⟩
    have HMM := Lib.hid hm
    have hm80 : m ≤ 80 := by have := HR.out; omega
    rw [hm] at hsz
    by_cases hz : m % 16 = 0
    · have hmz1 : ((m : Int) % 16) = 0 := by omega
      have hmK : m = 16 * K := by have h1 := HR.out; have h2 := HK.out; omega
      have HMK := Lib.hid hmK
      have HCC : Hid (∀ i, i < K → ((P r).drop (16 * i)).take 16 = nb (bn ((L.drop (16 * i)).take 16))) := Lib.hid (fun i hi => HC.out r i K (by rw [HPL.out r, HMM.out]; exact hmK) hi)
      generalize P r = T at hsz HCC ⊢
      have hbz := ba hb (.cells #[] 9)
      have HO0 : Hid ((wr.alloc (.cells #[] 9)).ownsRow w.heap.size 9 1 (.slice (some ⟨wr.heap.size, 0, none⟩) 0 0) 0 ((F.take 0).map sv)) := Lib.hid (gown_nil (Blk.new wr _ _) hb.size)
      clear hm hz hmK
      go_wp2_with fail
      try rw [hmz1]
      clear hmz1
      go_loopw [3, 4] (fun ov iv wr => ∃ j g c : Nat, j ≤ K ∧ iv = .int .i64 ((16 * j : Nat) : Int) ∧ ov = .slice (some ⟨g, 0, none⟩) j c ∧ Hid (wr.ownsRow w.heap.size 9 1 (.slice (some ⟨g, 0, none⟩) j c) j ((F.take j).map sv)) ∧ Below w.heap.size w wr) (fun _ iv _ => 100 - (intOf iv).toNat)
      case atStart => exact ⟨0, wr.heap.size, 0, Nat.zero_le _, rfl, rfl, HO0, hbz⟩
      case round =>
        clear HO0 hbz
        obtain ⟨j, g, c, hj, rfl, rfl, HO, hbx⟩ := hrel
        by_cases hlt : j < K
        · have HTJ := Lib.hid (HT.out j hlt)
          have hxx := HX.out T (16 * j) 16
          rw [HCC.out j hlt] at hxx
          generalize nb (bn ((L.drop (16 * j)).take 16)) = y at HTJ hxx
          obtain ⟨q, hq⟩ : ∃ q, 16 * j = q := ⟨_, rfl⟩
          have HQ := Lib.hid hq
          rw [hq] at hxx ⊢
          have hmk := HMK.out
          have hq1 : (q : Int) < (m : Int) := by omega
          obtain ⟨q2, hq2⟩ : ∃ q2, q + 16 = q2 := ⟨_, rfl⟩
          rw [hq2] at hxx
          have hqw : IntKind.i64.wrap ((q : Int) + 16) = (q2 : Int) := by have h64 := IntKind.wrap_i64; rw [h64]; omega
          have hq3 : (q2 : Int) ≤ (m : Int) := by omega
          have hq6 : (q : Int) ≤ (q2 : Int) := by omega
          have hq7 : q ≤ q2 := by omega
          have hq8 : q2 ≤ m := by omega
          have hz9 := hbx.size
          have hnews := news_new wr [sv y] 9
          have HQ2 : Hid (q2 = 16 * (j + 1)) := Lib.hid (by omega)
          have hj5 : j ≤ 5 := by omega
          have HQM : Hid (100 - q2 < 100 - q) := Lib.hid (by omega)
          clear hq hq2 hmk
          go_wp2_with (at_builtin; refine wpList_append_own _ rfl _ _ 116 rfl w.heap.size 9 i0 (.string ⟨#[]⟩) 1 16 Tryz.underlying116 hi0 hz0 hz1 hz2 rfl (by decide) _ _ _ rfl (own_alloc HO.out _) ⟨wr.heap.size, 0, none⟩ 1 1 [sv y] rfl rfl hnews (by simp [Value.oneCell']) (by unfold maxLen; omega) (by omega) (by simp; omega) ?_; intro v' w6 hown' hgrow _; obtain ⟨g1, c1, rfl⟩ := ownsRow_succ hown'; have hb6 : Below w.heap.size w w6 := (ba hbx (.cells #[sv y] 9)).grown hgrow (by simp; omega) (fun k e => by cases e; exact (HO.out.lt _ rfl).1); have HO6 := Lib.hid hown'; clear hown' hgrow)
          exact ⟨⟨j + 1, g1, c1, by omega, by rw [← HQ2.out], rfl, Lib.hid (by rw [HTJ.out]; exact HO6.out), hb6⟩, by simpa [intOf] using HQM.out⟩
        · obtain rfl : j = K := by omega
          have hO := HO.out
          rw [List.take_of_length_le (by rw [HFL.out]; exact Nat.le_refl _)] at hO
          have HOF := Lib.hid hO
          have hl1 : ¬ (((16 * j : Nat) : Int) < (m : Int)) := by have := HMK.out; omega
          have hl2 : ¬ (16 * (j : Int) < (m : Int)) := by have := HMK.out; omega
          clear hO HO hlt hj
          go_wp2
          go_ret
          exact ⟨g, c, rfl, HOF.out, hbx⟩
    · have hmz1 : ((m : Int) % 16 == 0) = false := by simp; omega
      have hz2' : ((m : Int) % 16 != 0) = true := by simp; omega
      have hz3 : ¬ (m : Int) % 16 = 0 := by omega
      have hob : (convert 64 9 (.slice (some ⟨wr.heap.size, 0, none⟩) 1 1)).run Tryz.prog (wr.alloc (.cells #[.int .u8 0] 5)) = .ok (.string ⟨#[0]⟩) (wr.alloc (.cells #[.int .u8 0] 5)) := one_byte 0 wr
      have hjn := HJ.out (P r)
      rw [← HPR.out r] at hjn
      have hjn2 : (⟨(P r).toArray⟩ : ByteArray) ++ ⟨#[0]⟩ = ⟨(P (r + 1)).toArray⟩ := hjn
      clear hjn
      have hlen : ¬ 9223372036854775807 < (P r).length + 1 := by rw [HPL.out r]; omega
      have HR2 : Hid (n + (r + 1) ≤ 16 * K) := Lib.hid (by have h1 := HR.out; have h2 := HK.out; omega)
      have HB2 := Lib.hid (ba hb (.cells #[.int .u8 0] 5))
      have HSZ : Hid (100 - sizeV (.string ⟨(P (r + 1)).toArray⟩) < 100 - sizeV (.string ⟨(P r).toArray⟩)) := Lib.hid (by
        show 100 - (⟨(P (r + 1)).toArray⟩ : ByteArray).size < 100 - (⟨(P r).toArray⟩ : ByteArray).size
        rw [size_of, size_of, HPL.out, HPL.out]
        omega)
      clear hm hz
      go_wp2_with fail
      exact ⟨⟨r + 1, HR2, rfl, HB2.out⟩, HSZ.out⟩
end Go.Proofs.YtcecjoodlmpgnaaGreat
/- The contract of the reference's Xor. -/
namespace Go.Proofs.YtcecjoodlmpgnaaGreat
open Go.RowKit

/-- Two texts, byte by byte. -/
def gxorA (n : Nat) (A B : List UInt8) : List UInt8 := tab n fun i => ub A i ^^^ ub B i
theorem gxorA_is {a b : List UInt8} {n : Nat} (h : a.length = n) : gxorA n a b = xorL a b := by subst h; rfl
set_option maxRecDepth 100000 in
set_option maxHeartbeats 2000000 in
theorem grXor_any (a b : List UInt8) (n : Nat) (w : World) (ha : a.length = n) (hb : b.length = n) (hn : n ≤ 96) :
    Calls Tryz.prog 38 #[.string ⟨a.toArray⟩, .string ⟨b.toArray⟩] w fun e w' => e = .returned (.string ⟨(gxorA n a b).toArray⟩) ∧ Below w.heap.size w w' := by
  obtain ⟨i0, hi, hz0, hz1, hz2⟩ := info_parts ginfo5
  have HIA := Lib.hid (gindex_of a)
  have HIB := Lib.hid (gindex_of b)
  have HU : Hid (∀ k, k < n → ub (gxorA n a b) k = ub a k ^^^ ub b k) := Lib.hid (fun k hk => ub_tab _ hk)
  have HN : Hid ((gxorA n a b).length = n) := Lib.hid (tab_len _ _)
  have hsa := size_of a
  have hsb := size_of b
  rw [ha] at hsa HIA
  rw [hb] at hsb HIB
  obtain ⟨N, hN⟩ : ∃ N, gxorA n a b = N := ⟨_, rfl⟩
  rw [hN] at HU HN ⊢
  have HTK := Lib.hid (gtake_ub N)
  have HO0 : Hid ((w.alloc (.cells #[] 5)).ownsRow w.heap.size 5 1 (.slice (some ⟨w.heap.size, 0, none⟩) 0 0) 0 ((N.take 0).map uv)) := Lib.hid (gown_nil (Blk.new w _ _) (Nat.le_refl _))
  have hb0 := ba (Below.refl w.heap.size w) (.cells #[] 5)
  clear ha hb hN
  go_enter Tryz.func38, Tryz.ntmps38
  go_wp2_with fail
  go_loopw [5, 6] (fun ov iv wr => ∃ k g d : Nat, k ≤ n ∧ iv = .int .i64 k ∧ ov = .slice (some ⟨g, 0, none⟩) k d ∧ Hid (wr.ownsRow w.heap.size 5 1 (.slice (some ⟨g, 0, none⟩) k d) k ((N.take k).map uv)) ∧ Below w.heap.size w wr) (fun _ iv _ => n - (intOf iv).toNat)
  case atStart => exact ⟨0, _, _, Nat.zero_le _, rfl, rfl, HO0, hb0⟩
  case round =>
    clear HO0 hb0
    obtain ⟨k, g, d, hk, rfl, rfl, HO, hb⟩ := hrel
    by_cases hlt : k < n
    · have hki : (k : Int) < (n : Int) := by omega
      have HT := Lib.hid (HTK.out k (by rw [HN.out]; exact hlt))
      rw [HU.out k hlt] at HT
      have hia := HIA.out k k rfl hlt
      have hib := HIB.out k k rfl hlt
      have hxr := xor_byte (ub a k) (ub b k)
      generalize ub a k = x at hia hxr HT
      generalize ub b k = y at hib hxr HT
      obtain ⟨z, hz⟩ : ∃ z, x ^^^ y = z := ⟨_, rfl⟩
      rw [hz] at hxr HT
      have hzz := hb.size
      have hk64 : k ≤ 95 := by omega
      clear hz
      go_wp2_with fail
      have HOD : Hid (wr.drew.ownsRow w.heap.size 5 1 (.slice (some ⟨g, 0, none⟩) k d) k ((N.take k).map uv)) := HO
      have hbD := hb.drew
      refine wp_region_held_drew (S := fun _ => True) (by kernel_rfl) trivial (fun hHeld => ?_)
      refine wpAnyH_take (i := 0) (oi := ⟨some 14, _, _, _, _, _⟩) (v := ?_) rfl (by kernel_rfl) (by kernel_rfl) (by kernel_rfl) (fun _ _ _ h => h) (Or.inl ⟨by rfl, ?_⟩) (by assumption) ?_
      rotate_left
      · (intro w9 hSw; (try dsimp only at hSw); go_simp; try with_reducible rfl)
      try simp only [Act.put, List.setIfInBounds_toArray, List.set_cons_zero, List.set_cons_succ]
      refine wpAnyH_take (i := 1) (oi := ⟨some 15, _, _, _, _, _⟩) (v := ?_) rfl (by kernel_rfl) (by kernel_rfl) (by kernel_rfl) (fun _ _ _ h => h) (Or.inl ⟨by rfl, ?_⟩) (by assumption) ?_
      rotate_left
      · (intro w9 hSw; (try dsimp only at hSw); go_simp; try with_reducible rfl)
      try simp only [Act.put, List.setIfInBounds_toArray, List.set_cons_zero, List.set_cons_succ]
      refine wpAnyH_take (i := 2) (oi := ⟨some 16, _, _, _, _, _⟩) (v := ?_) rfl (by kernel_rfl) (by kernel_rfl) (by kernel_rfl) (fun _ _ _ h => h) (Or.inl ⟨by rfl, ?_⟩) (by assumption) ?_
      rotate_left
      · (intro w9 hSw; (try dsimp only at hSw); go_simp; try with_reducible rfl)
      try simp only [Act.put, List.setIfInBounds_toArray, List.set_cons_zero, List.set_cons_succ]
      refine wpAnyH_take (i := 3) (oi := ⟨some 17, _, _, _, _, _⟩) (v := uv x) rfl (by kernel_rfl) (by kernel_rfl) (by kernel_rfl) (fun _ _ _ h => h) (Or.inl ⟨by rfl, ?_⟩) (by assumption) ?_
      · (intro w9 hSw; (try dsimp only at hSw); go_simp)
      try simp only [Act.put, List.setIfInBounds_toArray, List.set_cons_zero, List.set_cons_succ]
      refine wpAnyH_take (i := 4) (oi := ⟨some 18, _, _, _, _, _⟩) (v := ?_) rfl (by kernel_rfl) (by kernel_rfl) (by kernel_rfl) (fun _ _ _ h => h) (Or.inl ⟨by rfl, ?_⟩) (by assumption) ?_
      rotate_left
      · (intro w9 hSw; (try dsimp only at hSw); go_simp; try with_reducible rfl)
      try simp only [Act.put, List.setIfInBounds_toArray, List.set_cons_zero, List.set_cons_succ]
      refine wpAnyH_take (i := 5) (oi := ⟨some 19, _, _, _, _, _⟩) (v := ?_) rfl (by kernel_rfl) (by kernel_rfl) (by kernel_rfl) (fun _ _ _ h => h) (Or.inl ⟨by rfl, ?_⟩) (by assumption) ?_
      rotate_left
      · (intro w9 hSw; (try dsimp only at hSw); go_simp; try with_reducible rfl)
      try simp only [Act.put, List.setIfInBounds_toArray, List.set_cons_zero, List.set_cons_succ]
      refine wpAnyH_take (i := 6) (oi := ⟨some 20, _, _, _, _, _⟩) (v := uv y) rfl (by kernel_rfl) (by kernel_rfl) (by kernel_rfl) (fun _ _ _ h => h) (Or.inl ⟨by rfl, ?_⟩) (by assumption) ?_
      · (intro w9 hSw; (try dsimp only at hSw); go_simp)
      try simp only [Act.put, List.setIfInBounds_toArray, List.set_cons_zero, List.set_cons_succ]
      refine wpAnyH_take (i := 7) (oi := ⟨some 21, _, _, _, _, _⟩) (v := uv z) rfl (by kernel_rfl) (by kernel_rfl) (by kernel_rfl) (fun _ _ _ h => h) (Or.inl ⟨by rfl, ?_⟩) (by assumption) ?_
      · (intro w9 hSw; (try dsimp only at hSw); go_simp)
      try simp only [Act.put, List.setIfInBounds_toArray, List.set_cons_zero, List.set_cons_succ]
      refine wpAnyH_ready (rs := [8]) (by kernel_rfl) (by simp) ?_
      refine AllReadyH.cons (o := ⟨some 22, _, _, _, _, _⟩) rfl (fun K9 hK9 => ?_) AllReadyH.nil
      go_simp
      refine hK9.out _ _ ?_ (fun hHeld => ?_)
      · trivial
      clear hK9 K9
      try simp only [Act.put, List.setIfInBounds_toArray, List.set_cons_zero, List.set_cons_succ]
      refine wpAnyH_ready (rs := [9]) (by kernel_rfl) (by simp) ?_
      refine AllReadyH.cons (o := ⟨some 23, _, _, _, _, _⟩) rfl (fun K9 hK9 => ?_) AllReadyH.nil
      refine step_append_lies _ (by rfl) _ _ _ (by rfl) w.heap.size 5 i0 (.int .u8 0) 1 1 Tryz.underlying64 hi hz0 hz1 hz2 rfl (by omega) (.slice (some ⟨g, 0, none⟩) k d) k ((N.take k).map uv) (by rfl) (own_alloc HOD.out (.cells #[uv z] 5)) ⟨wr.heap.size, 0, none⟩ 1 1 [uv z] (by rfl) rfl (World.news_of_block (cs := #[uv z]) (t := 5) (fr := (0, 0)) (heap_alloc_new wr.drew _)) (by simp [Value.oneCell']) (by omega) (by unfold maxLen; omega) (by omega) (by simp; omega) (wr.heap.size + 1) (by simp) ?_
      intro g1 c1 w3 hown3 hgrow hat hlt3
      simp only [Act.put, List.setIfInBounds_toArray, List.set_cons_zero, List.set_cons_succ]
      have hb3 : Below w.heap.size w w3 := (hbD.alloc hbD.size (.cells #[uv z] 5)).grown hgrow (by simp; omega) (fun r e => by cases e; exact (HOD.out.lt _ rfl).1)
      have HO3 := Lib.hid hown3
      clear hown3 hgrow hat hlt3
      refine hK9.out _ _ ?_ (fun hHeld => ?_)
      · trivial
      clear hK9 K9
      try simp only [Act.put, List.setIfInBounds_toArray, List.set_cons_zero, List.set_cons_succ]
      refine wpAnyH_take (i := 10) (oi := ⟨some 5, _, _, _, _, _⟩) (v := ?_) rfl (by kernel_rfl) (by kernel_rfl) (by kernel_rfl) (fun _ _ _ h => h) (Or.inl ⟨by rfl, ?_⟩) (by assumption) ?_
      rotate_left
      · (intro w9 hSw; (try dsimp only at hSw); go_simp; try with_reducible rfl)
      try simp only [Act.put, List.setIfInBounds_toArray, List.set_cons_zero, List.set_cons_succ]
      refine wpAnyH_done (by kernel_rfl) ?_ _
      go_wp2_with fail
      exact ⟨⟨k + 1, g1, c1, by omega, by go_num, rfl, Lib.hid (by rw [HT.out, List.map_append]; exact HO3.out), hb3⟩, by simp [intOf]; omega⟩
    · obtain rfl : k = n := by omega
      rw [List.take_of_length_le (by rw [HN.out]; exact Nat.le_refl _)] at HO
      have hcv := own_text (l := N) HO HN.out
      clear HO
      go_wp2
      go_ret
      exact ⟨rfl, hb⟩
end Go.Proofs.YtcecjoodlmpgnaaGreat
/- What products of texts come to; zeros; a row of bytes out of a text. Nothing of any law. -/
namespace Go.Proofs.YtcecjoodlmpgnaaGreat
open Go.RowKit

theorem mulL_comm (a b : List UInt8) : mulL b a = mulL a b := by unfold mulL; rw [gm_comm (bn_lt b) (bn_lt a)]
theorem mulL_assoc (a b c : List UInt8) : mulL a (mulL b c) = mulL (mulL a b) c := by
  unfold mulL
  rw [bn_nb (gm_lt _ (bn_lt b)), bn_nb (gm_lt _ (bn_lt a)), gm_assoc (bn_lt a) (bn_lt b) (bn_lt c)]
theorem nb_xor {x y : Nat} (hx : x < B128) (hy : y < B128) : nb (x ^^^ y) = xorL (nb x) (nb y) := by
  apply bn_inj (nb_len _) (by rw [xorL_len, nb_len])
  rw [bn_xorL (nb_len _), bn_nb hx, bn_nb hy, bn_nb (gxor_lt hx hy)]
theorem mulL_spread (a b c : List UInt8) (hb : b.length = 16) : mulL a (xorL b c) = xorL (mulL a b) (mulL a c) := by
  unfold mulL
  rw [bn_xorL hb, gm_spread, nb_xor (gm_lt _ (bn_lt a)) (gm_lt _ (bn_lt a))]
theorem bn_zeros : bn gzeros = 0 := by decide +kernel
theorem nb_zero : nb 0 = gzeros := by decide +kernel
theorem mulL_none {a b : List UInt8} (ha : a.length = 16) (hb : b.length = 16) : mulL a b = gzeros ↔ a = gzeros ∨ b = gzeros := by
  have h0 : ∀ {l : List UInt8}, l.length = 16 → bn l = 0 → l = gzeros := fun hl h => bn_inj hl rfl (by rw [h, bn_zeros])
  constructor
  · intro h
    have h1 : gm (bn a) (bn b) = 0 := by
      unfold mulL at h
      rw [← bn_nb (gm_lt (bn b) (bn_lt a)), h, bn_zeros]
    rcases gm_none (bn_lt a) (bn_lt b) h1 with h2 | h2
    · exact .inl (h0 ha h2)
    · exact .inr (h0 hb h2)
  · rintro (rfl | rfl)
    · unfold mulL; rw [bn_zeros, zero_gm, nb_zero]
    · unfold mulL; rw [bn_zeros, gm_zero, nb_zero]
theorem gmake (W : World) : (Instr.makeSlice 64 (.int .i64 16) (.int .i64 16)).run Tryz.prog W = .ok (.slice (some ⟨W.heap.size, 0, none⟩) 16 16) (W.alloc (.cells (gzeros.map uv).toArray 5)) := by
  obtain ⟨i0, hi, hz0, hz1, hz2⟩ := info_parts (show (Tryz.prog.info? 5).map (fun i => (i.zero, i.size, i.bytes)) = some (some (.int .u8 0), 1, 1) by kernel_rfl)
  have h := run_makeSlice (P := Tryz.prog) W 64 5 i0 (.int .u8 0) Tryz.underlying64 hi hz0 .i64 .i64 16 16 (by omega) (by omega) (by rw [hz1]; omega) (by rw [hz2]; omega) (by omega)
  rw [hz1] at h
  have e : madeCells (Value.int .u8 0).cells (Int.toNat 16 * 1) = (gzeros.map uv).toArray := by kernel_rfl
  rw [e] at h
  exact h

/-- A row of bytes that can be read and written. -/
def ART (w : World) (g : Nat) (L : List UInt8) : Prop := ∀ j, j < L.length → At w g j (uv (ub L j))
theorem frozen_of_block (W : World) (g : Nat) (cs : Array Value) (t : TypeId) (n m : Nat) (h : W.heap[g]? = some (.cells cs t (n, m))) (j : Nat) (hj : j < n) : W.frozen? ⟨g, j, none⟩ = false := by
  simp [World.frozen?, h]
  omega
theorem bytes_conv (l : List UInt8) (w : World) : ∃ (c : Nat) (wa : World), (convert 9 64 (.string ⟨l.toArray⟩)).run Tryz.prog w = .ok (.slice (some ⟨w.heap.size, 0, none⟩) l.length c) wa ∧ ART wa w.heap.size l ∧ Below w.heap.size w wa := by
  have h := run_bytes_of_string (P := Tryz.prog) w 9 64 5 ⟨l.toArray⟩ Tryz.underlying9 Tryz.underlying64 Tryz.underlying5
  rw [size_of] at h
  obtain ⟨c, hc⟩ : ∃ c, grownCap w l.length 0 5 = c := ⟨_, rfl⟩
  rw [hc] at h
  refine ⟨c, _, h, fun j hj => ?_, (Below.refl w.heap.size w).drew.trans (((Below.refl w.heap.size w.drew).alloc (Nat.le_refl _) _))⟩
  have hat : (bytesRow ⟨l.toArray⟩ c)[j]? = some (uv (ub l j)) := by
    rw [bytesRow_at ⟨l.toArray⟩ c j (by simpa using hj), ub_at hj]
    rfl
  have hsz : j < (bytesRow ⟨l.toArray⟩ c).size := (Array.getElem?_eq_some_iff.1 hat).1
  have hb := heap_alloc_new w.drew (.cells (bytesRow ⟨l.toArray⟩ c) 5 ((bytesRow ⟨l.toArray⟩ c).size, (bytesRow ⟨l.toArray⟩ c).size + 1))
  exact ⟨(cell_of_row _ _ _ _ _ _ hb).trans hat, frozen_of_block _ _ _ _ _ _ hb j hsz⟩
theorem ART.set_ {w : World} {g n k : Nat} {N M : List UInt8} (hn : N.length = n) (hm : M.length = n) (h : ART w g (cutL k N M)) (hk : k < n) : ART (w.setCell ⟨g, k, none⟩ (uv (ub N k))) g (cutL (k + 1) N M) := fun j hj => by
  rw [cutL_len hn hm (by omega)] at hj
  have hA := h j (by rw [cutL_len hn hm (by omega)]; exact hj)
  refine ⟨?_, by rw [World.frozen?_setCell]; exact hA.2⟩
  rw [ub_cutL hn hm (by omega) hj]
  by_cases e : j = k
  · subst e
    rw [if_pos (by omega)]
    exact World.cell?_setCell_same _ _ _ hA.1
  · have h2 := hA.1
    rw [ub_cutL hn hm (by omega) hj] at h2
    have e2 : (if j < k + 1 then ub N j else ub M j) = (if j < k then ub N j else ub M j) := by
      by_cases h3 : j < k
      · rw [if_pos h3, if_pos (by omega)]
      · rw [if_neg h3, if_neg (by omega)]
    rw [e2, ← h2]
    refine World.cell?_setCell_other _ _ _ _ ?_
    intro e9; cases e9; exact e rfl
theorem ART.later {w w' : World} {g : Nat} {L : List UInt8} (h : ART w g L) (hb : Below w.heap.size w w') : ART w' g L := fun j hj => (h j hj).later hb
theorem ART.text {w : World} {g n c : Nat} {L : List UInt8} (h : ART w g L) (hl : L.length = n) : (convert 64 9 (.slice (some ⟨g, 0, none⟩) n c)).run Tryz.prog w = .ok (.string ⟨L.toArray⟩) w := by
  subst hl
  refine run_convert_bytes_back (P := Tryz.prog) w 64 9 5 ⟨g, 0, none⟩ c L Tryz.underlying64 Tryz.underlying5 Tryz.underlying9 (fun j hj => ?_)
  rw [Addr.add_mid, Nat.zero_add, (h j hj).1, ub_at hj]

end Go.Proofs.YtcecjoodlmpgnaaGreat
/- The contracts of the reference's Blocks and Sum. -/
namespace Go.Proofs.YtcecjoodlmpgnaaGreat
open Go.RowKit

theorem blocksL_is (h t : List UInt8) (hh : h.length ≤ 80) (ht : t.length ≤ 80) : (blocksL h t).map sv = ((fillT h).map sv ++ (fillT t).map sv) ++ [sv (beL 8 (8 * h.length) ++ beL 8 (8 * t.length))] := by
  rw [be_of (by show _ < 18446744073709551616; omega) (by show _ < 18446744073709551616; omega)]
  simp [blocksL, blocksN, fillT, lenN]

set_option maxRecDepth 100000 in
set_option maxHeartbeats 4000000 in
theorem rblocks_any (h t : List UInt8) (w : World) (hh : h.length ≤ 80) (ht : t.length ≤ 80) :
    Calls Tryz.prog 79 #[.string ⟨h.toArray⟩, .string ⟨t.toArray⟩] w fun e w' => ∃ A c, e = .returned (.slice A (blocksN h t).length c) ∧ SR w' A (blocksL h t) ∧ Below w.heap.size w w' := by
  obtain ⟨i0, hi0, hz0, hz1, hz2⟩ := info_parts infoS
  have HBL := Lib.hid (blocksL_is h t hh ht)
  have HLN : Hid ((blocksN h t).length = (h.length + 15) / 16 + (t.length + 15) / 16 + 1) := Lib.hid (blocksN_len h t)
  have HLL : Hid ((blocksL h t).length = (blocksN h t).length) := Lib.hid (by simp [blocksL])
  have HF1 := Lib.hid (fun W => rfilled_any h h.length W rfl hh)
  have HF2 := Lib.hid (fun W => rfilled_any t t.length W rfl ht)
  have HT2L : Hid (((fillT t).map sv).length = (t.length + 15) / 16 * 1) := Lib.hid (by rw [List.length_map, fillT_len, Nat.mul_one])
  have HT2O : Hid (∀ u ∈ (fillT t).map sv, u.oneCell' = true) := Lib.hid (by
    intro u hu
    obtain ⟨x, _, rfl⟩ := List.mem_map.1 hu
    rfl)
  have HH1 := Lib.hid (fun W => high_any (8 * h.length) W (by omega))
  have HH2 := Lib.hid (fun W => high_any (8 * t.length) W (by omega))
  have HJ := Lib.hid (join_text (beL 8 (8 * h.length)) (beL 8 (8 * t.length)))
  have HBE : Hid ((beL 8 (8 * h.length)).length = 8 ∧ (beL 8 (8 * t.length)).length = 8) := Lib.hid ⟨beL_len _ _, beL_len _ _⟩
  have hsh := size_of h
  have hst := size_of t
  generalize (blocksN h t).length = n9 at HLN HLL ⊢
  generalize blocksL h t = BL at HBL HLL ⊢
  generalize (fillT h).map sv = T1 at HF1 HBL
  generalize (fillT t).map sv = T2 at HF2 HBL HT2L HT2O
  generalize beL 8 (8 * h.length) ++ beL 8 (8 * t.length) = LA at HJ HBL
  generalize beL 8 (8 * h.length) = E1 at HH1 HJ HBE
  generalize beL 8 (8 * t.length) = E2 at HH2 HJ HBE
  obtain ⟨n1, hn1⟩ : ∃ n, h.length = n := ⟨_, rfl⟩
  obtain ⟨n2, hn2⟩ : ∃ n, t.length = n := ⟨_, rfl⟩
  rw [hn1] at hsh HH1 HF1 HLN hh
  rw [hn2] at hst HH2 HF2 HLN HT2L ht
  obtain ⟨k1, hk1⟩ : ∃ k, (n1 + 15) / 16 = k := ⟨_, rfl⟩
  obtain ⟨k2, hk2⟩ : ∃ k, (n2 + 15) / 16 = k := ⟨_, rfl⟩
  have hk1b : k1 ≤ 5 := by omega
  have hk2b : k2 ≤ 5 := by omega
  rw [hk1] at HF1 HLN
  rw [hk2] at HF2 HLN HT2L
  obtain ⟨x1, hx1⟩ : ∃ x, 8 * n1 = x := ⟨_, rfl⟩
  obtain ⟨x2, hx2⟩ : ∃ x, 8 * n2 = x := ⟨_, rfl⟩
  rw [hx1] at HH1
  rw [hx2] at HH2
  have w1a : IntKind.u64.wrap (n1 : Int) = (n1 : Int) := by rw [IntKind.wrap_u64]; omega
  have w2a : IntKind.u64.wrap (n2 : Int) = (n2 : Int) := by rw [IntKind.wrap_u64]; omega
  have w1b : IntKind.u64.wrap (8 * (n1 : Int)) = (x1 : Int) := by rw [IntKind.wrap_u64]; omega
  have w2b : IntKind.u64.wrap (8 * (n2 : Int)) = (x2 : Int) := by rw [IntKind.wrap_u64]; omega
  clear hn1 hn2 hk1 hk2 hx1 hx2 hh ht
  go_enter Tryz.func79, Tryz.ntmps79
  go_wp2_with fail
  refine (HF1.out _).mono ?_
  rintro e wa ⟨g1, c1, rfl, ho1, hba⟩
  have HO1 := Lib.hid ho1
  have zA := hba.size
  clear ho1
  go_wp2_with fail
  refine (HF2.out _).mono ?_
  rintro e wb ⟨g2, c2, rfl, ho2, hbb⟩
  have HNW : Hid (∀ j u, T2[j]? = some u → wb.cell? ((⟨g2, 0, none⟩ : Addr).add j) = some u) := Lib.hid (by
    intro j u hu
    have hj := (List.getElem?_eq_some_iff.1 hu).1
    rw [HT2L.out] at hj
    rw [Addr.add_mid, Nat.zero_add, ho2.cellAt j hj]
    exact hu)
  have HO1b := Lib.hid (own_later HO1.out hbb)
  have zB := hbb.size
  have hB := bt hba hbb
  clear ho2 hba hbb HO1
  go_upto_region 3 with (at_builtin; refine wpList_append_own _ rfl _ _ 116 rfl w.heap.size 9 i0 (.string ⟨#[]⟩) 1 16 Tryz.underlying116 hi0 hz0 hz1 hz2 rfl (by decide) _ _ _ rfl HO1b.out ⟨g2, 0, none⟩ k2 c2 T2 rfl HT2L.out HNW.out HT2O.out (by unfold maxLen; omega) (by omega) (by omega) ?_; intro v3 w3 hown3 hgrow3 _)
  have hB3 : Below w.heap.size w w3 := hB.grown hgrow3 (by omega) (fun k e => by cases e; exact (HO1b.out.lt _ rfl).1)
  obtain ⟨A3, c3, rfl, _⟩ := own_form hown3
  have HO3 := Lib.hid hown3
  have z3 := hB3.size
  clear hown3 hgrow3 hB HO1b HNW
  go_wp2_with fail
  refine (HH1.out _).mono ?_
  rintro e w4 ⟨rfl, hb4⟩
  have HO4 := Lib.hid (own_later HO3.out hb4)
  have hB4 := bt hB3 hb4
  clear hb4 HO3 hB3
  go_wp2_with fail
  refine (HH2.out _).mono ?_
  rintro e w5 ⟨rfl, hb5⟩
  have HO5 := Lib.hid (own_later HO4.out hb5)
  have hB5 := bt hB4 hb5
  have z5 := hB5.size
  have hjj := HJ.out
  have hlen : ¬ 9223372036854775807 < E1.length + E2.length := by rw [HBE.out.1, HBE.out.2]; omega
  have hnews := news_new w5 [sv LA] 9
  clear hb5 HO4 hB4
  go_wp2_with (at_builtin; refine wpList_append_own _ rfl _ _ 116 rfl w.heap.size 9 i0 (.string ⟨#[]⟩) 1 16 Tryz.underlying116 hi0 hz0 hz1 hz2 rfl (by decide) _ _ _ rfl (own_alloc HO5.out _) ⟨w5.heap.size, 0, none⟩ 1 1 [sv LA] rfl rfl hnews (by simp [Value.oneCell']) (by unfold maxLen; omega) (by omega) (by simp; omega) ?_; intro v' w6 hown' hgrow _; obtain ⟨g6, c6, rfl⟩ := ownsRow_succ hown'; have hb6 : Below w.heap.size w w6 := (ba hB5 (.cells #[sv LA] 9)).grown hgrow (by simp; omega) (fun k e => (HO5.out.lt _ e).1); have HO6 := Lib.hid hown'; clear hown' hgrow)
  go_ret
  have h6 := HO6.out
  rw [← HBL.out] at h6
  have hn : n9 = k1 + k2 + 1 := HLN.out
  subst hn
  exact ⟨_, c6, rfl, own_SR' h6 HLL.out, hb6⟩

theorem sumN_pre (H : Nat) (l : List Nat) {k : Nat} (h : k < l.length) : sumN H (l.take (k + 1)) = gm (sumN H (l.take k) ^^^ l[k]) H := by
  rw [← List.take_append_getElem h, sumN_more]
theorem sum_step (hb h t : List UInt8) {k : Nat} (hk : k < (blocksN h t).length) (hlt : ∀ x ∈ blocksN h t, x < B128) :
    mulL (xorL (nb (sumN (bn hb) ((blocksN h t).take k))) ((blocksL h t).getD k [])) hb = nb (sumN (bn hb) ((blocksN h t).take (k + 1))) := by
  have hs : sumN (bn hb) ((blocksN h t).take k) < B128 := by
    rcases Nat.eq_zero_or_pos k with rfl | hp
    · rw [List.take_zero]; exact (by decide : (0 : Nat) < B128)
    · obtain ⟨j, rfl⟩ : ∃ j, k = j + 1 := ⟨k - 1, by omega⟩
      have hx := hlt _ (List.getElem_mem (l := blocksN h t) (n := j) (by omega))
      rw [sumN_pre _ _ (by omega)]
      refine gm_lt _ (gxor_lt ?_ hx)
      clear hx
      have key : ∀ m, m ≤ (blocksN h t).length → sumN (bn hb) ((blocksN h t).take m) < B128 := by
        intro m
        induction m with
        | zero => intro _; rw [List.take_zero]; exact (by decide : (0 : Nat) < B128)
        | succ m ih => intro hm; rw [sumN_pre _ _ (by omega)]; exact gm_lt _ (gxor_lt (ih (by omega)) (hlt _ (List.getElem_mem (by omega))))
      exact key j (by omega)
  have hg : (blocksL h t).getD k [] = nb ((blocksN h t)[k]) := by simp [blocksL, List.getD, hk]
  have hx := hlt _ (List.getElem_mem (l := blocksN h t) (n := k) hk)
  rw [hg, sumN_pre _ _ hk]
  unfold mulL
  rw [bn_xorL (nb_len _), bn_nb hs, bn_nb hx]
theorem blocksN_lt (h t : List UInt8) : ∀ x ∈ blocksN h t, x < B128 := by
  intro x hx
  unfold blocksN at hx
  rw [List.mem_append, List.mem_append] at hx
  rcases hx with (hx | hx) | hx
  · obtain ⟨i, _, rfl⟩ := List.mem_map.1 hx; exact bn_lt _
  · obtain ⟨i, _, rfl⟩ := List.mem_map.1 hx; exact bn_lt _
  · rw [List.mem_singleton.1 hx]; exact ofW_lt _ _

set_option maxRecDepth 100000 in
set_option maxHeartbeats 4000000 in
theorem rsum_any (hb h t : List UInt8) (w : World) (h16 : hb.length = 16) (hh : h.length ≤ 80) (ht : t.length ≤ 80) :
    Calls Tryz.prog 49 #[.string ⟨hb.toArray⟩, .string ⟨h.toArray⟩, .string ⟨t.toArray⟩] w fun e w' => e = .returned (.string ⟨(sumL hb h t).toArray⟩) ∧ Below w.heap.size w w' := by
  have HRB := Lib.hid (fun W => rblocks_any h t W hh ht)
  have HST := Lib.hid (fun k (hk : k < (blocksN h t).length) => sum_step hb h t hk (blocksN_lt h t))
  have HRM := Lib.hid (fun a W (ha : a.length = 16) => rMul_any a hb W ha h16)
  have HRX := Lib.hid (fun a b W (ha : a.length = 16) (hb' : b.length = 16) => grXor_any a b 16 W ha hb' (by omega))
  have HGL : Hid (∀ k, k < (blocksN h t).length → ((blocksL h t).getD k []).length = 16) := Lib.hid (fun k hk => by
    have : (blocksL h t).getD k [] = nb ((blocksN h t)[k]) := by simp [blocksL, List.getD, hk]
    rw [this, nb_len])
  have HE : Hid (nb (sumN (bn hb) ((blocksN h t).take (blocksN h t).length)) = sumL hb h t) := Lib.hid (by rw [List.take_length]; rfl)
  have H0 : Hid (nb (sumN (bn hb) ((blocksN h t).take 0)) = gzeros) := Lib.hid (by rw [List.take_zero]; exact nb_zero)
  have HN : Hid (∀ k, (nb (sumN (bn hb) ((blocksN h t).take k))).length = 16) := Lib.hid (fun _ => nb_len _)
  have HLL : Hid ((blocksL h t).length = (blocksN h t).length) := Lib.hid (by simp [blocksL])
  have hn20 : (blocksN h t).length ≤ 20 := by rw [blocksN_len]; omega
  obtain ⟨S, hS⟩ : ∃ S : Nat → List UInt8, ∀ k, nb (sumN (bn hb) ((blocksN h t).take k)) = S k := ⟨_, fun _ => rfl⟩
  simp only [hS] at HST HE H0 HN
  generalize sumL hb h t = E at HE ⊢
  generalize blocksL h t = BL at HRB HST HGL HLL
  generalize (blocksN h t).length = n at HRB HST HGL HLL HE hn20
  have hcz : ∀ W : World, (convert 64 9 (.slice (some ⟨W.heap.size, 0, none⟩) 16 16)).run Tryz.prog (W.alloc (.cells #[.int .u8 0, .int .u8 0, .int .u8 0, .int .u8 0, .int .u8 0, .int .u8 0, .int .u8 0, .int .u8 0, .int .u8 0, .int .u8 0, .int .u8 0, .int .u8 0, .int .u8 0, .int .u8 0, .int .u8 0, .int .u8 0] 5)) = .ok (.string ⟨gzeros.toArray⟩) (W.alloc (.cells #[.int .u8 0, .int .u8 0, .int .u8 0, .int .u8 0, .int .u8 0, .int .u8 0, .int .u8 0, .int .u8 0, .int .u8 0, .int .u8 0, .int .u8 0, .int .u8 0, .int .u8 0, .int .u8 0, .int .u8 0, .int .u8 0] 5)) := fun W => gtext_of (n := 16) (c := 16) (Blk.new W 5 (gzeros.map uv).toArray) rfl
  rw [← H0.out] at hcz
  have hz1 := hcz w
  have hbz := ba (Below.refl w.heap.size w) (.cells #[.int .u8 0, .int .u8 0, .int .u8 0, .int .u8 0, .int .u8 0, .int .u8 0, .int .u8 0, .int .u8 0, .int .u8 0, .int .u8 0, .int .u8 0, .int .u8 0, .int .u8 0, .int .u8 0, .int .u8 0, .int .u8 0] 5)
  clear hS hcz h16 hh ht
  go_enter Tryz.func49, Tryz.ntmps49
  go_wp2_with fail
  refine (HRB.out _).mono ?_
  rintro e wa ⟨A, c, rfl, hsr, hba⟩
  have HSR := Lib.hid hsr
  have hB := bt hbz hba
  clear hsr hba hbz hz1
  go_wp2_with fail
  go_loopw [7, 16] (fun ov iv wr => ∃ k : Nat, k ≤ n ∧ iv = .int .i64 k ∧ ov = .string ⟨(S k).toArray⟩ ∧ Hid (SR wr A BL) ∧ Below w.heap.size w wr) (fun _ iv _ => n - (intOf iv).toNat)
  case atStart => exact ⟨0, Nat.zero_le _, rfl, rfl, HSR, hB⟩
  case round =>
    clear HSR hB
    obtain ⟨k, hk, rfl, rfl, HSR, hB⟩ := hrel
    by_cases hlt : k < n
    · obtain ⟨g, off, rfl, c0⟩ := HSR.out k (by rw [HLL.out]; exact hlt)
      have hki : (k : Int) < (n : Int) := by omega
      have hk0 : (0 : Int) ≤ (k : Int) := by omega
      have HM := Lib.hid (HST.out k hlt)
      have HXR := Lib.hid (fun W => HRX.out (S k) (BL.getD k []) W (HN.out k) (HGL.out k hlt))
      rw [gxorA_is (HN.out k)] at HXR
      have HMR := Lib.hid (fun W => HRM.out (xorL (S k) (BL.getD k [])) W (by rw [xorL_len]; exact HN.out k))
      rw [HM.out] at HMR
      generalize xorL (S k) (BL.getD k []) = X at HXR HMR
      generalize BL.getD k [] = y at c0 HXR
      clear HM
      go_wp2_with fail
      refine (HXR.out _).mono ?_
      rintro e v1 ⟨rfl, hb1⟩
      have HS1 := Lib.hid (HSR.out.later hb1)
      have hB1 := bt hB hb1
      clear hb1 hB HSR
      go_wp2_with fail
      refine (HMR.out _).mono ?_
      rintro e v2 ⟨rfl, hb2⟩
      have HS2 := Lib.hid (HS1.out.later hb2)
      have hB2 := bt hB1 hb2
      clear hb2 hB1 HS1
      go_wp2_with fail
      exact ⟨⟨k + 1, by omega, by go_num, rfl, HS2, hB2⟩, by simp [intOf]; omega⟩
    · obtain rfl : k = n := by omega
      rw [HE.out]
      go_wp2
      go_ret
      exact ⟨rfl, hB⟩
end Go.Proofs.YtcecjoodlmpgnaaGreat
