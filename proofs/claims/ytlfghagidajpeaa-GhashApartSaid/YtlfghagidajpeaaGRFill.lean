/- The contract of the reference's filled. -/
import Derived.Test.YtlfghagidajpeaaGRHigh
namespace Go.Proofs.Ytlfghagidajpeaa
open Go.RowKit

def fillT (L : List UInt8) : List (List UInt8) := (fillC L).map nb
theorem fillT_len (L : List UInt8) : (fillT L).length = (L.length + 15) / 16 := by simp [fillT, fillC]
theorem fillT_take (L : List UInt8) {i : Nat} (h : i < (L.length + 15) / 16) : ((fillT L).take (i + 1)).map sv = ((fillT L).take i).map sv ++ [sv (nb (bn ((L.drop (16 * i)).take 16)))] := by
  have h1 : i < (fillT L).length := by rw [fillT_len]; exact h
  rw [← List.take_append_getElem h1, List.map_append]
  congr 2
  simp [fillT, fillC]
theorem ub_pad (L : List UInt8) (r j : Nat) : ub (L ++ List.replicate r 0) j = ub L j := by
  unfold ub
  by_cases h : j < L.length
  · simp [List.getD, List.getElem?_append_left h]
  · by_cases h2 : j < L.length + r
    · have : j - L.length < r := by omega
      simp [List.getD, h, List.getElem?_append_right (Nat.le_of_not_lt h), this]
    · simp [List.getD, List.getElem?_eq_none (l := L ++ List.replicate r 0) (i := j) (by simp; omega), List.getElem?_eq_none (l := L) (i := j) (by omega)]
theorem chunk_is (L : List UInt8) (r i K : Nat) (hK : (L ++ List.replicate r 0).length = 16 * K) (h : i < K) : ((L ++ List.replicate r 0).drop (16 * i)).take 16 = nb (bn ((L.drop (16 * i)).take 16)) := by
  refine list_ext (n := 16) (by rw [List.length_take, List.length_drop, hK]; omega) (nb_len _) fun j hj => ?_
  rw [nb_any _ hj, ub_take, if_pos hj, ub_take, if_pos hj, ub_drop, ub_drop, ub_pad]
theorem extract_part (s : List UInt8) (m k : Nat) : (⟨s.toArray⟩ : ByteArray).extract m (m + k) = ⟨((s.drop m).take k).toArray⟩ := by
  apply ByteArray.ext
  apply Array.toList_inj.1
  rw [Lib.extract_data]
  simp
def sizeV : Value → Nat
  | .string s => s.size
  | _ => 0

set_option maxRecDepth 100000 in
set_option maxHeartbeats 4000000 in
theorem rfilled_any (L : List UInt8) (n : Nat) (w : World) (hL : L.length = n) (hn : n ≤ 80) :
    Calls Try.prog 26 #[.string ⟨L.toArray⟩] w fun e w' => ∃ g c, e = .returned (.slice (some ⟨g, 0, none⟩) ((n + 15) / 16) c) ∧ w'.ownsRow w.heap.size 9 1 (.slice (some ⟨g, 0, none⟩) ((n + 15) / 16) c) ((n + 15) / 16) ((fillT L).map sv) ∧ Below w.heap.size w w' := by
  obtain ⟨i0, hi0, hz0, hz1, hz2⟩ := info_parts infoS
  have HJ := Lib.hid (fun s => join_text s [0])
  have HX := Lib.hid extract_part
  have HC := Lib.hid (chunk_is L)
  have HT := Lib.hid (fun i hi => fillT_take L (i := i) hi)
  have HFL := Lib.hid (fillT_len L)
  have HL := Lib.hid hL
  rw [hL] at HT HFL
  obtain ⟨K, hK⟩ : ∃ K, (n + 15) / 16 = K := ⟨_, rfl⟩
  rw [hK] at HT HFL ⊢
  have HK := Lib.hid hK
  have hK5 : K ≤ 5 := by omega
  have HP0 : Hid (L ++ List.replicate 0 0 = L) := Lib.hid (by simp)
  have HPR : Hid (∀ r, L ++ List.replicate (r + 1) 0 = (L ++ List.replicate r 0) ++ [0]) := Lib.hid (fun r => by rw [List.replicate_succ', List.append_assoc])
  have HPL : Hid (∀ r, (L ++ List.replicate r 0).length = n + r) := Lib.hid (fun r => by simp [hL])
  generalize fillT L = F at HT HFL ⊢
  obtain ⟨P, hP⟩ : ∃ P : Nat → List UInt8, ∀ r, L ++ List.replicate r 0 = P r := ⟨fun r => L ++ List.replicate r 0, fun _ => rfl⟩
  simp only [hP] at HC HP0 HPR HPL
  rw [← HP0.out]
  clear hP hK hL
  go_enter Try.func26, Try.ntmps26
  go_wp2_with fail
  go_loopw [0] (fun sv0 wr => ∃ r : Nat, Hid (n + r ≤ 16 * K) ∧ sv0 = .string ⟨(P r).toArray⟩ ∧ Below w.heap.size w wr) (fun sv0 _ => 100 - sizeV sv0)
  case atStart => exact ⟨0, Lib.hid (by have := HK.out; omega), rfl, Below.refl _ _⟩
  case round =>
    obtain ⟨r, HR, rfl, hb⟩ := hrel
    have hsz := size_of (P r)
    rw [HPL.out r] at hsz
    obtain ⟨m, hm⟩ : ∃ m, n + r = m := ⟨_, rfl⟩
    have HMM := Lib.hid hm
    have hm80 : m ≤ 80 := by have := HR.out; omega
    rw [hm] at hsz
    by_cases hz : m % 16 = 0
    · have hmz1 : ((m : Int) % 16) = 0 := by omega
      have hmK : m = 16 * K := by have h1 := HR.out; have h2 := HK.out; omega
      have HMK := Lib.hid hmK
      have HCC : Hid (∀ i, i < K → ((P r).drop (16 * i)).take 16 = nb (bn ((L.drop (16 * i)).take 16))) := Lib.hid (fun i hi => HC.out r i K (by rw [HPL.out r, HMM.out]; exact hmK) hi)
      generalize P r = T at hsz HCC ⊢
      have hbz := ba hb (.cells #[] 9)
      have HO0 : Hid ((wr.alloc (.cells #[] 9)).ownsRow w.heap.size 9 1 (.slice (some ⟨wr.heap.size, 0, none⟩) 0 0) 0 ((F.take 0).map sv)) := Lib.hid (gown_nil (Blk.new wr _ _) hb.size)
      clear hm hz hmK
      go_wp2_with fail
      try rw [hmz1]
      clear hmz1
      go_loopw [3, 4] (fun ov iv wr => ∃ j g c : Nat, j ≤ K ∧ iv = .int .i64 ((16 * j : Nat) : Int) ∧ ov = .slice (some ⟨g, 0, none⟩) j c ∧ Hid (wr.ownsRow w.heap.size 9 1 (.slice (some ⟨g, 0, none⟩) j c) j ((F.take j).map sv)) ∧ Below w.heap.size w wr) (fun _ iv _ => 100 - (intOf iv).toNat)
      case atStart => exact ⟨0, wr.heap.size, 0, Nat.zero_le _, rfl, rfl, HO0, hbz⟩
      case round =>
        clear HO0 hbz
        obtain ⟨j, g, c, hj, rfl, rfl, HO, hbx⟩ := hrel
        by_cases hlt : j < K
        · have HTJ := Lib.hid (HT.out j hlt)
          have hxx := HX.out T (16 * j) 16
          rw [HCC.out j hlt] at hxx
          generalize nb (bn ((L.drop (16 * j)).take 16)) = y at HTJ hxx
          obtain ⟨q, hq⟩ : ∃ q, 16 * j = q := ⟨_, rfl⟩
          have HQ := Lib.hid hq
          rw [hq] at hxx ⊢
          have hmk := HMK.out
          have hq1 : (q : Int) < (m : Int) := by omega
          obtain ⟨q2, hq2⟩ : ∃ q2, q + 16 = q2 := ⟨_, rfl⟩
          rw [hq2] at hxx
          have hqw : IntKind.i64.wrap ((q : Int) + 16) = (q2 : Int) := by have h64 := IntKind.wrap_i64; rw [h64]; omega
          have hq3 : (q2 : Int) ≤ (m : Int) := by omega
          have hq6 : (q : Int) ≤ (q2 : Int) := by omega
          have hq7 : q ≤ q2 := by omega
          have hq8 : q2 ≤ m := by omega
          have hz9 := hbx.size
          have hnews := news_new wr [sv y] 9
          have HQ2 : Hid (q2 = 16 * (j + 1)) := Lib.hid (by omega)
          have hj5 : j ≤ 5 := by omega
          have HQM : Hid (100 - q2 < 100 - q) := Lib.hid (by omega)
          clear hq hq2 hmk
          go_wp2_with (at_builtin; refine wpList_append_own _ rfl _ _ 31 rfl w.heap.size 9 i0 (.string ⟨#[]⟩) 1 16 Try.underlying31 hi0 hz0 hz1 hz2 rfl (by decide) _ _ _ rfl (own_alloc HO.out _) ⟨wr.heap.size, 0, none⟩ 1 1 [sv y] rfl rfl hnews (by simp [Value.oneCell']) (by unfold maxLen; omega) (by omega) (by simp; omega) ?_; intro v' w6 hown' hgrow _; obtain ⟨g1, c1, rfl⟩ := ownsRow_succ hown'; have hb6 : Below w.heap.size w w6 := (ba hbx (.cells #[sv y] 9)).grown hgrow (by simp; omega) (fun k e => by cases e; exact (HO.out.lt _ rfl).1); have HO6 := Lib.hid hown'; clear hown' hgrow)
          exact ⟨⟨j + 1, g1, c1, by omega, by rw [← HQ2.out], rfl, Lib.hid (by rw [HTJ.out]; exact HO6.out), hb6⟩, by simpa [intOf] using HQM.out⟩
        · obtain rfl : j = K := by omega
          have hO := HO.out
          rw [List.take_of_length_le (by rw [HFL.out]; exact Nat.le_refl _)] at hO
          have HOF := Lib.hid hO
          have hl1 : ¬ (((16 * j : Nat) : Int) < (m : Int)) := by have := HMK.out; omega
          have hl2 : ¬ (16 * (j : Int) < (m : Int)) := by have := HMK.out; omega
          clear hO HO hlt hj
          go_wp2
          go_ret
          exact ⟨g, c, rfl, HOF.out, hbx⟩
    · have hmz1 : ((m : Int) % 16 == 0) = false := by simp; omega
      have hz2' : ((m : Int) % 16 != 0) = true := by simp; omega
      have hz3 : ¬ (m : Int) % 16 = 0 := by omega
      have hob : (convert 35 9 (.slice (some ⟨wr.heap.size, 0, none⟩) 1 1)).run Try.prog (wr.alloc (.cells #[.int .u8 0] 5)) = .ok (.string ⟨#[0]⟩) (wr.alloc (.cells #[.int .u8 0] 5)) := one_byte 0 wr
      have hjn := HJ.out (P r)
      rw [← HPR.out r] at hjn
      have hjn2 : (⟨(P r).toArray⟩ : ByteArray) ++ ⟨#[0]⟩ = ⟨(P (r + 1)).toArray⟩ := hjn
      clear hjn
      have hlen : ¬ 9223372036854775807 < (P r).length + 1 := by rw [HPL.out r]; omega
      have HR2 : Hid (n + (r + 1) ≤ 16 * K) := Lib.hid (by have h1 := HR.out; have h2 := HK.out; omega)
      have HB2 := Lib.hid (ba hb (.cells #[.int .u8 0] 5))
      have HSZ : Hid (100 - sizeV (.string ⟨(P (r + 1)).toArray⟩) < 100 - sizeV (.string ⟨(P r).toArray⟩)) := Lib.hid (by
        show 100 - (⟨(P (r + 1)).toArray⟩ : ByteArray).size < 100 - (⟨(P r).toArray⟩ : ByteArray).size
        rw [size_of, size_of, HPL.out, HPL.out]
        omega)
      clear hm hz
      go_wp2_with fail
      exact ⟨⟨r + 1, HR2, rfl, HB2.out⟩, HSZ.out⟩
end Go.Proofs.Ytlfghagidajpeaa
