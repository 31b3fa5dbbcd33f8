/- The contracts of keysOf and its closure. -/
import Derived.Test.YtilcondnpoinkaaMFit
import Derived.Test.YtilcondnpoinkaaMRef
namespace Go.Proofs.Ytilcondnpoinkaa
open Go.RowKit

/-- A key's bytes, of which the first are xor-ed. -/
def xlist (K : List UInt8) (c : UInt8) (k : Nat) : List UInt8 := withL (K.take k) c ++ K.drop k
def xrow (K : List UInt8) (c : UInt8) (k : Nat) : Array Value := (Lib.byteCells (xlist K c k)).toArray
theorem xlist_len (K : List UInt8) (c : UInt8) (k : Nat) : (xlist K c k).length = K.length := by simp [xlist, withL]; omega
theorem xlist_all (K : List UInt8) (c : UInt8) : xlist K c K.length = withL K c := by simp [xlist]
theorem xrow_set (K : List UInt8) (c : UInt8) (k : Nat) (h : k < K.length) : (xrow K c k).setIfInBounds k (.int .u8 ((K.getD k 0 ^^^ c).toNat : Int)) = xrow K c (k + 1) := by
  unfold xrow xlist
  rw [withL_take K c k h]
  obtain ⟨x, r, hx⟩ : ∃ x r, K.drop k = x :: r := ⟨_, _, List.drop_eq_getElem_cons h⟩
  have hr : K.drop (k + 1) = r := by rw [← List.tail_drop, hx]; rfl
  have hl : (withL (K.take k) c).length = k := by rw [withL_len, List.length_take]; omega
  rw [hx, hr]
  generalize withL (K.take k) c = A at hl
  subst hl
  simp [Lib.byteCells]
theorem xrow_at (K : List UInt8) (c : UInt8) (k : Nat) (h : k < K.length) : (xrow K c k)[k]? = some (.int .u8 ((K.getD k 0).toNat : Int)) := by
  unfold xrow xlist
  have hl : (withL (K.take k) c).length = k := by rw [withL_len, List.length_take]; omega
  have hd : K.drop k = K.getD k 0 :: K.drop (k + 1) := by rw [List.drop_eq_getElem_cons h]; simp [List.getD, h]
  rw [hd]
  generalize withL (K.take k) c = A at hl
  subst hl
  simp [Lib.byteCells]

set_option maxRecDepth 100000 in
set_option maxHeartbeats 2000000 in
theorem masked_any (K : List UInt8) (c : UInt8) (b : Nat) (w : World) (hK : K.length = 64) (h : Blk w b 58 (Lib.byteCells K).toArray) :
    Calls Try.prog 37 #[.int .u8 (c.toNat : Int), .pointer (some ⟨b, 0, none⟩)] w fun e w' => e = .returned (.string ⟨(withL K c).toArray⟩) ∧ Below w.heap.size w w' := by
  have HB := Lib.hid h
  have HKL := Lib.hid hK
  have HFL : Hid ((Lib.byteCells K).length = 64) := Lib.hid (by simp [Lib.byteCells, hK])
  have HONE := Lib.hid (bytes_one K)
  have HX0 : Hid ((Lib.byteCells K).toArray = xrow K c 0) := Lib.hid (by simp [xrow, xlist, withL])
  have z0 := h.lt
  have HZS : Hid ((frow []).size = 64) := Lib.hid (frow_size [] (by simp))
  obtain ⟨F, hF⟩ : ∃ F, Lib.byteCells K = F := ⟨_, rfl⟩
  rw [hF] at HB HFL HONE HX0
  clear h hK hF
  go_enter Try.func37, Try.ntmps37
  have HZ := Lib.hid (Blk.new w 58 (frow []))
  go_wp2_with (first | (refine wpList_load_row rfl _ _ rfl _ rfl _ _ _ _ HB.out Try.underlying58 rfl (by rw [List.size_toArray, HFL.out]; kernel_rfl) ?_) | (refine wpList_store_mid rfl _ _ _ rfl _ _ F.toArray rfl rfl (HZ.out.there (by rw [List.size_toArray, HFL.out, HZS.out]; exact Nat.le_refl _)) (by rw [List.size_toArray, HFL.out]; kernel_rfl) (all_oneCell_toArray HONE.out) ?_))
  generalize hw2 : World.setCells (World.alloc w (Obj.cells _ 58)) w.heap.size 0 F = w2
  have S2 : Hid (Blk w2 w.heap.size 58 F.toArray) := Lib.hid (by rw [← hw2]; exact HZ.out.whole F (by rw [HFL.out, HZS.out]))
  have hB2 : Below w.heap.size w w2 := by rw [← hw2]; exact bw (ba (Below.refl _ _) _) (Nat.le_refl _) _ _
  rw [HX0.out] at S2
  clear hw2 HZ HZS HFL HONE HX0 HB
  go_loopw [7] (fun iv wr => ∃ k : Nat, k ≤ 64 ∧ iv = .int .i64 k ∧ Blk wr w.heap.size 58 (xrow K c k) ∧ Below w.heap.size w wr) (fun i _ => 64 - (intOf i).toNat)
  case atStart => exact ⟨0, Nat.zero_le _, rfl, S2.out, hB2⟩
  case round =>
    clear S2 hB2
    obtain ⟨k, hk, rfl, hx, hb⟩ := hrel
    by_cases hlt : k < 64
    · have c0 := (hx.cell k).trans (xrow_at K c k (by rw [HKL.out]; exact hlt))
      have f0 := hx.frozen k
      have HS := Lib.hid (xrow_set K c k (by rw [HKL.out]; exact hlt))
      obtain ⟨x, hxx⟩ : ∃ x, K.getD k 0 = x := ⟨_, rfl⟩
      rw [hxx] at c0 HS
      have hxr := xor_byte x c
      obtain ⟨y, hy⟩ : ∃ y, x ^^^ c = y := ⟨_, rfl⟩
      rw [hy] at hxr HS
      clear hxx hy
      have i1 : (0 : Int) ≤ (k : Int) := by omega
      have i2 : (k : Int) < 64 := by omega
      have HX := Lib.hid hx
      clear hx
      go_wp2
      exact ⟨⟨k + 1, by omega, by go_num, by have := HX.out.set_ k (.int .u8 (y.toNat : Int)); rw [HS.out] at this; exact this, bs hb (Nat.le_refl _) _⟩, by simp [intOf]; omega⟩
    · obtain rfl : k = 64 := by omega
      have hall := xlist_all K c
      rw [HKL.out] at hall
      have hwl : (withL K c).length = 64 := by rw [withL_len, HKL.out]
      unfold xrow at hx
      rw [hall] at hx
      have hcv := run_convert_bytes_back (P := Try.prog) wr 60 9 5 ⟨w.heap.size, 0, none⟩ 64 (withL K c) Try.underlying60 Try.underlying5 Try.underlying9 (fun j hj => by
        rw [Addr.add_mid, Nat.zero_add, hx.cell j]
        simp [Lib.byteCells, hj])
      rw [hwl] at hcv
      clear hx hall
      go_wp2
      go_ret
      exact ⟨rfl, hb⟩

set_option maxRecDepth 100000 in
set_option maxHeartbeats 2000000 in
theorem keysOf_any (key : List UInt8) (w : World) (hk : key.length ≤ 60000) :
    Calls Try.prog 26 #[.string ⟨key.toArray⟩] w fun e w' => e = .returned (.agg #[.string ⟨(innL key).toArray⟩, .string ⟨(outL key).toArray⟩]) ∧ Below w.heap.size w w' := by
  have HF : Hid (∀ W, Calls Try.prog 36 #[.string ⟨key.toArray⟩] W fun e w' => e = .returned (.agg (Lib.byteCells (fitL key)).toArray) ∧ Below W.heap.size W w') := Lib.hid fun W => fitted_any key W hk
  have HFL : Hid ((Lib.byteCells (fitL key)).length = 64) := Lib.hid (by simp [Lib.byteCells, fitL_len])
  have HONE := Lib.hid (bytes_one (fitL key))
  have HM : Hid (∀ (c : UInt8) (b : Nat) (W : World), Blk W b 58 (Lib.byteCells (fitL key)).toArray → Calls Try.prog 37 #[.int .u8 (c.toNat : Int), .pointer (some ⟨b, 0, none⟩)] W fun e w' => e = .returned (.string ⟨(withL (fitL key) c).toArray⟩) ∧ Below W.heap.size W w') := Lib.hid fun c b W h => masked_any (fitL key) c b W (fitL_len key) h
  have HZS : Hid ((frow []).size = 64) := Lib.hid (frow_size [] (by simp))
  have HI : Hid (innL key = withL (fitL key) 54) := Lib.hid rfl
  have HO : Hid (outL key = withL (fitL key) 92) := Lib.hid rfl
  obtain ⟨F, hF⟩ : ∃ F, Lib.byteCells (fitL key) = F := ⟨_, rfl⟩
  rw [hF] at HF HFL HONE HM
  clear hF
  rw [HI.out, HO.out]
  clear HI HO
  have R0 := Lib.hid (Blk.new w 49 #[.string ⟨#[]⟩, .string ⟨#[]⟩])
  go_enter Try.func26, Try.ntmps26
  go_wp2_with fail
  refine (HF.out _).mono ?_
  rintro e w1 ⟨rfl, hb1⟩
  have R1 := Lib.hid (R0.out.below hb1)
  have hB1 := bt (ba (Below.refl w.heap.size w) (.cells #[.string ⟨#[]⟩, .string ⟨#[]⟩] 49)) hb1
  have n1 := R1.out.lt
  clear R0 hb1
  have HZ := Lib.hid (Blk.new w1 58 (frow []))
  go_wp2_with (refine wpList_store_mid rfl _ _ _ rfl _ _ F.toArray rfl rfl (HZ.out.there (by rw [List.size_toArray, HFL.out, HZS.out]; exact Nat.le_refl _)) (by rw [List.size_toArray, HFL.out]; kernel_rfl) (all_oneCell_toArray HONE.out) ?_)
  generalize hw2 : World.setCells (World.alloc w1 (Obj.cells _ 58)) w1.heap.size 0 F = w2
  have S2 : Hid (Blk w2 w1.heap.size 58 F.toArray) := Lib.hid (by rw [← hw2]; exact HZ.out.whole F (by rw [HFL.out, HZS.out]))
  have R2 : Hid (Blk w2 w.heap.size 49 #[.string ⟨#[]⟩, .string ⟨#[]⟩]) := Lib.hid (by rw [← hw2]; exact (R1.out.alloc _).far_ (by omega) _ _)
  have hB2 : Below w.heap.size w w2 := by rw [← hw2]; exact bw (ba hB1 _) (by omega) _ _
  obtain ⟨b, hbb⟩ : ∃ b, w1.heap.size = b := ⟨_, rfl⟩
  rw [hbb] at S2 ⊢
  clear hw2 HZ HZS HFL HONE R1 hB1 n1 hbb w1
  go_wp2_with fail
  refine (HM.out 54 b w2 S2.out).mono ?_
  rintro e w3 ⟨rfl, hb3⟩
  have S3 := Lib.hid (S2.out.below hb3)
  have R3 := Lib.hid (R2.out.below hb3)
  have hB3 := bt hB2 hb3
  clear S2 R2 hB2 hb3
  go_wp2_with fail
  refine (HM.out 92 b w3 S3.out).mono ?_
  rintro e w4 ⟨rfl, hb4⟩
  have R4 := R3.out.below hb4
  have hB4 := bt hB3 hb4
  clear S3 R3 hB3 hb4
  have c0 := R4.at_ (i := 0) rfl
  have c1 := R4.at_ (i := 1) rfl
  obtain ⟨c0, f0⟩ := c0
  obtain ⟨c1, f1⟩ := c1
  have hW : Blk ((w4.setCell ⟨w.heap.size, 0, none⟩ (.string ⟨(withL (fitL key) 54).toArray⟩)).setCell ⟨w.heap.size, 1, none⟩ (.string ⟨(withL (fitL key) 92).toArray⟩)) w.heap.size 49 #[.string ⟨(withL (fitL key) 54).toArray⟩, .string ⟨(withL (fitL key) 92).toArray⟩] := (R4.set_ 0 _).set_ 1 _
  have HW := Lib.hid hW
  clear R4 hW
  go_wp2_with fail
  refine bodyPost_ret (v := .agg #[.string ⟨(withL (fitL key) 54).toArray⟩, .string ⟨(withL (fitL key) 92).toArray⟩]) (results_cell_row rfl _ _ _ _ _ _ _ rfl HW.out Try.underlying49 rfl (by kernel_rfl)) rfl ⟨rfl, bs (bs hB4 (Nat.le_refl _) _) (Nat.le_refl _) _⟩
end Go.Proofs.Ytilcondnpoinkaa
