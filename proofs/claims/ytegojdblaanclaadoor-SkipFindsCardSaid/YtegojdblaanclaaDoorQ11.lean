/- Texts of this seat, one behind the other: MRef, MKeys, MJoined, MTag, Base0, TKeys, VHeight, VHeights. -/
import Derived.Deep.CutRange
import Derived.Deep.RegionHeld3
import Derived.Laws.BitsLemmas
import Derived.Lib.Strings
import Derived.Below
import Derived.Sort.Walk0
import Derived.ProofKit
import Derived.Lib.SmallJoins
import Derived.Deep.Slices
import Derived.Deep.Fields
import Derived.ChangeSame
import Derived.ChangeMaps5
import Derived.ChangeArms
import Derived.Test.YtegojdblaanclaaDoorQ01
import Derived.Test.YtegojdblaanclaaDoorQ03
import Derived.Test.YtegojdblaanclaaDoorQ04
import Derived.Test.YtegojdblaanclaaDoorQ05
import Derived.Test.YtegojdblaanclaaDoorQ09
import Derived.Test.YtegojdblaanclaaDoorQ10
/- The contracts of the reference's with, fitted and Tag, and of joined. -/
namespace Go.Proofs.YtegojdblaanclaaDoor
open Go.RowKit

theorem withL_take (l : List UInt8) (c : UInt8) (k : Nat) (h : k < l.length) : withL (l.take (k + 1)) c = withL (l.take k) c ++ [l.getD k 0 ^^^ c] := by
  unfold withL
  rw [List.take_succ_eq_append_getElem h, List.map_append]
  simp [List.getD, h]

set_option maxRecDepth 100000 in
set_option maxHeartbeats 1000000 in
theorem rwith_any (l : List UInt8) (c : UInt8) (w : World) (hl : l.length ≤ 1048576) :
    Calls Tryd.prog 57 #[.string ⟨l.toArray⟩, .int .u8 (c.toNat : Int)] w fun e w' => e = .returned (.string ⟨(withL l c).toArray⟩) ∧ Below w.heap.size w w' := by
  have hz := size_of l
  obtain ⟨n, hn⟩ : ∃ n, l.length = n := ⟨_, rfl⟩
  rw [hn] at hz hl
  have HN := Lib.hid hn
  clear hn
  go_enter Tryd.func57, Tryd.ntmps57
  go_wp2
  go_loopw [5, 6] (fun ov iv wr => ∃ k : Nat, k ≤ n ∧ iv = .int .i64 k ∧ ov = .string ⟨(withL (l.take k) c).toArray⟩ ∧ Below w.heap.size w wr) (fun _ i _ => n - (intOf i).toNat)
  case atStart => exact ⟨0, Nat.zero_le _, rfl, rfl, Below.refl _ _⟩
  case round =>
    obtain ⟨k, hk, rfl, rfl, hb⟩ := hrel
    by_cases hlt : k < n
    · have HT := Lib.hid (withL_take l c k (by rw [HN.out]; exact hlt))
      have hix := at_get l k (by rw [HN.out]; exact hlt)
      obtain ⟨x, hx⟩ : ∃ x, l.getD k 0 = x := ⟨_, rfl⟩
      rw [hx] at HT hix
      have hix2 := index_is ⟨l.toArray⟩ k k x rfl hix
      have hxr := xor_byte x c
      obtain ⟨y, hy⟩ : ∃ y, x ^^^ c = y := ⟨_, rfl⟩
      rw [hy] at HT hxr
      have hcv := one_byte y
      have hwl : (withL (l.take k) c).length ≤ 1048576 := by rw [withL_len, List.length_take]; omega
      have hadd : ∀ W : World, (Op.stringOp .add ⟨(withL (l.take k) c).toArray⟩ ⟨[y].toArray⟩).run Tryd.prog W = .ok (.string ⟨(withL (l.take k) c ++ [y]).toArray⟩) W := fun W => run_string_add_lists (P := Tryd.prog) W _ _ (by omega) (by simp)
      clear hix hx hy hwl
      have i1 : (0 : Int) ≤ (k : Int) := by omega
      have i2 : (k : Int) < (n : Int) := by omega
      go_wp2
      exact ⟨⟨k + 1, by omega, by go_num, by rw [HT.out], ba hb _⟩, by simp [intOf]; omega⟩
    · obtain rfl : k = n := by omega
      have htk : l.take k = l := List.take_of_length_le (by rw [HN.out]; exact Nat.le_refl _)
      rw [htk]
      clear htk
      go_wp2
      go_ret
      exact ⟨rfl, hb⟩

set_option maxRecDepth 100000 in
set_option maxHeartbeats 1000000 in
theorem rfitted_any (key : List UInt8) (w : World) (hk : key.length ≤ 60000) :
    Calls Tryd.prog 55 #[.string ⟨key.toArray⟩] w fun e w' => e = .returned (.string ⟨(fitL key).toArray⟩) ∧ Below w.heap.size w w' := by
  have hz := size_of key
  have tail : ∀ (h : List UInt8) (wo : World) (kv : Value), h.length ≤ 64 → True := fun _ _ _ _ => trivial
  clear tail
  have HR := Lib.hid (fun W => hrsum_any rwords_holds key W (by omega))
  have HS := Lib.hid (hsumL_len key)
  have HF : Hid (fitL key = headL key ++ List.replicate (64 - (headL key).length) 0) := Lib.hid rfl
  have HH : Hid ((key.length ≤ 64 → headL key = key) ∧ (¬ key.length ≤ 64 → headL key = hsumL key)) := Lib.hid ⟨fun h => by unfold headL; rw [if_pos h], fun h => by unfold headL; rw [if_neg h]⟩
  have HL := Lib.hid (headL_len key)
  obtain ⟨n, hn⟩ : ∃ n, key.length = n := ⟨_, rfl⟩
  rw [hn] at hz hk HH
  generalize fitL key = F at HF ⊢
  generalize headL key = h at HF HH HL
  generalize hsumL key = S at HR HS HH
  obtain ⟨m, hm⟩ : ∃ m, h.length = m := ⟨_, rfl⟩
  rw [hm] at HF HL
  have HM := Lib.hid hm
  clear hm hn
  go_enter Tryd.func55, Tryd.ntmps55
  go_upto_if 5 with fail
  go_cut [0] from 3 to 7 (fun s0 wx => s0 = .string ⟨h.toArray⟩ ∧ Below w.heap.size w wx)
  case first =>
    by_cases hle : n ≤ 64
    · have hh := HH.out.1 hle
      have hi : ¬ (64 : Int) < (n : Int) := by omega
      go_wp2_with fail
      go_meet
      exact ⟨by rw [hh], Below.refl _ _⟩
    · have hh := HH.out.2 hle
      have hi : (64 : Int) < (n : Int) := by omega
      go_wp2_with fail
      refine (HR.out _).mono ?_
      rintro e w1 ⟨rfl, hb1⟩
      go_wp2_with fail
      go_meet
      exact ⟨by rw [hh], hb1⟩
  case rest =>
    obtain ⟨rfl, hbc⟩ := hcut
    clear hz
    go_wp2_with fail
    go_loopw [0] (fun ov wr => ∃ k : Nat, k ≤ 64 - m ∧ ov = .string ⟨(h ++ List.replicate k 0).toArray⟩ ∧ Below w.heap.size w wr) (fun o _ => match o with | .string x => 64 - x.size | _ => 0)
    case atStart => exact ⟨0, Nat.zero_le _, by simp, hbc⟩
    case round =>
      obtain ⟨k, hk, rfl, hb⟩ := hrel
      obtain ⟨S, hS⟩ : ∃ S, h ++ List.replicate k 0 = S := ⟨_, rfl⟩
      have hl : S.length = m + k := by rw [← hS, ← HM.out]; simp
      have hsz := size_of S
      rw [hl] at hsz
      have hS1 : h ++ List.replicate (k + 1) 0 = S ++ [0] := by rw [← hS, List.replicate_succ']; simp
      rw [hS]
      have hl64 := HL.out
      by_cases hlt : k < 64 - m
      · have hi : (m : Int) + (k : Int) < 64 := by omega
        have hadd2 : ∀ W : World, (Op.stringOp .add ⟨S.toArray⟩ ⟨[0].toArray⟩).run Tryd.prog W = .ok (.string ⟨(S ++ [0]).toArray⟩) W := fun W => run_string_add_lists (P := Tryd.prog) W S [0] (by omega) (by simp)
        have hcz : ∀ W : World, (convert 73 9 (.slice (some ⟨W.heap.size, 0, none⟩) 1 1)).run Tryd.prog (W.alloc (.cells #[.int .u8 0] 5)) = .ok (.string ⟨[0].toArray⟩) (W.alloc (.cells #[.int .u8 0] 5)) := fun W => one_byte 0 W
        have HS1 := Lib.hid hS1
        have HLE := Lib.hid hl
        clear hS1 hS hl
        go_wp2
        refine ⟨⟨k + 1, by omega, by rw [HS1.out], ba hb _⟩, ?_⟩
        show 64 - (⟨(S ++ [0]).toArray⟩ : ByteArray).size < 64 - (⟨S.toArray⟩ : ByteArray).size
        rw [size_of, size_of, List.length_append, HLE.out]
        simp
        omega
      · obtain rfl : k = 64 - m := by omega
        have hi : ¬ (m : Int) + ((64 - m : Nat) : Int) < 64 := by omega
        have HH2 := Lib.hid hS
        clear hS1 hS hl
        go_wp2
        go_ret
        rw [HF.out, HH2.out]
        exact ⟨rfl, hb⟩
end Go.Proofs.YtegojdblaanclaaDoor
/- The contracts of keysOf and its closure. -/
namespace Go.Proofs.YtegojdblaanclaaDoor
open Go.RowKit

/-- A key's bytes, of which the first are xor-ed. -/
def xlist (K : List UInt8) (c : UInt8) (k : Nat) : List UInt8 := withL (K.take k) c ++ K.drop k
def xrow (K : List UInt8) (c : UInt8) (k : Nat) : Array Value := (Lib.byteCells (xlist K c k)).toArray
theorem xlist_len (K : List UInt8) (c : UInt8) (k : Nat) : (xlist K c k).length = K.length := by simp [xlist, withL]; omega
theorem xlist_all (K : List UInt8) (c : UInt8) : xlist K c K.length = withL K c := by simp [xlist]
theorem xrow_set (K : List UInt8) (c : UInt8) (k : Nat) (h : k < K.length) : (xrow K c k).setIfInBounds k (.int .u8 ((K.getD k 0 ^^^ c).toNat : Int)) = xrow K c (k + 1) := by
  unfold xrow xlist
  rw [withL_take K c k h]
  obtain ⟨x, r, hx⟩ : ∃ x r, K.drop k = x :: r := ⟨_, _, List.drop_eq_getElem_cons h⟩
  have hr : K.drop (k + 1) = r := by rw [← List.tail_drop, hx]; rfl
  have hl : (withL (K.take k) c).length = k := by rw [withL_len, List.length_take]; omega
  rw [hx, hr]
  generalize withL (K.take k) c = A at hl
  subst hl
  simp [Lib.byteCells]
theorem xrow_at (K : List UInt8) (c : UInt8) (k : Nat) (h : k < K.length) : (xrow K c k)[k]? = some (.int .u8 ((K.getD k 0).toNat : Int)) := by
  unfold xrow xlist
  have hl : (withL (K.take k) c).length = k := by rw [withL_len, List.length_take]; omega
  have hd : K.drop k = K.getD k 0 :: K.drop (k + 1) := by rw [List.drop_eq_getElem_cons h]; simp [List.getD, h]
  rw [hd]
  generalize withL (K.take k) c = A at hl
  subst hl
  simp [Lib.byteCells]

set_option maxRecDepth 100000 in
set_option maxHeartbeats 2000000 in
theorem masked_any (K : List UInt8) (c : UInt8) (b : Nat) (w : World) (hK : K.length = 64) (h : Blk w b 74 (Lib.byteCells K).toArray) :
    Calls Tryd.prog 59 #[.int .u8 (c.toNat : Int), .pointer (some ⟨b, 0, none⟩)] w fun e w' => e = .returned (.string ⟨(withL K c).toArray⟩) ∧ Below w.heap.size w w' := by
  have HB := Lib.hid h
  have HKL := Lib.hid hK
  have HFL : Hid ((Lib.byteCells K).length = 64) := Lib.hid (by simp [Lib.byteCells, hK])
  have HONE := Lib.hid (bytes_one K)
  have HX0 : Hid ((Lib.byteCells K).toArray = xrow K c 0) := Lib.hid (by simp [xrow, xlist, withL])
  have z0 := h.lt
  have HZS : Hid ((frow []).size = 64) := Lib.hid (frow_size [] (by simp))
  obtain ⟨F, hF⟩ : ∃ F, Lib.byteCells K = F := ⟨_, rfl⟩
  rw [hF] at HB HFL HONE HX0
  clear h hK hF
  go_enter Tryd.func59, Tryd.ntmps59
  have HZ := Lib.hid (Blk.new w 74 (frow []))
  go_wp2_with (first | (refine wpList_load_row rfl _ _ rfl _ rfl _ _ _ _ HB.out Tryd.underlying74 rfl (by rw [List.size_toArray, HFL.out]; kernel_rfl) ?_) | (refine wpList_store_mid rfl _ _ _ rfl _ _ F.toArray rfl rfl (HZ.out.there (by rw [List.size_toArray, HFL.out, HZS.out]; exact Nat.le_refl _)) (by rw [List.size_toArray, HFL.out]; kernel_rfl) (all_oneCell_toArray HONE.out) ?_))
  generalize hw2 : World.setCells (World.alloc w (Obj.cells _ 74)) w.heap.size 0 F = w2
  have S2 : Hid (Blk w2 w.heap.size 74 F.toArray) := Lib.hid (by rw [← hw2]; exact HZ.out.whole F (by rw [HFL.out, HZS.out]))
  have hB2 : Below w.heap.size w w2 := by rw [← hw2]; exact bw (ba (Below.refl _ _) _) (Nat.le_refl _) _ _
  rw [HX0.out] at S2
  clear hw2 HZ HZS HFL HONE HX0 HB
  go_loopw [7] (fun iv wr => ∃ k : Nat, k ≤ 64 ∧ iv = .int .i64 k ∧ Blk wr w.heap.size 74 (xrow K c k) ∧ Below w.heap.size w wr) (fun i _ => 64 - (intOf i).toNat)
  case atStart => exact ⟨0, Nat.zero_le _, rfl, S2.out, hB2⟩
  case round =>
    clear S2 hB2
    obtain ⟨k, hk, rfl, hx, hb⟩ := hrel
    by_cases hlt : k < 64
    · have c0 := (hx.cell k).trans (xrow_at K c k (by rw [HKL.out]; exact hlt))
      have f0 := hx.frozen k
      have HS := Lib.hid (xrow_set K c k (by rw [HKL.out]; exact hlt))
      obtain ⟨x, hxx⟩ : ∃ x, K.getD k 0 = x := ⟨_, rfl⟩
      rw [hxx] at c0 HS
      have hxr := xor_byte x c
      obtain ⟨y, hy⟩ : ∃ y, x ^^^ c = y := ⟨_, rfl⟩
      rw [hy] at hxr HS
      clear hxx hy
      have i1 : (0 : Int) ≤ (k : Int) := by omega
      have i2 : (k : Int) < 64 := by omega
      have HX := Lib.hid hx
      clear hx
      go_wp2
      exact ⟨⟨k + 1, by omega, by go_num, by have := HX.out.set_ k (.int .u8 (y.toNat : Int)); rw [HS.out] at this; exact this, bs hb (Nat.le_refl _) _⟩, by simp [intOf]; omega⟩
    · obtain rfl : k = 64 := by omega
      have hall := xlist_all K c
      rw [HKL.out] at hall
      have hwl : (withL K c).length = 64 := by rw [withL_len, HKL.out]
      unfold xrow at hx
      rw [hall] at hx
      have hcv := run_convert_bytes_back (P := Tryd.prog) wr 73 9 5 ⟨w.heap.size, 0, none⟩ 64 (withL K c) Tryd.underlying73 Tryd.underlying5 Tryd.underlying9 (fun j hj => by
        rw [Addr.add_mid, Nat.zero_add, hx.cell j]
        simp [Lib.byteCells, hj])
      rw [hwl] at hcv
      clear hx hall
      go_wp2
      go_ret
      exact ⟨rfl, hb⟩

set_option maxRecDepth 100000 in
set_option maxHeartbeats 2000000 in
theorem keysOf_any (key : List UInt8) (w : World) (hk : key.length ≤ 60000) :
    Calls Tryd.prog 52 #[.string ⟨key.toArray⟩] w fun e w' => e = .returned (.agg #[.string ⟨(innL key).toArray⟩, .string ⟨(outL key).toArray⟩]) ∧ Below w.heap.size w w' := by
  have HF : Hid (∀ W, Calls Tryd.prog 58 #[.string ⟨key.toArray⟩] W fun e w' => e = .returned (.agg (Lib.byteCells (fitL key)).toArray) ∧ Below W.heap.size W w') := Lib.hid fun W => fitted_any key W hk
  have HFL : Hid ((Lib.byteCells (fitL key)).length = 64) := Lib.hid (by simp [Lib.byteCells, fitL_len])
  have HONE := Lib.hid (bytes_one (fitL key))
  have HM : Hid (∀ (c : UInt8) (b : Nat) (W : World), Blk W b 74 (Lib.byteCells (fitL key)).toArray → Calls Tryd.prog 59 #[.int .u8 (c.toNat : Int), .pointer (some ⟨b, 0, none⟩)] W fun e w' => e = .returned (.string ⟨(withL (fitL key) c).toArray⟩) ∧ Below W.heap.size W w') := Lib.hid fun c b W h => masked_any (fitL key) c b W (fitL_len key) h
  have HZS : Hid ((frow []).size = 64) := Lib.hid (frow_size [] (by simp))
  have HI : Hid (innL key = withL (fitL key) 54) := Lib.hid rfl
  have HO : Hid (outL key = withL (fitL key) 92) := Lib.hid rfl
  obtain ⟨F, hF⟩ : ∃ F, Lib.byteCells (fitL key) = F := ⟨_, rfl⟩
  rw [hF] at HF HFL HONE HM
  clear hF
  rw [HI.out, HO.out]
  clear HI HO
  have R0 := Lib.hid (Blk.new w 76 #[.string ⟨#[]⟩, .string ⟨#[]⟩])
  go_enter Tryd.func52, Tryd.ntmps52
  go_wp2_with fail
  refine (HF.out _).mono ?_
  rintro e w1 ⟨rfl, hb1⟩
  have R1 := Lib.hid (R0.out.below hb1)
  have hB1 := bt (ba (Below.refl w.heap.size w) (.cells #[.string ⟨#[]⟩, .string ⟨#[]⟩] 76)) hb1
  have n1 := R1.out.lt
  clear R0 hb1
  have HZ := Lib.hid (Blk.new w1 74 (frow []))
  go_wp2_with (refine wpList_store_mid rfl _ _ _ rfl _ _ F.toArray rfl rfl (HZ.out.there (by rw [List.size_toArray, HFL.out, HZS.out]; exact Nat.le_refl _)) (by rw [List.size_toArray, HFL.out]; kernel_rfl) (all_oneCell_toArray HONE.out) ?_)
  generalize hw2 : World.setCells (World.alloc w1 (Obj.cells _ 74)) w1.heap.size 0 F = w2
  have S2 : Hid (Blk w2 w1.heap.size 74 F.toArray) := Lib.hid (by rw [← hw2]; exact HZ.out.whole F (by rw [HFL.out, HZS.out]))
  have R2 : Hid (Blk w2 w.heap.size 76 #[.string ⟨#[]⟩, .string ⟨#[]⟩]) := Lib.hid (by rw [← hw2]; exact (R1.out.alloc _).far_ (by omega) _ _)
  have hB2 : Below w.heap.size w w2 := by rw [← hw2]; exact bw (ba hB1 _) (by omega) _ _
  obtain ⟨b, hbb⟩ : ∃ b, w1.heap.size = b := ⟨_, rfl⟩
  rw [hbb] at S2 ⊢
  clear hw2 HZ HZS HFL HONE R1 hB1 n1 hbb w1
  go_wp2_with fail
  refine (HM.out 54 b w2 S2.out).mono ?_
  rintro e w3 ⟨rfl, hb3⟩
  have S3 := Lib.hid (S2.out.below hb3)
  have R3 := Lib.hid (R2.out.below hb3)
  have hB3 := bt hB2 hb3
  clear S2 R2 hB2 hb3
  go_wp2_with fail
  refine (HM.out 92 b w3 S3.out).mono ?_
  rintro e w4 ⟨rfl, hb4⟩
  have R4 := R3.out.below hb4
  have hB4 := bt hB3 hb4
  clear S3 R3 hB3 hb4
  have c0 := R4.at_ (i := 0) rfl
  have c1 := R4.at_ (i := 1) rfl
  obtain ⟨c0, f0⟩ := c0
  obtain ⟨c1, f1⟩ := c1
  have hW : Blk ((w4.setCell ⟨w.heap.size, 0, none⟩ (.string ⟨(withL (fitL key) 54).toArray⟩)).setCell ⟨w.heap.size, 1, none⟩ (.string ⟨(withL (fitL key) 92).toArray⟩)) w.heap.size 76 #[.string ⟨(withL (fitL key) 54).toArray⟩, .string ⟨(withL (fitL key) 92).toArray⟩] := (R4.set_ 0 _).set_ 1 _
  have HW := Lib.hid hW
  clear R4 hW
  go_wp2_with fail
  refine bodyPost_ret (v := .agg #[.string ⟨(withL (fitL key) 54).toArray⟩, .string ⟨(withL (fitL key) 92).toArray⟩]) (results_cell_row rfl _ _ _ _ _ _ _ rfl HW.out Tryd.underlying76 rfl (by kernel_rfl)) rfl ⟨rfl, bs (bs hB4 (Nat.le_refl _) _) (Nat.le_refl _) _⟩
end Go.Proofs.YtegojdblaanclaaDoor
/- The contract of joined. -/
namespace Go.Proofs.YtegojdblaanclaaDoor
open Go.RowKit

set_option maxRecDepth 100000 in
set_option maxHeartbeats 1000000 in
theorem joined_any (a b : List UInt8) (g : Nat) (w : World) (hc0 : w.cell? ⟨g, 0, none⟩ = some (.string ⟨a.toArray⟩)) (hc1 : w.cell? ⟨g, 1, none⟩ = some (.string ⟨b.toArray⟩)) (hl : a.length + b.length ≤ 1048576) :
    Calls Tryd.prog 61 #[.slice (some ⟨g, 0, none⟩) 2 2] w fun e w' => e = .returned (.string ⟨(a ++ b).toArray⟩) ∧ Below w.heap.size w w' := by
  have hg := World.block_lt_of_cell? _ _ hc0
  have hj : (Lib.join ([⟨a.toArray⟩, ⟨b.toArray⟩].map fun x : ByteArray => x.data.toList) []) = a ++ b := by simp [Lib.join, List.intercalate]
  have HJ : Hid (Calls Tryd.prog 72 #[.slice (some ⟨g, 0, none⟩) 2 2, .string ⟨#[]⟩] w fun e w' => e = .returned (.string ⟨(a ++ b).toArray⟩) ∧ Below w.heap.size w w') := Lib.hid (by
    have := Any.strings_Join joinLays156 joinLaysExtra g 0 2 [⟨a.toArray⟩, ⟨b.toArray⟩] ⟨#[]⟩ w (fun j x hx => by
      rcases j with _ | _ | j
      · obtain rfl : _ = x := by simpa using hx
        exact hc0
      · obtain rfl : _ = x := by simpa using hx
        exact hc1
      · simp at hx) hg (by simp) (by simp) (by rw [hj, List.length_append]; omega)
    rw [hj] at this
    exact this)
  clear hj hl
  go_enter Tryd.func61, Tryd.ntmps61
  go_wp2_with fail
  refine HJ.out.mono ?_
  rintro e w1 ⟨rfl, hb⟩
  go_wp2
  go_ret
  exact ⟨rfl, hb⟩
end Go.Proofs.YtegojdblaanclaaDoor
/- The contracts of tag, Tag and Check. -/
namespace Go.Proofs.YtegojdblaanclaaDoor
open Go.RowKit

theorem three_of {w0 W : World} {b : Nat} {x y : Value} (h0 : w0.cell? ⟨b, 0, none⟩ = some x) (h1 : w0.cell? ⟨b, 1, none⟩ = some y) (h : Below w0.heap.size w0 W) : W.cell? ⟨b, 0, none⟩ = some x ∧ W.cell? ⟨b, 1, none⟩ = some y ∧ Below w0.heap.size w0 W :=
  ⟨cell_later h h0, cell_later h h1, h⟩

set_option maxRecDepth 100000 in
set_option maxHeartbeats 2000000 in
theorem tag_any (i o s : List UInt8) (w : World) (hi : i.length = 64) (ho : o.length = 64) (hs : s.length ≤ 60000) :
    Calls Tryd.prog 53 #[.agg #[.string ⟨i.toArray⟩, .string ⟨o.toArray⟩], .string ⟨s.toArray⟩] w fun e w' => e = .returned (.string ⟨(tagK i o s).toArray⟩) ∧ Below w.heap.size w w' := by
  have J1 := Lib.hid (fun g W h0 h1 => joined_any i s g W h0 h1 (by omega))
  have hl := hsumL_len (i ++ s)
  have S1 := Lib.hid (fun W => sum_any (i ++ s) W (by rw [List.length_append]; omega))
  have HT : Hid (tagK i o s = hsumL (o ++ hsumL (i ++ s))) := Lib.hid rfl
  generalize hsumL (i ++ s) = T at hl S1 HT
  have J2 := Lib.hid (fun g W h0 h1 => joined_any o T g W h0 h1 (by omega))
  have S2 := Lib.hid (fun W => sum_any (o ++ T) W (by rw [List.length_append]; omega))
  generalize i ++ s = A at J1 S1
  rw [← HT.out] at S2
  clear HT
  generalize o ++ T = B at J2 S2
  generalize tagK i o s = U at S2 ⊢
  clear hi ho hs hl
  have R0 := Blk.new w 76 #[.string ⟨i.toArray⟩, .string ⟨o.toArray⟩]
  have hB0 := ba (Below.refl w.heap.size w) (.cells #[.string ⟨i.toArray⟩, .string ⟨o.toArray⟩] 76)
  go_enter Tryd.func53, Tryd.ntmps53
  go_upto_region 1 with (fail)
  have c0 := R0.cell 0
  have c1 := R0.cell 1
  simp only [List.getElem?_toArray, List.getElem?_cons_zero, List.getElem?_cons_succ] at c0 c1
  generalize hw0 : w.alloc (.cells #[.string ⟨i.toArray⟩, .string ⟨o.toArray⟩] 76) = w0 at c0 c1 hB0 ⊢
  clear hw0 R0
  go_region_held3 (fun W => W.cell? ⟨w.heap.size, 0, none⟩ = some (.string ⟨i.toArray⟩) ∧ W.cell? ⟨w.heap.size, 1, none⟩ = some (.string ⟨o.toArray⟩) ∧ Below w0.heap.size w0 W) (first | assumption | exact three_of c0 c1 (Below.refl _ _).drew | exact three_of c0 c1 (ba (Below.refl _ _).drew _) | exact three_of c0 c1 (ba (by assumption : _ ∧ _ ∧ Below w0.heap.size w0 _).2.2 _)) (first
    | (go_at_call 61; refine (J1.out _ _ (by simp) (by simp)).mono ?_; rintro e w1 ⟨rfl, hb1⟩; have hS1 := three_of c0 c1 (bt (ba (Below.refl w0.heap.size w0).drew _) hb1))
    | (go_at_call 61; refine (J2.out _ _ (by simp) (by simp)).mono ?_; rintro e w1 ⟨rfl, hb1⟩; have hS1 := three_of c0 c1 (bt (ba (by assumption : _ ∧ _ ∧ Below w0.heap.size w0 _).2.2 _) hb1))
    | (go_at_call 60; (with_reducible refine (S1.out _).mono ?_); rintro e w1 ⟨rfl, hb1⟩; have hS1 := three_of c0 c1 (bt (by assumption : _ ∧ _ ∧ Below w0.heap.size w0 _).2.2 hb1))
    | (go_at_call 60; (with_reducible refine (S2.out _).mono ?_); rintro e w1 ⟨rfl, hb1⟩; have hS1 := three_of c0 c1 (bt (by assumption : _ ∧ _ ∧ Below w0.heap.size w0 _).2.2 hb1)))
  go_wp2_with fail
  go_ret
  exact ⟨rfl, bt hB0 hS1.2.2⟩

set_option maxRecDepth 100000 in
set_option maxHeartbeats 1000000 in
theorem mtag_any (key s : List UInt8) (w : World) (hk : key.length ≤ 60000) (hs : s.length ≤ 60000) :
    Calls Tryd.prog 46 #[.string ⟨key.toArray⟩, .string ⟨s.toArray⟩] w fun e w' => e = .returned (.string ⟨(mtagL key s).toArray⟩) ∧ Below w.heap.size w w' := by
  go_enter Tryd.func46, Tryd.ntmps46
  go_wp2_with fail
  refine (keysOf_any key _ hk).mono ?_
  rintro e w1 ⟨rfl, hb1⟩
  go_wp2_with fail
  refine (tag_any (innL key) (outL key) s _ (innL_len key) (outL_len key) hs).mono ?_
  rintro e w2 ⟨rfl, hb2⟩
  go_wp2_with fail
  go_ret
  exact ⟨rfl, bt hb1 hb2⟩

set_option maxRecDepth 100000 in
set_option maxHeartbeats 1000000 in
theorem rtag_any (key s : List UInt8) (w : World) (hk : key.length ≤ 60000) (hs : s.length ≤ 60000) :
    Calls Tryd.prog 51 #[.string ⟨key.toArray⟩, .string ⟨s.toArray⟩] w fun e w' => e = .returned (.string ⟨(mtagL key s).toArray⟩) ∧ Below w.heap.size w w' := by
  have hF := fitL_len key
  have HI : Hid (innL key = withL (fitL key) 54) := Lib.hid rfl
  have HO : Hid (outL key = withL (fitL key) 92) := Lib.hid rfl
  have hil := innL_len key
  have hol := outL_len key
  have W1 := Lib.hid (fun W => rwith_any (fitL key) 54 W (by omega))
  have W2 := Lib.hid (fun W => rwith_any (fitL key) 92 W (by omega))
  have R0 := Lib.hid (rfitted_any key w hk)
  rw [← HI.out] at W1
  rw [← HO.out] at W2
  have HT : Hid (mtagL key s = hsumL (outL key ++ hsumL (innL key ++ s))) := Lib.hid rfl
  generalize innL key = I at W1 hil HT
  generalize outL key = O at W2 hol HT
  generalize fitL key = F at W1 W2 R0 hF
  clear HI HO
  have a1 : ∀ W : World, (Op.stringOp .add ⟨I.toArray⟩ ⟨s.toArray⟩).run Tryd.prog W = .ok (.string ⟨(I ++ s).toArray⟩) W := fun W => run_string_add_lists (P := Tryd.prog) W _ _ (by omega) (by omega)
  have S1 := Lib.hid (fun W => hrsum_any rwords_holds (I ++ s) W (by rw [List.length_append]; omega))
  have hl := hsumL_len (I ++ s)
  generalize hsumL (I ++ s) = T at hl S1 HT
  generalize I ++ s = A at a1 S1
  have a2 : ∀ W : World, (Op.stringOp .add ⟨O.toArray⟩ ⟨T.toArray⟩).run Tryd.prog W = .ok (.string ⟨(O ++ T).toArray⟩) W := fun W => run_string_add_lists (P := Tryd.prog) W _ _ (by omega) (by omega)
  have S2 := Lib.hid (fun W => hrsum_any rwords_holds (O ++ T) W (by rw [List.length_append]; omega))
  rw [← HT.out] at S2
  clear HT
  generalize O ++ T = B at a2 S2
  generalize mtagL key s = U at S2 ⊢
  clear hk hs hF hil hol hl
  go_enter Tryd.func51, Tryd.ntmps51
  go_wp2_with fail
  refine R0.out.mono ?_
  rintro e w1 ⟨rfl, hb1⟩
  go_wp2_with fail
  refine (W2.out _).mono ?_
  rintro e w2 ⟨rfl, hb2⟩
  have hB2 := bt hb1 hb2
  clear hb1 hb2
  go_wp2_with fail
  refine (W1.out _).mono ?_
  rintro e w3 ⟨rfl, hb3⟩
  have hB3 := bt hB2 hb3
  clear hB2 hb3
  go_wp2_with fail
  refine (S1.out _).mono ?_
  rintro e w4 ⟨rfl, hb4⟩
  have hB4 := bt hB3 hb4
  clear hB3 hb4
  go_wp2_with fail
  refine (S2.out _).mono ?_
  rintro e w5 ⟨rfl, hb5⟩
  have hB5 := bt hB4 hb5
  clear hB4 hb5
  go_wp2_with fail
  go_ret
  exact ⟨rfl, hB5⟩
end Go.Proofs.YtegojdblaanclaaDoor
/- What every claim's last part wants: the parameters' forms. Nothing of any function, and of no type but those that every program has. -/
namespace Go.Proofs.YtegojdblaanclaaDoor
open Go.ChangeShapes Go.WideShapes Go.ChangeAt Go.RowKit Go.Joins Go.Deep

theorem str_list (s : ByteArray) : ∃ l : List UInt8, s = ⟨l.toArray⟩ ∧ l.length = s.size := ⟨s.data.toList, rfl, Array.length_toList⟩
theorem Tryd.own : ownKnob Tryd.prog.godebug = none := by kernel_rfl
theorem Tryd.laidOut : laidOutB Tryd.prog = true := by kernel_rfl
theorem extract_take (s : List UInt8) (m : Nat) : (⟨s.toArray⟩ : ByteArray).extract 0 m = ⟨(s.take m).toArray⟩ := by
  apply ByteArray.ext
  apply Array.toList_inj.1
  rw [Lib.extract_data]
  simp

/-- What the arguments read as stays, whatever the call makes. -/
theorem trodAll_below_ {H : Type} {enc : TypeId × Value → H} {P : Program} (hl : laidOutB P = true) {W W' : World} (hb : Below W.heap.size W W') (ts : List TypeId) : ∀ {vs : List Value} {ds : List (DataW H)} {ps : List MemPlace},
    DataW.TrodAll enc P W 0 (fun _ => true) true ts vs ds ps → (∀ t ∈ ts, P.readableRec t = true ∧ t < P.types.size) → (∀ x ∈ ps, x.block < W.heap.size) →
    DataW.TrodAll enc P W' 0 (fun b => decide (b < W.heap.size)) true ts vs ds ps := by
  induction ts with
  | nil =>
    intro vs ds ps h _ _
    obtain ⟨rfl, rfl, rfl⟩ := trodAll_nil h
    rfl
  | cons t ts ih =>
    intro vs ds ps h ha hlt
    obtain ⟨v, vs', d, ds', p, q, rfl, rfl, rfl, h1, h2⟩ := trodAll_cons h
    have ht := ha t (List.mem_cons_self)
    exact trodAll_cons_mk (Below.trod hl ht.1 ht.2 h1 hb fun x hx => hlt x (List.mem_append_left _ hx)) (ih h2 (fun t h => ha t (List.mem_cons_of_mem _ h)) fun x hx => hlt x (List.mem_append_right _ hx))
theorem all_readable {P : Program} {ts : List TypeId} (h : (ts.all fun t => P.readableRec t && decide (t < P.types.size)) = true) : ∀ t ∈ ts, P.readableRec t = true ∧ t < P.types.size := by
  intro t ht
  have := List.all_eq_true.1 h t ht
  simpa using this
theorem u8_nat {n : Int} (h : (Lit.int .u8 n).wf = true) : ∃ m : Nat, n = (m : Int) ∧ (m : Int) < 256 := by
  simp [Lit.wf] at h
  have h1 : IntKind.u8.min = 0 := by decide
  have h2 : IntKind.u8.max = 255 := by decide
  rw [h1, h2] at h
  exact ⟨n.toNat, by omega, by omega⟩
theorem i64_bounds {n : Int} (h : (Lit.int .i64 n).wf = true) : -9223372036854775808 ≤ n ∧ n ≤ 9223372036854775807 := by
  have h1 : IntKind.i64.min = -9223372036854775808 := by decide
  simp [Lit.wf] at h
  rw [h1] at h
  exact h
end Go.Proofs.YtegojdblaanclaaDoor
/- The contracts of Word and Derive, and of the reference's. -/
namespace Go.Proofs.YtegojdblaanclaaDoor
open Go.RowKit

/-- A key's number for a text. -/
def wordL (k s : List UInt8) : Nat := val ((mtagL k s).take 8)
theorem wordL_lt (k s : List UInt8) : wordL k s < 18446744073709551616 := by
  have h := val_lt ((mtagL k s).take 8)
  have hl : ((mtagL k s).take 8).length = 8 := by rw [List.length_take, mtagL_len]; rfl
  rw [hl] at h
  exact h

set_option maxRecDepth 100000 in
set_option maxHeartbeats 1000000 in
theorem tword_any (k s : List UInt8) (w : World) (hk : k.length ≤ 60000) (hs : s.length ≤ 60000) :
    Calls Tryd.prog 40 #[.string ⟨k.toArray⟩, .string ⟨s.toArray⟩] w fun e w' => e = .returned (.int .u64 (wordL k s : Int)) ∧ Below w.heap.size w w' := by
  have hl := mtagL_len k s
  have T1 := Lib.hid (mtag_any k s w hk hs)
  have HW : Hid (wordL k s = val ((mtagL k s).take 8)) := Lib.hid rfl
  generalize mtagL k s = T at hl T1 HW
  have hz := size_mk T
  rw [hl] at hz
  have hex := extract_take T 8
  have N1 := Lib.hid (fun W => number64_any (T.take 8) W (by rw [List.length_take, hl]; rfl))
  rw [← HW.out] at N1
  clear HW hl
  generalize wordL k s = V at N1 ⊢
  generalize T.take 8 = U at N1 hex
  go_enter Tryd.func40, Tryd.ntmps40
  go_wp2_with fail
  refine T1.out.mono ?_
  rintro e w1 ⟨rfl, hb1⟩
  go_wp2_with fail
  refine (N1.out _).mono ?_
  rintro e w2 ⟨rfl, rfl⟩
  go_wp2
  go_ret
  exact ⟨rfl, hb1⟩

set_option maxRecDepth 100000 in
set_option maxHeartbeats 1000000 in
theorem rtword_any (k s : List UInt8) (w : World) (hk : k.length ≤ 60000) (hs : s.length ≤ 60000) :
    Calls Tryd.prog 42 #[.string ⟨k.toArray⟩, .string ⟨s.toArray⟩] w fun e w' => e = .returned (.int .u64 (wordL k s : Int)) ∧ Below w.heap.size w w' := by
  have hl := mtagL_len k s
  have T1 := Lib.hid (rtag_any k s w hk hs)
  have HW : Hid (wordL k s = val ((mtagL k s).take 8)) := Lib.hid rfl
  generalize mtagL k s = T at hl T1 HW
  have hz := size_mk T
  rw [hl] at hz
  have hex := extract_take T 8
  have N1 := Lib.hid (fun W => value_any (T.take 8) W (by rw [List.length_take]; omega))
  rw [← HW.out] at N1
  clear HW hl
  generalize wordL k s = V at N1 ⊢
  generalize T.take 8 = U at N1 hex
  go_enter Tryd.func42, Tryd.ntmps42
  go_wp2_with fail
  refine T1.out.mono ?_
  rintro e w1 ⟨rfl, hb1⟩
  go_wp2_with fail
  refine (N1.out _).mono ?_
  rintro e w2 ⟨rfl, rfl⟩
  go_wp2
  go_ret
  exact ⟨rfl, hb1⟩

/-- A slot's key for a name. -/
def deriveL (k s : List UInt8) : List UInt8 := (mtagL k (low s.length 2 ++ s)).take k.length
theorem deriveL_len (k s : List UInt8) (h : keyB k = true) : (deriveL k s).length = k.length := by
  have : k.length ≤ 32 := by simp [keyB] at h; omega
  rw [deriveL, List.length_take, mtagL_len]
  omega
theorem keyB_le {k : List UInt8} (h : keyB k = true) : k.length ≤ 32 := by simp [keyB] at h; omega

end Go.Proofs.YtegojdblaanclaaDoor
/- The contracts of Height, and of the reference's: the height that a key's number for a number's bytes tells. -/
namespace Go.Proofs.YtegojdblaanclaaDoor
open Go.RowKit

/-- A number's height, by a key. -/
def hL (k : List UInt8) (n : Nat) : Nat := hgt (wordL k (low n 8))
theorem hL_le (k : List UInt8) (n : Nat) : 1 ≤ hL k n ∧ hL k n ≤ 8 := hgt_le _

set_option maxRecDepth 100000 in
set_option maxHeartbeats 1000000 in
theorem vheight_any (k : List UInt8) (n : Nat) (w : World) (hk : k.length ≤ 60000) (hn : n < 18446744073709551616) (hT : VTab w) :
    Calls Tryd.prog 36 #[.string ⟨k.toArray⟩, .int .u64 (n : Int)] w fun e w' => e = .returned (.int .i64 (hL k n : Int)) ∧ Below w.heap.size w w' := by
  have T1 := Lib.hid (number_any n w (by omega))
  have T2 := Lib.hid (fun W => tword_any k (low n 8) W hk (by rw [low_length]; omega))
  have T3 := Lib.hid (fun W (h : Below w.heap.size w W) => vheightOf_any (wordL k (low n 8)) (wordL_lt _ _) W (hT.later h))
  have HH : Hid (hL k n = hgt (wordL k (low n 8))) := Lib.hid rfl
  rw [← HH.out] at T3
  clear HH hT hn
  generalize hL k n = h at *
  generalize wordL k (low n 8) = x at *
  generalize low n 8 = s at *
  go_enter Tryd.func36, Tryd.ntmps36
  go_wp2_with fail
  refine T1.out.mono ?_
  rintro e w1 ⟨rfl, hb1⟩
  go_wp2_with fail
  refine (T2.out _).mono ?_
  rintro e w2 ⟨rfl, hb2⟩
  have hb3 := bt hb1 hb2
  go_wp2_with fail
  refine (T3.out _ hb3).mono ?_
  rintro e w3 ⟨rfl, rfl⟩
  go_wp2
  go_ret
  exact ⟨rfl, hb3⟩

set_option maxRecDepth 100000 in
set_option maxHeartbeats 1000000 in
theorem vrheight_any (k : List UInt8) (n : Nat) (w : World) (hk : k.length ≤ 60000) (hn : n < 18446744073709551616) :
    Calls Tryd.prog 37 #[.string ⟨k.toArray⟩, .int .u64 (n : Int)] w fun e w' => e = .returned (.int .i64 (hL k n : Int)) ∧ Below w.heap.size w w' := by
  have T1 := Lib.hid (show Calls Tryd.prog 43 #[.int .u64 (n : Int), .int .i64 8] w fun e w' => e = .returned (.string ⟨(low n 8).toArray⟩) ∧ Below w.heap.size w w' from rlow_any n 8 w (by omega) (by omega))
  have T2 := Lib.hid (fun W => rtword_any k (low n 8) W hk (by rw [low_length]; omega))
  have HH : Hid (hg 7 (wordL k (low n 8)) + 1 = 1 + hL k n) := Lib.hid (Nat.add_comm _ _)
  have HX := Lib.hid (wordL_lt k (low n 8))
  clear hn
  generalize hL k n = h at *
  generalize wordL k (low n 8) = x at *
  generalize low n 8 = s at *
  go_enter Tryd.func37, Tryd.ntmps37
  go_wp2_with fail
  refine T1.out.mono ?_
  rintro e w1 ⟨rfl, hb1⟩
  go_wp2_with fail
  refine (T2.out _).mono ?_
  rintro e w2 ⟨rfl, hb2⟩
  have HB := Lib.hid (bt hb1 hb2)
  clear hb1 hb2
  go_wp2_with fail
  go_loop [5, 6] (fun xv ov => ∃ y o r : Nat, xv = .int .u64 (y : Int) ∧ ov = .int .i64 (o : Int) ∧ o + r = 8 ∧ 1 ≤ o ∧ Hid (y < 18446744073709551616 ∧ hg r y + o = 1 + h + 0 * r)) (fun _ o => 8 - (intOf o).toNat)
  case atStart => exact ⟨x, 1, 7, rfl, rfl, rfl, by omega, Lib.hid ⟨HX.out, by have := HH.out; omega⟩⟩
  case round =>
    obtain ⟨y, o, r, rfl, rfl, hor, ho1, HY⟩ := hrel
    have h1 := HY.out
    by_cases he : y % 2 = 0
    · have hd : ((y : Int) % 2 == 0) = true := by simp; omega
      by_cases h8 : o < 8
      · obtain ⟨r, rfl⟩ : ∃ t, r = t + 1 := ⟨r - 1, by omega⟩
        rw [hg, if_pos he] at h1
        obtain ⟨z, hz⟩ : ∃ z, y / 2 = z := ⟨_, rfl⟩
        have hq : (y : Int) / 2 = (z : Int) := by omega
        rw [hz] at h1
        have HN : Hid (z < 18446744073709551616 ∧ hg r z + (o + 1) = 1 + h + 0 * r) := Lib.hid ⟨by omega, by omega⟩
        have HO := Lib.hid (show o + 1 + r = 8 by omega)
        have hwz : IntKind.u64.wrap (z : Int) = (z : Int) := by rw [IntKind.wrap_u64]; omega
        clear h1 hz hor HY he
        go_wp2
        exact ⟨⟨z, o + 1, r, rfl, by go_num, HO.out, by omega, HN⟩, by simp [intOf]; omega⟩
      · obtain rfl : r = 0 := by omega
        obtain rfl : o = 8 := by omega
        obtain rfl : h = 8 := by simp [hg] at h1; omega
        clear h1 HY he h8
        go_wp2
        go_ret
        exact ⟨rfl, HB.out⟩
    · have hd : ((y : Int) % 2 == 0) = false := by simp; omega
      have hh : h = o := by
        cases r with
        | zero => simp [hg] at h1; omega
        | succ r => rw [hg, if_neg he] at h1; omega
      clear h1 HY he
      subst hh
      go_wp2
      go_ret
      exact ⟨rfl, HB.out⟩
end Go.Proofs.YtegojdblaanclaaDoor
/- The contract of Heights: a row of its own. -/
namespace Go.Proofs.YtegojdblaanclaaDoor
open Go.RowKit

/-- Several numbers' heights, in order. -/
def hsL (k : List UInt8) (L : List Nat) : List Nat := L.map (hL k)
theorem hsL_len (k : List UInt8) (L : List Nat) : (hsL k L).length = L.length := by simp [hsL]
theorem hsL_at (k : List UInt8) (L : List Nat) (j : Nat) (h : j < L.length) : (hsL k L).getD j 0 = hL k (L.getD j 0) := by
  simp [hsL, List.getD, h]

set_option maxRecDepth 100000 in
set_option maxHeartbeats 2000000 in
theorem vheights_any (k : List UInt8) (A : Option Addr) (n c : Nat) (L : List Nat) (w : World) (hk : k.length ≤ 60000) (hA : VR vu w A L) (hl : L.length = n) (hx : ∀ x ∈ L, x < 18446744073709551616) (hn : n ≤ 65536) (hT : VTab w) :
    Calls Tryd.prog 27 #[.string ⟨k.toArray⟩, .slice A n c] w fun e w' => ∃ g, e = .returned (.slice (some ⟨g, 0, none⟩) n n) ∧ Blk w' g 3 (((hsL k L).map vi).toArray) ∧ Below w.heap.size w w' := by
  have e1 := vmake_ints n hn
  have HTl : Hid ((hsL k L).length = n) := Lib.hid (by rw [hsL_len, hl])
  have HB0 : Below w.heap.size w (w.alloc (.cells (Array.replicate n (vi 0)) 3)) := ba (Below.refl _ _) _
  have HG0 : Blk (w.alloc (.cells (Array.replicate n (vi 0)) 3)) w.heap.size 3 (((vfill (hsL k L) 0).map vi).toArray) := by
    have := Blk.new w 3 (Array.replicate n (vi 0))
    rwa [vfill_zero, HTl.out, List.map_replicate, List.toArray_replicate]
  have HH := Lib.hid (fun j W (hj : j < n) (hb : Below w.heap.size w W) => by
    have := vheight_any k (L.getD j 0) W hk (hx _ (by rw [List.getD, List.getElem?_eq_getElem (by omega)]; exact List.getElem_mem _)) (hT.later hb)
    rwa [← hsL_at k L j (by omega)] at this)
  have HR := Lib.hid (fun j W (hj : j < n) (hb : Below w.heap.size w W) => (hA.later hb) j (by omega))
  have HALL : Hid (vfill (hsL k L) n = hsL k L) := Lib.hid (by have := vfill_all (hsL k L); rwa [HTl.out] at this)
  clear hA hx hT hl hk
  generalize hsL k L = T at *
  go_enter Tryd.func27, Tryd.ntmps27
  go_upto_region 2 with fail
  generalize w.alloc (.cells (Array.replicate n (vi 0)) 3) = w1 at HB0 HG0 ⊢
  clear e1
  go_wp2_with fail
  go_loopw [13] (fun iv wr => ∃ j : Nat, j ≤ n ∧ iv = .int .i64 (j : Int) ∧ Hid (Blk wr w.heap.size 3 (((vfill T j).map vi).toArray)) ∧ Hid (Below w.heap.size w wr)) (fun i _ => n - (intOf i).toNat)
  case atStart => exact ⟨0, Nat.zero_le _, rfl, Lib.hid HG0, Lib.hid HB0⟩
  case round =>
    clear HB0 HG0
    obtain ⟨j, hj, rfl, HG, HB⟩ := hrel
    by_cases hlt : j < n
    · obtain ⟨g, off, rfl, c0⟩ := HR.out j wr hlt HB.out
      have HHj := Lib.hid (fun W (hb : Below wr.heap.size wr W) => HH.out j W hlt (bt HB.out hb))
      obtain ⟨x, hx⟩ : ∃ x, T.getD j 0 = x := ⟨_, rfl⟩
      have HX := Lib.hid hx
      rw [hx] at HHj
      generalize L.getD j 0 = y at c0 HHj
      have i0 : (0 : Int) ≤ (j : Int) := by omega
      have i1 : (j : Int) < (n : Int) := by omega
      have HJ : Hid (j < T.length) := Lib.hid (by rw [HTl.out]; exact hlt)
      clear hx
      go_wp2_with fail
      refine (HHj.out _ (Below.refl _ _)).mono ?_
      rintro e2 w2 ⟨rfl, hb2⟩
      have HG2 := HG.out.below hb2
      have d0 : w2.cell? ⟨w.heap.size, j, none⟩ = some (vi ((vfill T j).getD j 0)) := by
        rw [HG2.cell j, List.getElem?_toArray, vqs_at vi _ j (by have := HJ.out; simp [vfill]; omega)]
      have d1 := HG2.frozen j
      have HG3 := Lib.hid (vblk_fill vi HG2 HX.out)
      have HB3 := Lib.hid (bs (b := w.heap.size) (o := j) (bt HB.out hb2) (Nat.le_refl _) (vi x))
      clear HG2 hb2
      go_wp2_with fail
      exact ⟨⟨j + 1, by omega, by go_num, HG3, HB3⟩, by simp [intOf]; omega⟩
    · obtain rfl : j = n := by omega
      rw [HALL.out] at HG
      go_wp2
      go_ret
      exact ⟨_, rfl, HG.out, HB.out⟩
end Go.Proofs.YtegojdblaanclaaDoor
