/- Texts of this seat, one behind the other: MMath, MFit, MJoin, MRef, MKeys, MJoined, MTag. -/
import Derived.Lib.BufferWrite
import Derived.Deep.CutRange
import Derived.Shelf.Strings.OnBuilder
import Derived.Test.YtjonhenllhnibaaGreatDoorRows
import Derived.Deep.RegionHeld3
import Derived.Test.YtjonhenllhnibaaGreatDoorQ01
import Derived.Test.YtjonhenllhnibaaGreatDoorQ03
import Derived.Test.YtjonhenllhnibaaGreatDoorQ09
import Derived.Test.YtjonhenllhnibaaGreatDoorQ10
/- Keys fitted, tags and chains, in plain lists. -/
namespace Go.Proofs.YtjonhenllhnibaaGreatDoor

theorem hsumL_len (s : List UInt8) : (hsumL s).length = 32 := by rw [hsumL, bytesW_len, sumN_len]
/-- A key, or its sum if it is too long. -/
def headL (key : List UInt8) : List UInt8 := if key.length ≤ 64 then key else hsumL key
theorem headL_len (key : List UInt8) : (headL key).length ≤ 64 := by
  unfold headL
  split
  · assumption
  · rw [hsumL_len]; omega
/-- A key fitted. -/
def fitL (key : List UInt8) : List UInt8 := headL key ++ List.replicate (64 - (headL key).length) 0
theorem fitL_len (key : List UInt8) : (fitL key).length = 64 := by
  have := headL_len key
  simp [fitL]; omega
def withL (k : List UInt8) (c : UInt8) : List UInt8 := k.map fun b => b ^^^ c
theorem withL_len (k : List UInt8) (c : UInt8) : (withL k c).length = k.length := by simp [withL]
def innL (key : List UInt8) : List UInt8 := withL (fitL key) 54
def outL (key : List UInt8) : List UInt8 := withL (fitL key) 92
theorem innL_len (key : List UInt8) : (innL key).length = 64 := by rw [innL, withL_len, fitL_len]
theorem outL_len (key : List UInt8) : (outL key).length = 64 := by rw [outL, withL_len, fitL_len]
/-- A text's tag, by an inner and an outer key. -/
def tagK (i o s : List UInt8) : List UInt8 := hsumL (o ++ hsumL (i ++ s))
def mtagL (key s : List UInt8) : List UInt8 := tagK (innL key) (outL key) s
theorem tagK_len (i o s : List UInt8) : (tagK i o s).length = 32 := hsumL_len _
theorem mtagL_len (key s : List UInt8) : (mtagL key s).length = 32 := hsumL_len _
def chainK (i o : List UInt8) : List UInt8 → List (List UInt8) → List (List UInt8)
  | _, [] => []
  | first, s :: l => tagK i o (first ++ s) :: chainK i o (tagK i o (first ++ s)) l
def chainL (key first : List UInt8) (l : List (List UInt8)) : List (List UInt8) := chainK (innL key) (outL key) first l
/-- A key with a byte 0 behind it. -/
theorem fitL_zero (key : List UInt8) (h : key.length ≤ 63) : fitL (key ++ [0]) = fitL key := by
  have h1 : headL (key ++ [0]) = key ++ [0] := by unfold headL; rw [if_pos (by simp; omega)]
  have h2 : headL key = key := by unfold headL; rw [if_pos (by omega)]
  unfold fitL
  rw [h1, h2, List.append_assoc]
  congr 1
  obtain ⟨n, hn⟩ : ∃ n, 64 - key.length = n + 1 := ⟨63 - key.length, by omega⟩
  have h3 : 64 - (key ++ [0]).length = n := by simp; omega
  rw [hn, h3, List.replicate_succ]
  rfl
theorem tagL_zero (key s : List UInt8) (h : key.length ≤ 63) : mtagL (key ++ [0]) s = mtagL key s := by
  unfold mtagL innL outL
  rw [fitL_zero key h]
end Go.Proofs.YtjonhenllhnibaaGreatDoor
/- The contract of mac's fitted. -/
namespace Go.Proofs.YtjonhenllhnibaaGreatDoor
open Go.RowKit

/-- The cells of 64 bytes, of which those ahead are D, and the others 0. -/
def frow (D : List UInt8) : Array Value := (Lib.byteCells (D ++ List.replicate (64 - D.length) 0)).toArray
theorem frow_size (D : List UInt8) (h : D.length ≤ 64) : (frow D).size = 64 := by simp [frow, Lib.byteCells]; omega
theorem frow_lit : frow [] = #[.int .u8 0, .int .u8 0, .int .u8 0, .int .u8 0, .int .u8 0, .int .u8 0, .int .u8 0, .int .u8 0, .int .u8 0, .int .u8 0, .int .u8 0, .int .u8 0, .int .u8 0, .int .u8 0, .int .u8 0, .int .u8 0, .int .u8 0, .int .u8 0, .int .u8 0, .int .u8 0, .int .u8 0, .int .u8 0, .int .u8 0, .int .u8 0, .int .u8 0, .int .u8 0, .int .u8 0, .int .u8 0, .int .u8 0, .int .u8 0, .int .u8 0, .int .u8 0, .int .u8 0, .int .u8 0, .int .u8 0, .int .u8 0, .int .u8 0, .int .u8 0, .int .u8 0, .int .u8 0, .int .u8 0, .int .u8 0, .int .u8 0, .int .u8 0, .int .u8 0, .int .u8 0, .int .u8 0, .int .u8 0, .int .u8 0, .int .u8 0, .int .u8 0, .int .u8 0, .int .u8 0, .int .u8 0, .int .u8 0, .int .u8 0, .int .u8 0, .int .u8 0, .int .u8 0, .int .u8 0, .int .u8 0, .int .u8 0, .int .u8 0, .int .u8 0] := rfl
theorem bytes_one (L : List UInt8) : ∀ v ∈ Lib.byteCells L, v.oneCell' = true := by
  intro v hv
  obtain ⟨x, _, rfl⟩ := List.mem_map.1 hv
  rfl
theorem splice_gen (h : List UInt8) (N : Nat) : ((Lib.byteCells (List.replicate N 0)).take 0 ++ Lib.byteCells h ++ (Lib.byteCells (List.replicate N 0)).drop (0 + h.length)).toArray = (Lib.byteCells (h ++ List.replicate (N - h.length) 0)).toArray := by
  simp [Lib.byteCells]
theorem frow_splice (h : List UInt8) : ((frow []).toList.take 0 ++ Lib.byteCells h ++ (frow []).toList.drop (0 + h.length)).toArray = frow h := splice_gen h 64
theorem setRow_else (W : World) (g : Nat) (cells : Array Value) (k : Nat) (h : k ≠ g) : (W.setRow g cells).heap[k]? = W.heap[k]? := by
  unfold World.setRow
  simp [Array.getElem?_modify, Ne.symm h]
theorem setRow_same (W : World) (g : Nat) (cells cur : Array Value) (t : TypeId) (h : Blk W g t cur) : Blk (W.setRow g cells) g t cells := by
  unfold Blk at h ⊢
  unfold World.setRow
  simp [Array.getElem?_modify, h]

set_option maxRecDepth 100000 in
set_option maxHeartbeats 2000000 in
theorem fitted_any (key : List UInt8) (w : World) (hk : key.length ≤ 60000) :
    Calls Tryz.prog 134 #[.string ⟨key.toArray⟩] w fun e w' => e = .returned (.agg (Lib.byteCells (fitL key)).toArray) ∧ Below w.heap.size w w' := by
  have hz := size_of key
  have HR := Lib.hid (fun W => sum_any key W (by omega))
  have HF : Hid (fitL key = headL key ++ List.replicate (64 - (headL key).length) 0) := Lib.hid rfl
  have HH : Hid ((key.length ≤ 64 → headL key = key) ∧ (¬ key.length ≤ 64 → headL key = hsumL key)) := Lib.hid ⟨fun h => by unfold headL; rw [if_pos h], fun h => by unfold headL; rw [if_neg h]⟩
  have HL := Lib.hid (headL_len key)
  have HFL : Hid ((Lib.byteCells (fitL key)).length = 64) := Lib.hid (by simp [Lib.byteCells, fitL_len])
  have HONE := Lib.hid (bytes_one (fitL key))
  have HFR : Hid (frow (headL key) = (Lib.byteCells (fitL key)).toArray) := Lib.hid rfl
  obtain ⟨n, hn⟩ : ∃ n, key.length = n := ⟨_, rfl⟩
  rw [hn] at hz hk HH
  generalize Lib.byteCells (fitL key) = F at HFL HONE HFR ⊢
  generalize headL key = h at HF HH HL HFR
  generalize hsumL key = S at HR HH
  clear HF
  have h0 := Blk.new w 161 (frow [])
  have B0 := Lib.hid h0
  clear hn h0
  go_enter Tryz.func134, Tryz.ntmps134
  go_upto_if 6 with fail
  go_cut [0] from 4 to 8 (fun s0 wx => s0 = .string ⟨h.toArray⟩ ∧ Hid (Blk wx w.heap.size 161 (frow [])) ∧ Below w.heap.size w wx)
  case first =>
    by_cases hle : n ≤ 64
    · have hh := HH.out.1 hle
      have hi : ¬ (64 : Int) < (n : Int) := by omega
      go_wp2_with fail
      go_meet
      exact ⟨by rw [hh], B0, ba (Below.refl _ _) _⟩
    · have hh := HH.out.2 hle
      have hi : (64 : Int) < (n : Int) := by omega
      go_wp2_with fail
      refine (HR.out _).mono ?_
      rintro e w1 ⟨rfl, hb1⟩
      go_wp2_with fail
      go_meet
      exact ⟨by rw [hh], Lib.hid (B0.out.below hb1), bt (ba (Below.refl _ _) _) hb1⟩
  case rest =>
    obtain ⟨rfl, BC, hbc⟩ := hcut
    clear hz B0
    have z1 := hbc.size
    have hn1 := BC.out.lt
    have hal := Blk.new wc 161 (frow [])
    have hsz := size_of h
    have hcp := Lib.run_copy_row_string (P := Tryz.prog) (wc.alloc (.cells (frow []) 161)) 90 9 3 5 wc.heap.size 0 64 64 ⟨h.toArray⟩ (frow []) 161 Tryz.underlying90 (by kernel_rfl) hal (by rw [hsz]; exact HL.out) (by rw [hsz, frow_size _ (by simp)]; have := HL.out; omega)
    rw [hsz, frow_splice h, HFR.out] at hcp
    have H1 := Lib.hid (setRow_same _ _ F.toArray _ _ hal)
    have H0 : Hid (Blk ((wc.alloc (.cells (frow []) 161)).setRow wc.heap.size F.toArray) w.heap.size 161 (frow [])) := Lib.hid ((setRow_else _ _ _ _ (by omega)).trans (BC.out.alloc _))
    have HB : Hid (Below w.heap.size w ((wc.alloc (.cells (frow []) 161)).setRow wc.heap.size F.toArray)) := Lib.hid (Below.trans (ba hbc _) ⟨rfl, rfl, rfl, by simp [World.setRow], fun k hk => setRow_else _ _ _ _ (by omega)⟩)
    have HS0 := Lib.hid (frow_size [] (by simp))
    clear hal
    generalize (wc.alloc (.cells (frow []) 161)).setRow wc.heap.size F.toArray = w2 at hcp H1 H0 HB
    rw [frow_lit] at hcp
    go_wp2_with (first | (refine wpList_load_row rfl _ _ rfl _ rfl _ _ _ _ H1.out Tryz.underlying161 rfl (by rw [List.size_toArray, HFL.out]; kernel_rfl) ?_) | (refine wpList_store_mid rfl _ _ _ rfl _ _ F.toArray rfl rfl (H0.out.there (by rw [List.size_toArray, HFL.out, HS0.out]; exact Nat.le_refl _)) (by rw [List.size_toArray, HFL.out]; kernel_rfl) (all_oneCell_toArray HONE.out) ?_))
    have hW := H0.out.whole F (by rw [HFL.out, HS0.out])
    refine bodyPost_ret (v := .agg F.toArray) (results_cell_row rfl _ _ _ _ _ _ _ rfl hW Tryz.underlying161 rfl (by rw [List.size_toArray, HFL.out]; kernel_rfl)) rfl ⟨rfl, bw HB.out (Nat.le_refl _) _ _⟩
end Go.Proofs.YtjonhenllhnibaaGreatDoor
/- joinRen: the numbers under which the library's contracts find it. -/
namespace Go.Proofs.YtjonhenllhnibaaGreatDoor
open Go.Shelf Go.RowKit
def joinRen : Go.Shelf.Ren := ⟨fun | 156 => 70 | 165 => 94 | 166 => 95 | 169 => 98 | 240 => 120 | 241 => 121 | 276 => 132 | 277 => 133 | n => n, fun | 0 => 0 | 3 => 3 | 4 => 4 | 5 => 5 | 9 => 9 | 20 => 20 | 31 => 43 | 37 => 90 | 70 => 125 | 72 => 127 | 75 => 130 | 76 => 131 | 80 => 101 | 127 => 159 | 164 => 170 | n => n, fun | n => n⟩
theorem joinLays156 : Go.Proofs.Lays.n156 Tryz.prog joinRen := {
  mixed := by kernel_rfl
  f156 := Tryz.func70.trans (congrArg some (by kernel_rfl))
  f165 := Tryz.func94.trans (congrArg some (by kernel_rfl))
  f166 := Tryz.func95.trans (congrArg some (by kernel_rfl))
  f169 := Tryz.func98.trans (congrArg some (by kernel_rfl))
  f240 := Tryz.func120.trans (congrArg some (by kernel_rfl))
  f241 := Tryz.func121.trans (congrArg some (by kernel_rfl))
  f276 := Tryz.func132.trans (congrArg some (by kernel_rfl))
  f277 := Tryz.func133.trans (congrArg some (by kernel_rfl))
  t0 := Tryz.underlying0
  a0 := Tryz.isAgg0
  z0 := Tryz.sizeOf0
  v0 := Tryz.zeroValue0
  t3 := Tryz.underlying3
  a3 := Tryz.isAgg3
  z3 := Tryz.sizeOf3
  v3 := Tryz.zeroValue3
  t4 := Tryz.underlying4
  a4 := Tryz.isAgg4
  z4 := Tryz.sizeOf4
  v4 := Tryz.zeroValue4
  t9 := Tryz.underlying9
  a9 := Tryz.isAgg9
  z9 := Tryz.sizeOf9
  v9 := Tryz.zeroValue9
  t20 := Tryz.underlying20
  a20 := Tryz.isAgg20
  z20 := Tryz.sizeOf20
  v20 := Tryz.zeroValue20
  t31 := Tryz.underlying43
  a31 := Tryz.isAgg43
  z31 := Tryz.sizeOf43
  v31 := Tryz.zeroValue43
  t37 := Tryz.underlying90
  a37 := Tryz.isAgg90
  z37 := Tryz.sizeOf90
  v37 := Tryz.zeroValue90
  t70 := Tryz.underlying125
  a70 := Tryz.isAgg125
  z70 := Tryz.sizeOf125
  v70 := Tryz.zeroValue125
  t72 := Tryz.underlying127
  a72 := Tryz.isAgg127
  z72 := Tryz.sizeOf127
  v72 := Tryz.zeroValue127
  t75 := Tryz.underlying130
  a75 := Tryz.isAgg130
  z75 := Tryz.sizeOf130
  v75 := Tryz.zeroValue130
  t76 := Tryz.underlying131
  a76 := Tryz.isAgg131
  z76 := Tryz.sizeOf131
  v76 := Tryz.zeroValue131
  t127 := Tryz.underlying159
  a127 := Tryz.isAgg159
  z127 := Tryz.sizeOf159
  v127 := Tryz.zeroValue159
  t164 := Tryz.underlying170
  a164 := Tryz.isAgg170
  z164 := Tryz.sizeOf170
  v164 := Tryz.zeroValue170 }
theorem joinLaysExtra : Go.Proofs.Builder.Extra Tryz.prog joinRen := {
  sizeBuilder := by kernel_rfl
  liesBuilder := by kernel_rfl
  t5 := Tryz.underlying5
  a5 := Tryz.isAgg5
  z5 := Tryz.sizeOf5
  v5 := Tryz.zeroValue5
  infoByte := by kernel_rfl
  cellsByte := by kernel_rfl
  sizeByte := by kernel_rfl
  neB5 := by decide }
end Go.Proofs.YtjonhenllhnibaaGreatDoor
/- The contracts of the reference's with, fitted and Tag, and of joined. -/
namespace Go.Proofs.YtjonhenllhnibaaGreatDoor
open Go.RowKit

theorem withL_take (l : List UInt8) (c : UInt8) (k : Nat) (h : k < l.length) : withL (l.take (k + 1)) c = withL (l.take k) c ++ [l.getD k 0 ^^^ c] := by
  unfold withL
  rw [List.take_succ_eq_append_getElem h, List.map_append]
  simp [List.getD, h]

set_option maxRecDepth 100000 in
set_option maxHeartbeats 1000000 in
theorem rwith_any (l : List UInt8) (c : UInt8) (w : World) (hl : l.length ≤ 1048576) :
    Calls Tryz.prog 128 #[.string ⟨l.toArray⟩, .int .u8 (c.toNat : Int)] w fun e w' => e = .returned (.string ⟨(withL l c).toArray⟩) ∧ Below w.heap.size w w' := by
  have hz := size_of l
  obtain ⟨n, hn⟩ : ∃ n, l.length = n := ⟨_, rfl⟩
  rw [hn] at hz hl
  have HN := Lib.hid hn
  clear hn
  go_enter Tryz.func128, Tryz.ntmps128
  go_wp2
  go_loopw [5, 6] (fun ov iv wr => ∃ k : Nat, k ≤ n ∧ iv = .int .i64 k ∧ ov = .string ⟨(withL (l.take k) c).toArray⟩ ∧ Below w.heap.size w wr) (fun _ i _ => n - (intOf i).toNat)
  case atStart => exact ⟨0, Nat.zero_le _, rfl, rfl, Below.refl _ _⟩
  case round =>
    obtain ⟨k, hk, rfl, rfl, hb⟩ := hrel
    by_cases hlt : k < n
    · have HT := Lib.hid (withL_take l c k (by rw [HN.out]; exact hlt))
      have hix := at_get l k (by rw [HN.out]; exact hlt)
      obtain ⟨x, hx⟩ : ∃ x, l.getD k 0 = x := ⟨_, rfl⟩
      rw [hx] at HT hix
      have hix2 := index_is ⟨l.toArray⟩ k k x rfl hix
      have hxr := xor_byte x c
      obtain ⟨y, hy⟩ : ∃ y, x ^^^ c = y := ⟨_, rfl⟩
      rw [hy] at HT hxr
      have hcv := one_byte y
      have hwl : (withL (l.take k) c).length ≤ 1048576 := by rw [withL_len, List.length_take]; omega
      have hadd : ∀ W : World, (Op.stringOp .add ⟨(withL (l.take k) c).toArray⟩ ⟨[y].toArray⟩).run Tryz.prog W = .ok (.string ⟨(withL (l.take k) c ++ [y]).toArray⟩) W := fun W => run_string_add_lists (P := Tryz.prog) W _ _ (by omega) (by simp)
      clear hix hx hy hwl
      have i1 : (0 : Int) ≤ (k : Int) := by omega
      have i2 : (k : Int) < (n : Int) := by omega
      go_wp2
      exact ⟨⟨k + 1, by omega, by go_num, by rw [HT.out], ba hb _⟩, by simp [intOf]; omega⟩
    · obtain rfl : k = n := by omega
      have htk : l.take k = l := List.take_of_length_le (by rw [HN.out]; exact Nat.le_refl _)
      rw [htk]
      clear htk
      go_wp2
      go_ret
      exact ⟨rfl, hb⟩

set_option maxRecDepth 100000 in
set_option maxHeartbeats 1000000 in
theorem rfitted_any (key : List UInt8) (w : World) (hk : key.length ≤ 60000) :
    Calls Tryz.prog 127 #[.string ⟨key.toArray⟩] w fun e w' => e = .returned (.string ⟨(fitL key).toArray⟩) ∧ Below w.heap.size w w' := by
  have hz := size_of key
  have tail : ∀ (h : List UInt8) (wo : World) (kv : Value), h.length ≤ 64 → True := fun _ _ _ _ => trivial
  clear tail
  have HR := Lib.hid (fun W => hrsum_any rwords_holds key W (by omega))
  have HS := Lib.hid (hsumL_len key)
  have HF : Hid (fitL key = headL key ++ List.replicate (64 - (headL key).length) 0) := Lib.hid rfl
  have HH : Hid ((key.length ≤ 64 → headL key = key) ∧ (¬ key.length ≤ 64 → headL key = hsumL key)) := Lib.hid ⟨fun h => by unfold headL; rw [if_pos h], fun h => by unfold headL; rw [if_neg h]⟩
  have HL := Lib.hid (headL_len key)
  obtain ⟨n, hn⟩ : ∃ n, key.length = n := ⟨_, rfl⟩
  rw [hn] at hz hk HH
  generalize fitL key = F at HF ⊢
  generalize headL key = h at HF HH HL
  generalize hsumL key = S at HR HS HH
  obtain ⟨m, hm⟩ : ∃ m, h.length = m := ⟨_, rfl⟩
  rw [hm] at HF HL
  have HM := Lib.hid hm
  clear hm hn
  go_enter Tryz.func127, Tryz.ntmps127
  go_upto_if 5 with fail
  go_cut [0] from 3 to 7 (fun s0 wx => s0 = .string ⟨h.toArray⟩ ∧ Below w.heap.size w wx)
  case first =>
    by_cases hle : n ≤ 64
    · have hh := HH.out.1 hle
      have hi : ¬ (64 : Int) < (n : Int) := by omega
      go_wp2_with fail
      go_meet
      exact ⟨by rw [hh], Below.refl _ _⟩
    · have hh := HH.out.2 hle
      have hi : (64 : Int) < (n : Int) := by omega
      go_wp2_with fail
      refine (HR.out _).mono ?_
      rintro e w1 ⟨rfl, hb1⟩
      go_wp2_with fail
      go_meet
      exact ⟨by rw [hh], hb1⟩
  case rest =>
    obtain ⟨rfl, hbc⟩ := hcut
    clear hz
    go_wp2_with fail
    go_loopw [0] (fun ov wr => ∃ k : Nat, k ≤ 64 - m ∧ ov = .string ⟨(h ++ List.replicate k 0).toArray⟩ ∧ Below w.heap.size w wr) (fun o _ => match o with | .string x => 64 - x.size | _ => 0)
    case atStart => exact ⟨0, Nat.zero_le _, by simp, hbc⟩
    case round =>
      obtain ⟨k, hk, rfl, hb⟩ := hrel
      obtain ⟨S, hS⟩ : ∃ S, h ++ List.replicate k 0 = S := ⟨_, rfl⟩
      have hl : S.length = m + k := by rw [← hS, ← HM.out]; simp
      have hsz := size_of S
      rw [hl] at hsz
      have hS1 : h ++ List.replicate (k + 1) 0 = S ++ [0] := by rw [← hS, List.replicate_succ']; simp
      rw [hS]
      have hl64 := HL.out
      by_cases hlt : k < 64 - m
      · have hi : (m : Int) + (k : Int) < 64 := by omega
        have hadd2 : ∀ W : World, (Op.stringOp .add ⟨S.toArray⟩ ⟨[0].toArray⟩).run Tryz.prog W = .ok (.string ⟨(S ++ [0]).toArray⟩) W := fun W => run_string_add_lists (P := Tryz.prog) W S [0] (by omega) (by simp)
        have hcz : ∀ W : World, (convert 90 9 (.slice (some ⟨W.heap.size, 0, none⟩) 1 1)).run Tryz.prog (W.alloc (.cells #[.int .u8 0] 5)) = .ok (.string ⟨[0].toArray⟩) (W.alloc (.cells #[.int .u8 0] 5)) := fun W => one_byte 0 W
        have HS1 := Lib.hid hS1
        have HLE := Lib.hid hl
        clear hS1 hS hl
        go_wp2
        refine ⟨⟨k + 1, by omega, by rw [HS1.out], ba hb _⟩, ?_⟩
        show 64 - (⟨(S ++ [0]).toArray⟩ : ByteArray).size < 64 - (⟨S.toArray⟩ : ByteArray).size
        rw [size_of, size_of, List.length_append, HLE.out]
        simp
        omega
      · obtain rfl : k = 64 - m := by omega
        have hi : ¬ (m : Int) + ((64 - m : Nat) : Int) < 64 := by omega
        have HH2 := Lib.hid hS
        clear hS1 hS hl
        go_wp2
        go_ret
        rw [HF.out, HH2.out]
        exact ⟨rfl, hb⟩
end Go.Proofs.YtjonhenllhnibaaGreatDoor
/- The contracts of keysOf and its closure. -/
namespace Go.Proofs.YtjonhenllhnibaaGreatDoor
open Go.RowKit

/-- A key's bytes, of which the first are xor-ed. -/
def xlist (K : List UInt8) (c : UInt8) (k : Nat) : List UInt8 := withL (K.take k) c ++ K.drop k
def xrow (K : List UInt8) (c : UInt8) (k : Nat) : Array Value := (Lib.byteCells (xlist K c k)).toArray
theorem xlist_len (K : List UInt8) (c : UInt8) (k : Nat) : (xlist K c k).length = K.length := by simp [xlist, withL]; omega
theorem xlist_all (K : List UInt8) (c : UInt8) : xlist K c K.length = withL K c := by simp [xlist]
theorem xrow_set (K : List UInt8) (c : UInt8) (k : Nat) (h : k < K.length) : (xrow K c k).setIfInBounds k (.int .u8 ((K.getD k 0 ^^^ c).toNat : Int)) = xrow K c (k + 1) := by
  unfold xrow xlist
  rw [withL_take K c k h]
  obtain ⟨x, r, hx⟩ : ∃ x r, K.drop k = x :: r := ⟨_, _, List.drop_eq_getElem_cons h⟩
  have hr : K.drop (k + 1) = r := by rw [← List.tail_drop, hx]; rfl
  have hl : (withL (K.take k) c).length = k := by rw [withL_len, List.length_take]; omega
  rw [hx, hr]
  generalize withL (K.take k) c = A at hl
  subst hl
  simp [Lib.byteCells]
theorem xrow_at (K : List UInt8) (c : UInt8) (k : Nat) (h : k < K.length) : (xrow K c k)[k]? = some (.int .u8 ((K.getD k 0).toNat : Int)) := by
  unfold xrow xlist
  have hl : (withL (K.take k) c).length = k := by rw [withL_len, List.length_take]; omega
  have hd : K.drop k = K.getD k 0 :: K.drop (k + 1) := by rw [List.drop_eq_getElem_cons h]; simp [List.getD, h]
  rw [hd]
  generalize withL (K.take k) c = A at hl
  subst hl
  simp [Lib.byteCells]

set_option maxRecDepth 100000 in
set_option maxHeartbeats 2000000 in
theorem masked_any (K : List UInt8) (c : UInt8) (b : Nat) (w : World) (hK : K.length = 64) (h : Blk w b 161 (Lib.byteCells K).toArray) :
    Calls Tryz.prog 135 #[.int .u8 (c.toNat : Int), .pointer (some ⟨b, 0, none⟩)] w fun e w' => e = .returned (.string ⟨(withL K c).toArray⟩) ∧ Below w.heap.size w w' := by
  have HB := Lib.hid h
  have HKL := Lib.hid hK
  have HFL : Hid ((Lib.byteCells K).length = 64) := Lib.hid (by simp [Lib.byteCells, hK])
  have HONE := Lib.hid (bytes_one K)
  have HX0 : Hid ((Lib.byteCells K).toArray = xrow K c 0) := Lib.hid (by simp [xrow, xlist, withL])
  have z0 := h.lt
  have HZS : Hid ((frow []).size = 64) := Lib.hid (frow_size [] (by simp))
  obtain ⟨F, hF⟩ : ∃ F, Lib.byteCells K = F := ⟨_, rfl⟩
  rw [hF] at HB HFL HONE HX0
  clear h hK hF
  go_enter Tryz.func135, Tryz.ntmps135
  have HZ := Lib.hid (Blk.new w 161 (frow []))
  go_wp2_with (first | (refine wpList_load_row rfl _ _ rfl _ rfl _ _ _ _ HB.out Tryz.underlying161 rfl (by rw [List.size_toArray, HFL.out]; kernel_rfl) ?_) | (refine wpList_store_mid rfl _ _ _ rfl _ _ F.toArray rfl rfl (HZ.out.there (by rw [List.size_toArray, HFL.out, HZS.out]; exact Nat.le_refl _)) (by rw [List.size_toArray, HFL.out]; kernel_rfl) (all_oneCell_toArray HONE.out) ?_))
  generalize hw2 : World.setCells (World.alloc w (Obj.cells _ 161)) w.heap.size 0 F = w2
  have S2 : Hid (Blk w2 w.heap.size 161 F.toArray) := Lib.hid (by rw [← hw2]; exact HZ.out.whole F (by rw [HFL.out, HZS.out]))
  have hB2 : Below w.heap.size w w2 := by rw [← hw2]; exact bw (ba (Below.refl _ _) _) (Nat.le_refl _) _ _
  rw [HX0.out] at S2
  clear hw2 HZ HZS HFL HONE HX0 HB
  go_loopw [7] (fun iv wr => ∃ k : Nat, k ≤ 64 ∧ iv = .int .i64 k ∧ Blk wr w.heap.size 161 (xrow K c k) ∧ Below w.heap.size w wr) (fun i _ => 64 - (intOf i).toNat)
  case atStart => exact ⟨0, Nat.zero_le _, rfl, S2.out, hB2⟩
  case round =>
    clear S2 hB2
    obtain ⟨k, hk, rfl, hx, hb⟩ := hrel
    by_cases hlt : k < 64
    · have c0 := (hx.cell k).trans (xrow_at K c k (by rw [HKL.out]; exact hlt))
      have f0 := hx.frozen k
      have HS := Lib.hid (xrow_set K c k (by rw [HKL.out]; exact hlt))
      obtain ⟨x, hxx⟩ : ∃ x, K.getD k 0 = x := ⟨_, rfl⟩
      rw [hxx] at c0 HS
      have hxr := xor_byte x c
      obtain ⟨y, hy⟩ : ∃ y, x ^^^ c = y := ⟨_, rfl⟩
      rw [hy] at hxr HS
      clear hxx hy
      have i1 : (0 : Int) ≤ (k : Int) := by omega
      have i2 : (k : Int) < 64 := by omega
      have HX := Lib.hid hx
      clear hx
      go_wp2
      exact ⟨⟨k + 1, by omega, by go_num, by have := HX.out.set_ k (.int .u8 (y.toNat : Int)); rw [HS.out] at this; exact this, bs hb (Nat.le_refl _) _⟩, by simp [intOf]; omega⟩
    · obtain rfl : k = 64 := by omega
      have hall := xlist_all K c
      rw [HKL.out] at hall
      have hwl : (withL K c).length = 64 := by rw [withL_len, HKL.out]
      unfold xrow at hx
      rw [hall] at hx
      have hcv := run_convert_bytes_back (P := Tryz.prog) wr 90 9 5 ⟨w.heap.size, 0, none⟩ 64 (withL K c) Tryz.underlying90 Tryz.underlying5 Tryz.underlying9 (fun j hj => by
        rw [Addr.add_mid, Nat.zero_add, hx.cell j]
        simp [Lib.byteCells, hj])
      rw [hwl] at hcv
      clear hx hall
      go_wp2
      go_ret
      exact ⟨rfl, hb⟩

set_option maxRecDepth 100000 in
set_option maxHeartbeats 2000000 in
theorem keysOf_any (key : List UInt8) (w : World) (hk : key.length ≤ 60000) :
    Calls Tryz.prog 124 #[.string ⟨key.toArray⟩] w fun e w' => e = .returned (.agg #[.string ⟨(innL key).toArray⟩, .string ⟨(outL key).toArray⟩]) ∧ Below w.heap.size w w' := by
  have HF : Hid (∀ W, Calls Tryz.prog 134 #[.string ⟨key.toArray⟩] W fun e w' => e = .returned (.agg (Lib.byteCells (fitL key)).toArray) ∧ Below W.heap.size W w') := Lib.hid fun W => fitted_any key W hk
  have HFL : Hid ((Lib.byteCells (fitL key)).length = 64) := Lib.hid (by simp [Lib.byteCells, fitL_len])
  have HONE := Lib.hid (bytes_one (fitL key))
  have HM : Hid (∀ (c : UInt8) (b : Nat) (W : World), Blk W b 161 (Lib.byteCells (fitL key)).toArray → Calls Tryz.prog 135 #[.int .u8 (c.toNat : Int), .pointer (some ⟨b, 0, none⟩)] W fun e w' => e = .returned (.string ⟨(withL (fitL key) c).toArray⟩) ∧ Below W.heap.size W w') := Lib.hid fun c b W h => masked_any (fitL key) c b W (fitL_len key) h
  have HZS : Hid ((frow []).size = 64) := Lib.hid (frow_size [] (by simp))
  have HI : Hid (innL key = withL (fitL key) 54) := Lib.hid rfl
  have HO : Hid (outL key = withL (fitL key) 92) := Lib.hid rfl
  obtain ⟨F, hF⟩ : ∃ F, Lib.byteCells (fitL key) = F := ⟨_, rfl⟩
  rw [hF] at HF HFL HONE HM
  clear hF
  rw [HI.out, HO.out]
  clear HI HO
  have R0 := Lib.hid (Blk.new w 163 #[.string ⟨#[]⟩, .string ⟨#[]⟩])
  go_enter Tryz.func124, Tryz.ntmps124
  go_wp2_with fail
  refine (HF.out _).mono ?_
  rintro e w1 ⟨rfl, hb1⟩
  have R1 := Lib.hid (R0.out.below hb1)
  have hB1 := bt (ba (Below.refl w.heap.size w) (.cells #[.string ⟨#[]⟩, .string ⟨#[]⟩] 163)) hb1
  have n1 := R1.out.lt
  clear R0 hb1
  have HZ := Lib.hid (Blk.new w1 161 (frow []))
  go_wp2_with (refine wpList_store_mid rfl _ _ _ rfl _ _ F.toArray rfl rfl (HZ.out.there (by rw [List.size_toArray, HFL.out, HZS.out]; exact Nat.le_refl _)) (by rw [List.size_toArray, HFL.out]; kernel_rfl) (all_oneCell_toArray HONE.out) ?_)
  generalize hw2 : World.setCells (World.alloc w1 (Obj.cells _ 161)) w1.heap.size 0 F = w2
  have S2 : Hid (Blk w2 w1.heap.size 161 F.toArray) := Lib.hid (by rw [← hw2]; exact HZ.out.whole F (by rw [HFL.out, HZS.out]))
  have R2 : Hid (Blk w2 w.heap.size 163 #[.string ⟨#[]⟩, .string ⟨#[]⟩]) := Lib.hid (by rw [← hw2]; exact (R1.out.alloc _).far_ (by omega) _ _)
  have hB2 : Below w.heap.size w w2 := by rw [← hw2]; exact bw (ba hB1 _) (by omega) _ _
  obtain ⟨b, hbb⟩ : ∃ b, w1.heap.size = b := ⟨_, rfl⟩
  rw [hbb] at S2 ⊢
  clear hw2 HZ HZS HFL HONE R1 hB1 n1 hbb w1
  go_wp2_with fail
  refine (HM.out 54 b w2 S2.out).mono ?_
  rintro e w3 ⟨rfl, hb3⟩
  have S3 := Lib.hid (S2.out.below hb3)
  have R3 := Lib.hid (R2.out.below hb3)
  have hB3 := bt hB2 hb3
  clear S2 R2 hB2 hb3
  go_wp2_with fail
  refine (HM.out 92 b w3 S3.out).mono ?_
  rintro e w4 ⟨rfl, hb4⟩
  have R4 := R3.out.below hb4
  have hB4 := bt hB3 hb4
  clear S3 R3 hB3 hb4
  have c0 := R4.at_ (i := 0) rfl
  have c1 := R4.at_ (i := 1) rfl
  obtain ⟨c0, f0⟩ := c0
  obtain ⟨c1, f1⟩ := c1
  have hW : Blk ((w4.setCell ⟨w.heap.size, 0, none⟩ (.string ⟨(withL (fitL key) 54).toArray⟩)).setCell ⟨w.heap.size, 1, none⟩ (.string ⟨(withL (fitL key) 92).toArray⟩)) w.heap.size 163 #[.string ⟨(withL (fitL key) 54).toArray⟩, .string ⟨(withL (fitL key) 92).toArray⟩] := (R4.set_ 0 _).set_ 1 _
  have HW := Lib.hid hW
  clear R4 hW
  go_wp2_with fail
  refine bodyPost_ret (v := .agg #[.string ⟨(withL (fitL key) 54).toArray⟩, .string ⟨(withL (fitL key) 92).toArray⟩]) (results_cell_row rfl _ _ _ _ _ _ _ rfl HW.out Tryz.underlying163 rfl (by kernel_rfl)) rfl ⟨rfl, bs (bs hB4 (Nat.le_refl _) _) (Nat.le_refl _) _⟩
end Go.Proofs.YtjonhenllhnibaaGreatDoor
/- The contract of joined. -/
namespace Go.Proofs.YtjonhenllhnibaaGreatDoor
open Go.RowKit

set_option maxRecDepth 100000 in
set_option maxHeartbeats 1000000 in
theorem joined_any (a b : List UInt8) (g : Nat) (w : World) (hc0 : w.cell? ⟨g, 0, none⟩ = some (.string ⟨a.toArray⟩)) (hc1 : w.cell? ⟨g, 1, none⟩ = some (.string ⟨b.toArray⟩)) (hl : a.length + b.length ≤ 1048576) :
    Calls Tryz.prog 136 #[.slice (some ⟨g, 0, none⟩) 2 2] w fun e w' => e = .returned (.string ⟨(a ++ b).toArray⟩) ∧ Below w.heap.size w w' := by
  have hg := World.block_lt_of_cell? _ _ hc0
  have hj : (Lib.join ([⟨a.toArray⟩, ⟨b.toArray⟩].map fun x : ByteArray => x.data.toList) []) = a ++ b := by simp [Lib.join, List.intercalate]
  have HJ : Hid (Calls Tryz.prog 70 #[.slice (some ⟨g, 0, none⟩) 2 2, .string ⟨#[]⟩] w fun e w' => e = .returned (.string ⟨(a ++ b).toArray⟩) ∧ Below w.heap.size w w') := Lib.hid (by
    have := Any.strings_Join joinLays156 joinLaysExtra g 0 2 [⟨a.toArray⟩, ⟨b.toArray⟩] ⟨#[]⟩ w (fun j x hx => by
      rcases j with _ | _ | j
      · obtain rfl : _ = x := by simpa using hx
        exact hc0
      · obtain rfl : _ = x := by simpa using hx
        exact hc1
      · simp at hx) hg (by simp) (by simp) (by rw [hj, List.length_append]; omega)
    rw [hj] at this
    exact this)
  clear hj hl
  go_enter Tryz.func136, Tryz.ntmps136
  go_wp2_with fail
  refine HJ.out.mono ?_
  rintro e w1 ⟨rfl, hb⟩
  go_wp2
  go_ret
  exact ⟨rfl, hb⟩
end Go.Proofs.YtjonhenllhnibaaGreatDoor
/- The contracts of tag, Tag and Check. -/
namespace Go.Proofs.YtjonhenllhnibaaGreatDoor
open Go.RowKit

theorem three_of {w0 W : World} {b : Nat} {x y : Value} (h0 : w0.cell? ⟨b, 0, none⟩ = some x) (h1 : w0.cell? ⟨b, 1, none⟩ = some y) (h : Below w0.heap.size w0 W) : W.cell? ⟨b, 0, none⟩ = some x ∧ W.cell? ⟨b, 1, none⟩ = some y ∧ Below w0.heap.size w0 W :=
  ⟨cell_later h h0, cell_later h h1, h⟩

set_option maxRecDepth 100000 in
set_option maxHeartbeats 2000000 in
theorem tag_any (i o s : List UInt8) (w : World) (hi : i.length = 64) (ho : o.length = 64) (hs : s.length ≤ 60000) :
    Calls Tryz.prog 125 #[.agg #[.string ⟨i.toArray⟩, .string ⟨o.toArray⟩], .string ⟨s.toArray⟩] w fun e w' => e = .returned (.string ⟨(tagK i o s).toArray⟩) ∧ Below w.heap.size w w' := by
  have J1 := Lib.hid (fun g W h0 h1 => joined_any i s g W h0 h1 (by omega))
  have hl := hsumL_len (i ++ s)
  have S1 := Lib.hid (fun W => sum_any (i ++ s) W (by rw [List.length_append]; omega))
  have HT : Hid (tagK i o s = hsumL (o ++ hsumL (i ++ s))) := Lib.hid rfl
  generalize hsumL (i ++ s) = T at hl S1 HT
  have J2 := Lib.hid (fun g W h0 h1 => joined_any o T g W h0 h1 (by omega))
  have S2 := Lib.hid (fun W => sum_any (o ++ T) W (by rw [List.length_append]; omega))
  generalize i ++ s = A at J1 S1
  rw [← HT.out] at S2
  clear HT
  generalize o ++ T = B at J2 S2
  generalize tagK i o s = U at S2 ⊢
  clear hi ho hs hl
  have R0 := Blk.new w 163 #[.string ⟨i.toArray⟩, .string ⟨o.toArray⟩]
  have hB0 := ba (Below.refl w.heap.size w) (.cells #[.string ⟨i.toArray⟩, .string ⟨o.toArray⟩] 163)
  go_enter Tryz.func125, Tryz.ntmps125
  go_upto_region 1 with (fail)
  have c0 := R0.cell 0
  have c1 := R0.cell 1
  simp only [List.getElem?_toArray, List.getElem?_cons_zero, List.getElem?_cons_succ] at c0 c1
  generalize hw0 : w.alloc (.cells #[.string ⟨i.toArray⟩, .string ⟨o.toArray⟩] 163) = w0 at c0 c1 hB0 ⊢
  clear hw0 R0
  go_region_held3 (fun W => W.cell? ⟨w.heap.size, 0, none⟩ = some (.string ⟨i.toArray⟩) ∧ W.cell? ⟨w.heap.size, 1, none⟩ = some (.string ⟨o.toArray⟩) ∧ Below w0.heap.size w0 W) (first | assumption | exact three_of c0 c1 (Below.refl _ _).drew | exact three_of c0 c1 (ba (Below.refl _ _).drew _) | exact three_of c0 c1 (ba (by assumption : _ ∧ _ ∧ Below w0.heap.size w0 _).2.2 _)) (first
    | (go_at_call 136; refine (J1.out _ _ (by simp) (by simp)).mono ?_; rintro e w1 ⟨rfl, hb1⟩; have hS1 := three_of c0 c1 (bt (ba (Below.refl w0.heap.size w0).drew _) hb1))
    | (go_at_call 136; refine (J2.out _ _ (by simp) (by simp)).mono ?_; rintro e w1 ⟨rfl, hb1⟩; have hS1 := three_of c0 c1 (bt (ba (by assumption : _ ∧ _ ∧ Below w0.heap.size w0 _).2.2 _) hb1))
    | (go_at_call 42; (with_reducible refine (S1.out _).mono ?_); rintro e w1 ⟨rfl, hb1⟩; have hS1 := three_of c0 c1 (bt (by assumption : _ ∧ _ ∧ Below w0.heap.size w0 _).2.2 hb1))
    | (go_at_call 42; (with_reducible refine (S2.out _).mono ?_); rintro e w1 ⟨rfl, hb1⟩; have hS1 := three_of c0 c1 (bt (by assumption : _ ∧ _ ∧ Below w0.heap.size w0 _).2.2 hb1)))
  go_wp2_with fail
  go_ret
  exact ⟨rfl, bt hB0 hS1.2.2⟩

set_option maxRecDepth 100000 in
set_option maxHeartbeats 1000000 in
theorem mtag_any (key s : List UInt8) (w : World) (hk : key.length ≤ 60000) (hs : s.length ≤ 60000) :
    Calls Tryz.prog 104 #[.string ⟨key.toArray⟩, .string ⟨s.toArray⟩] w fun e w' => e = .returned (.string ⟨(mtagL key s).toArray⟩) ∧ Below w.heap.size w w' := by
  go_enter Tryz.func104, Tryz.ntmps104
  go_wp2_with fail
  refine (keysOf_any key _ hk).mono ?_
  rintro e w1 ⟨rfl, hb1⟩
  go_wp2_with fail
  refine (tag_any (innL key) (outL key) s _ (innL_len key) (outL_len key) hs).mono ?_
  rintro e w2 ⟨rfl, hb2⟩
  go_wp2_with fail
  go_ret
  exact ⟨rfl, bt hb1 hb2⟩

set_option maxRecDepth 100000 in
set_option maxHeartbeats 1000000 in
theorem rtag_any (key s : List UInt8) (w : World) (hk : key.length ≤ 60000) (hs : s.length ≤ 60000) :
    Calls Tryz.prog 107 #[.string ⟨key.toArray⟩, .string ⟨s.toArray⟩] w fun e w' => e = .returned (.string ⟨(mtagL key s).toArray⟩) ∧ Below w.heap.size w w' := by
  have hF := fitL_len key
  have HI : Hid (innL key = withL (fitL key) 54) := Lib.hid rfl
  have HO : Hid (outL key = withL (fitL key) 92) := Lib.hid rfl
  have hil := innL_len key
  have hol := outL_len key
  have W1 := Lib.hid (fun W => rwith_any (fitL key) 54 W (by omega))
  have W2 := Lib.hid (fun W => rwith_any (fitL key) 92 W (by omega))
  have R0 := Lib.hid (rfitted_any key w hk)
  rw [← HI.out] at W1
  rw [← HO.out] at W2
  have HT : Hid (mtagL key s = hsumL (outL key ++ hsumL (innL key ++ s))) := Lib.hid rfl
  generalize innL key = I at W1 hil HT
  generalize outL key = O at W2 hol HT
  generalize fitL key = F at W1 W2 R0 hF
  clear HI HO
  have a1 : ∀ W : World, (Op.stringOp .add ⟨I.toArray⟩ ⟨s.toArray⟩).run Tryz.prog W = .ok (.string ⟨(I ++ s).toArray⟩) W := fun W => run_string_add_lists (P := Tryz.prog) W _ _ (by omega) (by omega)
  have S1 := Lib.hid (fun W => hrsum_any rwords_holds (I ++ s) W (by rw [List.length_append]; omega))
  have hl := hsumL_len (I ++ s)
  generalize hsumL (I ++ s) = T at hl S1 HT
  generalize I ++ s = A at a1 S1
  have a2 : ∀ W : World, (Op.stringOp .add ⟨O.toArray⟩ ⟨T.toArray⟩).run Tryz.prog W = .ok (.string ⟨(O ++ T).toArray⟩) W := fun W => run_string_add_lists (P := Tryz.prog) W _ _ (by omega) (by omega)
  have S2 := Lib.hid (fun W => hrsum_any rwords_holds (O ++ T) W (by rw [List.length_append]; omega))
  rw [← HT.out] at S2
  clear HT
  generalize O ++ T = B at a2 S2
  generalize mtagL key s = U at S2 ⊢
  clear hk hs hF hil hol hl
  go_enter Tryz.func107, Tryz.ntmps107
  go_wp2_with fail
  refine R0.out.mono ?_
  rintro e w1 ⟨rfl, hb1⟩
  go_wp2_with fail
  refine (W2.out _).mono ?_
  rintro e w2 ⟨rfl, hb2⟩
  have hB2 := bt hb1 hb2
  clear hb1 hb2
  go_wp2_with fail
  refine (W1.out _).mono ?_
  rintro e w3 ⟨rfl, hb3⟩
  have hB3 := bt hB2 hb3
  clear hB2 hb3
  go_wp2_with fail
  refine (S1.out _).mono ?_
  rintro e w4 ⟨rfl, hb4⟩
  have hB4 := bt hB3 hb4
  clear hB3 hb4
  go_wp2_with fail
  refine (S2.out _).mono ?_
  rintro e w5 ⟨rfl, hb5⟩
  have hB5 := bt hB4 hb5
  clear hB4 hb5
  go_wp2_with fail
  go_ret
  exact ⟨rfl, hB5⟩
end Go.Proofs.YtjonhenllhnibaaGreatDoor
