/- The contract of the reference's Mix, if words is as it should be. -/
import Derived.Test.YtilcondnpoinkaaHKeys
import Derived.Deep.AppendLies
import Derived.Maps.AppendAt
import Derived.RangeFuncBox
import Derived.Deep.Onto
namespace Go.Proofs.Ytilcondnpoinkaa
open Go.RowKit

/-- What words is to tell. -/
def RWords : Prop := ∀ (b : List UInt8) (w : World), b.length = 64 → Calls Try.prog 53 #[.string ⟨b.toArray⟩] w fun e w' => ∃ g c, e = .returned (.slice (some ⟨g, 0, none⟩) 64 c) ∧ (∀ j, j < 64 → w'.cell? ⟨g, j, none⟩ = some (wv (wn (sched b 64) j))) ∧ Below w.heap.size w w'
/-- Eight words, by their places. -/
def RS (w : World) (g off : Nat) (L : List Nat) : Prop := ∀ j, j < 8 → w.cell? ⟨g, off + j, none⟩ = some (wv (wn L j))
theorem RS.later {w w' : World} {g off : Nat} {L : List Nat} (h : RS w g off L) (hb : Below w.heap.size w w') : RS w' g off L := fun j hj => cell_later hb (h j hj)
theorem RS.eight {w : World} {g off : Nat} {L : List Nat} (h : RS w g off L) : Eight w g off (wn L 0) (wn L 1) (wn L 2) (wn L 3) (wn L 4) (wn L 5) (wn L 6) (wn L 7) :=
  ⟨h 0 (by omega), h 1 (by omega), h 2 (by omega), h 3 (by omega), h 4 (by omega), h 5 (by omega), h 6 (by omega), h 7 (by omega)⟩
theorem RS.blk {w : World} {g : Nat} {t : TypeId} {L : List Nat} (h : Blk w g t (L.map wv).toArray) (hl : L.length = 8) : RS w g 0 L := fun j hj => by
  rw [Nat.zero_add, h.cell j, wn_get L j (by omega)]
  have : j < L.length := by omega
  simp [this]
theorem infoW : (Try.prog.info? 66).map (fun i => (i.zero, i.size, i.bytes)) = some (some (.int .u32 0), 1, 4) := by kernel_rfl
theorem own_nil {w : World} {base g : Nat} {E : TypeId} {z : Nat} (h : w.heap[g]? = some (.cells #[] E (0, 0))) (hb : base ≤ g) : w.ownsRow base E z (.slice (some ⟨g, 0, none⟩) 0 0) 0 [] :=
  ⟨by simp, .inr ⟨g, 0, #[], rfl, hb, h, Nat.le_refl _, Nat.zero_le _, by simp, by simp⟩⟩
theorem mixL_take (s : List Nat) (b : List UInt8) (k : Nat) (h : k < 8) : (mixL s b).take (k + 1) = (mixL s b).take k ++ [(wn (mixN s keysL (sched b 64) 64) k + wn s k) % 4294967296] := by
  rw [← List.take_append_getElem (by rw [mixL_len]; exact h)]
  congr 2
  simp [mixL]

set_option maxRecDepth 100000 in
set_option maxHeartbeats 4000000 in
theorem rmix_any (HW : RWords) (g0 off0 cap : Nat) (s : List Nat) (b : List UInt8) (w : World) (hR : RS w g0 off0 s) (hs : ∀ x ∈ s, x < 4294967296) (hb : b.length = 64) :
    Calls Try.prog 42 #[.slice (some ⟨g0, off0, none⟩) 8 cap, .string ⟨b.toArray⟩] w fun e w' => ∃ v, e = .returned v ∧ w'.ownsRow w.heap.size 66 1 v 8 ((mixL s b).map wv) ∧ Below w.heap.size w w' := by
  obtain ⟨ti, hi0, hz0, hz1, hz2⟩ := info_parts infoW
  have HRS := Lib.hid hR
  have HS := Lib.hid hs
  have HB := Lib.hid hb
  have HWW : Hid RWords := HW
  clear hR hs hb HW
  go_enter Try.func42, Try.ntmps42
  go_wp2_with fail
  refine (rkeys_any _).mono ?_
  rintro e w1 ⟨gk, rfl, _, hK, hb1⟩
  go_wp2_with fail
  refine (HWW.out b _ HB.out).mono ?_
  rintro e w2 ⟨gw, cw, rfl, hWc, hb2⟩
  have hB2 := bt hb1 hb2
  have HK := Lib.hid (hK.below hb2)
  have HWC := Lib.hid hWc
  have hgw : gw < w2.heap.size := World.block_lt_of_cell? _ _ (hWc 0 (by omega))
  clear hK hWc hb1 hb2
  obtain ⟨ws, hws⟩ : ∃ ws, sched b 64 = ws := ⟨_, rfl⟩
  have HML := Lib.hid (mixL_take s b)
  rw [hws] at HWC HML
  clear hws
  go_wp2_with fail
  go_loopw [5, 17] (fun nv iv wr => ∃ k g off c : Nat, k ≤ 64 ∧ iv = .int .i64 k ∧ nv = .slice (some ⟨g, off, none⟩) 8 c ∧ RS wr g off (mixN s keysL ws k) ∧ Below w2.heap.size w2 wr) (fun _ i _ => 64 - (intOf i).toNat)
  case atStart => exact ⟨0, g0, off0, cap, Nat.zero_le _, rfl, rfl, HRS.out.later hB2, Below.refl _ _⟩
  case round =>
    obtain ⟨k, g, off, c, hk, rfl, rfl, hrs, hbr⟩ := hrel
    by_cases hlt : k < 64
    · have cw1 : wr.cell? ⟨gw, k, none⟩ = some (wv (wn ws k)) := (hbr.cell (p := ⟨gw, k, none⟩) hgw).trans (HWC.out k hlt)
      have ck1 : wr.cell? ⟨gk, k, none⟩ = some (wv (wn keysL k)) := by
        rw [(HK.out.below hbr).cell k, wn_get keysL k (by rw [keys_len]; exact hlt)]
        have : k < keysL.length := by rw [keys_len]; exact hlt
        simp [this]
      have hM := mixN_lt s keysL ws HS.out k
      have HE := Lib.hid hrs.eight
      have hM0 := wn_lt hM 0
      have hM1 := wn_lt hM 1
      have hM2 := wn_lt hM 2
      have hM4 := wn_lt hM 4
      have hM5 := wn_lt hM 5
      have hM6 := wn_lt hM 6
      have hst : mixN s keysL ws (k + 1) = stepL (mixN s keysL ws k) (wn keysL k) (wn ws k) := rfl
      obtain ⟨M, hMM⟩ : ∃ M, mixN s keysL ws k = M := ⟨_, rfl⟩
      rw [hMM] at HE hM0 hM1 hM2 hM4 hM5 hM6 hst
      obtain ⟨x, hx⟩ : ∃ x, wn ws k = x := ⟨_, rfl⟩
      obtain ⟨y, hy⟩ : ∃ y, wn keysL k = y := ⟨_, rfl⟩
      rw [hx] at cw1 hst
      rw [hy] at ck1 hst
      have HST := Lib.hid hst
      clear hst hx hy hMM hM hrs
      go_wp2_with fail
      refine (round_any g off c _ _ _ _ _ _ _ _ y x _ HE hM0 hM1 hM2 hM4 hM5 hM6).mono ?_
      rintro e w3 ⟨q, rfl, _, hQ, hb3⟩
      have hR3 : RS w3 q 0 (stepL M y x) := RS.blk hQ rfl
      have hB3 := bt hbr hb3
      clear hQ hb3
      go_wp2
      exact ⟨⟨k + 1, q, 0, 8, by omega, by go_num, rfl, by rw [HST.out]; exact hR3, hB3⟩, by simp [intOf]; omega⟩
    · obtain rfl : k = 64 := by omega
      rw [show ((64 : Nat) : Int) = (64 : Int) from rfl]
      obtain ⟨wo, rfl⟩ : ∃ wo : World, wo = wr := ⟨_, rfl⟩
      have HRR := Lib.hid hrs
      have hB4 : Below w.heap.size w wo := bt hB2 hbr
      have O0 : (wo.alloc (.cells #[] 66)).ownsRow wo.heap.size 66 1 (.slice (some ⟨wo.heap.size, 0, none⟩) 0 0) 0 [] := own_nil (Blk.new wo _ _) (Nat.le_refl _)
      have HS0 := Lib.hid (HRS.out.later hB4)
      have HO := Lib.hid O0
      clear O0 hrs
      go_wp2_with fail
      go_loopw [9, 33] (fun ov iv wi => ∃ k g1 c1 : Nat, k ≤ 8 ∧ iv = .int .i64 k ∧ ov = .slice (some ⟨g1, 0, none⟩) k c1 ∧ wi.ownsRow wo.heap.size 66 1 (.slice (some ⟨g1, 0, none⟩) k c1) k (((mixL s b).take k).map wv) ∧ Below wo.heap.size wo wi) (fun _ i _ => 8 - (intOf i).toNat)
      case atStart => exact ⟨0, _, _, Nat.zero_le _, rfl, rfl, HO.out, ba (Below.refl _ _) _⟩
      case round =>
        obtain ⟨k, g1, c1, hk, rfl, rfl, hown, hbi⟩ := hrel
        by_cases hlt : k < 8
        · have cm := cell_later hbi (HRR.out k hlt)
          have cs := cell_later hbi (HS0.out k hlt)
          have HT := Lib.hid (HML.out k hlt)
          obtain ⟨m, hm⟩ : ∃ m, wn (mixN s keysL ws 64) k = m := ⟨_, rfl⟩
          obtain ⟨x, hx⟩ : ∃ x, wn s k = x := ⟨_, rfl⟩
          rw [hm] at cm HT
          rw [hx] at cs HT
          obtain ⟨y, hy⟩ : ∃ y, (m + x) % 4294967296 = y := ⟨_, rfl⟩
          rw [hy] at HT
          have hyv : ((m : Int) + (x : Int)) % 4294967296 = (y : Int) := by omega
          have hownA := hown.alloc (.cells #[wv y] 66)
          have hnews := World.news_of_block (heap_alloc_new wr (.cells #[wv y] 66))
          have hsz := hbi.size
          clear hm hx hy
          go_wp2_with (at_builtin; refine wpList_append_own _ rfl (.tmp 38) (.tmp 45) 63 rfl wo.heap.size 66 ti _ 1 4 Try.underlying63 hi0 hz0 hz1 hz2 rfl (by decide) _ _ _ rfl hownA ⟨wr.heap.size, 0, none⟩ 1 1 [wv y] rfl rfl hnews (by simp [Value.oneCell']) (by unfold maxLen; omega) (by omega) (by simp; omega) ?_; intro v3 w3 hown3 hgrow3 _; obtain ⟨g3, c3, rfl⟩ := ownsRow_succ hown3)
          have hb3 : Below wo.heap.size wo w3 := (ba hbi _).grown hgrow3 (by simp; omega) (fun k e => (hownA.lt k e).1)
          exact ⟨⟨k + 1, g3, c3, by omega, by go_num, rfl, by rw [HT.out, List.map_append]; exact hown3, hb3⟩, by simp [intOf]; omega⟩
        · obtain rfl : k = 8 := by omega
          have htk : (mixL s b).take 8 = mixL s b := List.take_of_length_le (by rw [mixL_len]; exact Nat.le_refl _)
          rw [htk] at hown
          clear htk
          go_wp2
          go_ret
          exact ⟨_, rfl, hown.mono hB4.size, bt hB4 hbi⟩
end Go.Proofs.Ytilcondnpoinkaa
