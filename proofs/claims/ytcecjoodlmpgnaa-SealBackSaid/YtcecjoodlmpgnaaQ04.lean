/- Texts of this seat, one behind the other: GPoly, GRBit, GRFlip, GTold, GRBytes, GRProd, GTimes, GMulL, GRMul. -/
import Derived.Test.YtcecjoodlmpgnaaQ03
/- The contract of polynomialOf. -/
namespace Go.Proofs.Ytcecjoodlmpgnaa
open Go.RowKit

theorem pol_zero : (Pol (bn (([] : List UInt8).take 0))) = #[qv 0, qv 0] := by
  have h : bn [] = 0 := by decide +kernel
  rw [List.take_nil, h]
  have h0 : w0 0 = 0 := by decide +kernel
  have h1 : w1 0 = 0 := by decide +kernel
  unfold Pol
  rw [h0, h1]
theorem pol_at (N : Nat) {j : Nat} (h : j < 2) : (Pol N)[j]? = some (qv (wi N j)) := by
  obtain rfl | rfl : j = 0 ∨ j = 1 := by omega
  · rfl
  · rfl
/-- A word with a byte more. -/
def orB (L : List UInt8) (k : Nat) : Nat := wi (bn (L.take k)) (k / 8) ||| (ub L k).toNat * 2 ^ (56 - k % 8 * 8)
theorem pol_set (L : List UInt8) {k : Nat} (h : k < 16) : (Pol (bn (L.take k))).setIfInBounds (k / 8) (qv (orB L k)) = Pol (bn (L.take (k + 1))) := by
  unfold orB wi
  by_cases h8 : k < 8
  · rw [if_pos (by omega), ← w0_more L h8, show k / 8 = 0 by omega]
    unfold Pol
    rw [w1_same L h8]
    rfl
  · rw [if_neg (by omega), ← w1_more L (by omega) h, show k / 8 = 1 by omega]
    unfold Pol
    rw [w0_same L (by omega)]
    rfl
theorem orB_is (L : List UInt8) (k : Nat) : bits .or .u64 ((wi (bn (L.take k)) (k / 8) : Nat) : Int) (((ub L k).toNat * 2 ^ (56 - k % 8 * 8) : Nat) : Int) = ((orB L k : Nat) : Int) :=
  u64_or_nat _ _ (wi_lt _ _) (byte_lt _ (by omega))
theorem shl_byte (b : UInt8) {s : Nat} (h : s ≤ 56) : IntKind.u64.wrap ((b.toNat : Int) * 2 ^ s) = ((b.toNat * 2 ^ s : Nat) : Int) := by
  have h1 : b.toNat * 2 ^ s < 18446744073709551616 := byte_lt b h
  have h2 : (b.toNat : Int) * 2 ^ s = ((b.toNat * 2 ^ s : Nat) : Int) := by simp
  rw [IntKind.wrap_u64, h2]
  omega
theorem gindex_of (l : List UInt8) (i : Nat) (k : Int) (hk : (i : Int) = k) (h : i < l.length) (W : World) : (Instr.index 9 (.string ⟨l.toArray⟩) (.int .i64 k)).run Try.prog W = .ok (uv (ub l i)) W :=
  index_is _ i k (ub l i) hk (at_get l i h) W

set_option maxRecDepth 100000 in
set_option maxHeartbeats 2000000 in
theorem polynomialOf_any (L : List UInt8) (n : Nat) (w : World) (hL : L.length = n) (hn : n ≤ 16) :
    Calls Try.prog 51 #[.string ⟨L.toArray⟩] w fun e w' => e = .returned (.agg (Pol (bn L))) ∧ Below w.heap.size w w' := by
  have HI := Lib.hid (gindex_of L)
  have HL := Lib.hid hL
  have hs := size_of L
  rw [hL] at hs HI
  have HZ : Hid (#[qv 0, qv 0] = Pol (bn (L.take 0))) := Lib.hid (by rw [List.take_zero, ← pol_zero, List.take_nil])
  have HN : Hid (L.take n = L) := Lib.hid (List.take_of_length_le (by omega))
  have HAT := Lib.hid (fun (k : Nat) (hk : k < 16) => pol_at (bn (L.take k)) (j := k / 8) (by omega))
  have HSET := Lib.hid (fun (k : Nat) (hk : k < 16) => pol_set L hk)
  have HOR := Lib.hid (fun (k : Nat) (_ : k < 16) => orB_is L k)
  clear hL
  go_enter Try.func51, Try.ntmps51
  go_wp2_with fail
  go_loopw [7] (fun iv wr => ∃ k : Nat, k ≤ n ∧ iv = .int .i64 k ∧ Hid (Blk wr w.heap.size 96 #[qv 0, qv 0]) ∧ Hid (Blk wr (w.heap.size + 1) 96 (Pol (bn (L.take k)))) ∧ Below w.heap.size w wr) (fun iv _ => n - (intOf iv).toNat)
  case atStart =>
    refine ⟨0, Nat.zero_le _, rfl, Lib.hid ?_, Lib.hid ?_, ba (ba (Below.refl _ _) _) _⟩
    · exact (Blk.new w _ _).alloc _
    · rw [← HZ.out]; exact Blk.newAt (by simp) _ _
  case round =>
    obtain ⟨k, hk, rfl, Z, P, hb⟩ := hrel
    by_cases hlt : k < n
    · have hki : (k : Int) < (n : Int) := by omega
      have hk16 : k < 16 := by omega
      have HX := Lib.hid (HI.out k k rfl hlt)
      have HC := Lib.hid ((P.out.cell (k / 8)).trans (HAT.out k hk16))
      have hf := P.out.frozen (k / 8)
      have HS := Lib.hid (fun W => shiftOf_any k W hk16)
      have HO := Lib.hid (HOR.out k hk16)
      have hP2 := (P.out.set_ (k / 8) (qv (orB L k)))
      rw [HSET.out k hk16] at hP2
      have HP2 := Lib.hid hP2
      have HB := Lib.hid (byte_lt (ub L k) (s := 56 - k % 8 * 8) (by omega))
      generalize wi (bn (L.take k)) (k / 8) = x at HC HO
      generalize ub L k = b at HX HO HB
      obtain ⟨s, hs56⟩ : ∃ s, 56 - k % 8 * 8 = s := ⟨_, rfl⟩
      have hsl : s ≤ 56 := by omega
      rw [hs56] at HS HO HB
      obtain ⟨j, hj⟩ : ∃ j, k / 8 = j := ⟨_, rfl⟩
      have hj2 : j < 2 := by omega
      have hji : (k : Int) / 8 = (j : Int) := by omega
      rw [hj] at HC hf HP2
      generalize orB L k = y at HO HP2
      have hsh := shl_byte b hsl
      obtain ⟨v, hv⟩ : ∃ v, b.toNat * 2 ^ s = v := ⟨_, rfl⟩
      rw [hv] at hsh HO
      have HSH := Lib.hid hsh
      clear hv hsh HB
      clear hP2 hs56 hj
      go_wp2_with fail
      have hc1 : wr.drew.cell? ⟨w.heap.size + 1, j, none⟩ = some (qv x) := HC.out
      have hf1 : wr.drew.frozen? ⟨w.heap.size + 1, j, none⟩ = false := hf
      have P2 := HP2.out.drew
      have Z2 := (Z.out.far (p := ⟨w.heap.size + 1, j, none⟩) (by simp) (qv y)).drew
      have hb2 := (bs hb (b := w.heap.size + 1) (o := j) (by omega) (qv y)).drew
      have HPZ : Hid (Blk ((wr.setCell ⟨w.heap.size + 1, j, none⟩ (qv y)).drew) (w.heap.size + 1) 96 (Pol (bn (L.take (k + 1)))) ∧ Blk ((wr.setCell ⟨w.heap.size + 1, j, none⟩ (qv y)).drew) w.heap.size 96 #[qv 0, qv 0] ∧ Below w.heap.size w ((wr.setCell ⟨w.heap.size + 1, j, none⟩ (qv y)).drew)) := Lib.hid ⟨P2, Z2, hb2⟩
      have HJW : Hid (IntKind.i64.wrap (j : Int) = (j : Int)) := Lib.hid (by have h64 := IntKind.wrap_i64; rw [h64]; omega)
      have HBW : Hid (IntKind.u64.wrap (b.toNat : Int) = (b.toNat : Int)) := Lib.hid (by have := b.toNat_lt; rw [IntKind.wrap_u64]; omega)
      have hsi : ((s : Nat) : Int) < 64 := by omega
      clear hf P2 Z2 hb2 HP2 hb
      refine wp_region_held_drew (S := fun _ => True) (by kernel_rfl) trivial (fun hHeld => ?_)
      refine wpAnyH_take (i := 0) (oi := ⟨some 10, _, _, _, _, _⟩) (v := ?_) rfl (by kernel_rfl) (by kernel_rfl) (by kernel_rfl) (fun _ _ _ h => h) (Or.inl ⟨by rfl, ?_⟩) (by assumption) ?_
      rotate_left
      · (intro w9 hSw; (try dsimp only at hSw); go_simp; try with_reducible rfl)
      try simp only [Act.put, List.setIfInBounds_toArray, List.set_cons_zero, List.set_cons_succ]
      refine wpAnyH_take (i := 1) (oi := ⟨some 11, _, _, _, _, _⟩) (v := .int .i64 (j : Int)) rfl (by kernel_rfl) (by kernel_rfl) (by kernel_rfl) (fun _ _ _ h => h) (Or.inl ⟨by rfl, ?_⟩) (by assumption) ?_
      · (intro w9 hSw; (try dsimp only at hSw); go_simp; rw [HJW.out])
      try simp only [Act.put, List.setIfInBounds_toArray, List.set_cons_zero, List.set_cons_succ]
      refine wpAnyH_take (i := 2) (oi := ⟨some 12, _, _, _, _, _⟩) (v := .pointer (some ⟨w.heap.size + 1, j, none⟩)) rfl (by kernel_rfl) (by kernel_rfl) (by kernel_rfl) (fun _ _ _ h => h) (Or.inl ⟨by rfl, ?_⟩) (by assumption) ?_
      · (intro w9 hSw; (try dsimp only at hSw); go_simp; (try (intro h9; exact absurd h9 (by omega))))
      try simp only [Act.put, List.setIfInBounds_toArray, List.set_cons_zero, List.set_cons_succ]
      refine wpAnyH_take (i := 4) (oi := ⟨some 14, _, _, _, _, _⟩) (v := ?_) rfl (by kernel_rfl) (by kernel_rfl) (by kernel_rfl) (fun _ _ _ h => h) (Or.inl ⟨by rfl, ?_⟩) (by assumption) ?_
      rotate_left
      · (intro w9 hSw; (try dsimp only at hSw); go_simp; try with_reducible rfl)
      try simp only [Act.put, List.setIfInBounds_toArray, List.set_cons_zero, List.set_cons_succ]
      refine wpAnyH_take (i := 5) (oi := ⟨some 15, _, _, _, _, _⟩) (v := ?_) rfl (by kernel_rfl) (by kernel_rfl) (by kernel_rfl) (fun _ _ _ h => h) (Or.inl ⟨by rfl, ?_⟩) (by assumption) ?_
      rotate_left
      · (intro w9 hSw; (try dsimp only at hSw); go_simp; try with_reducible rfl)
      try simp only [Act.put, List.setIfInBounds_toArray, List.set_cons_zero, List.set_cons_succ]
      refine wpAnyH_take (i := 6) (oi := ⟨some 16, _, _, _, _, _⟩) (v := uv b) rfl (by kernel_rfl) (by kernel_rfl) (by kernel_rfl) (fun _ _ _ h => h) (Or.inl ⟨by rfl, ?_⟩) (by assumption) ?_
      · (intro w9 hSw; have hx := HX.out w9; (try dsimp only at hSw); go_simp)
      try simp only [Act.put, List.setIfInBounds_toArray, List.set_cons_zero, List.set_cons_succ]
      refine wpAnyH_take (i := 7) (oi := ⟨some 17, _, _, _, _, _⟩) (v := qv b.toNat) rfl (by kernel_rfl) (by kernel_rfl) (by kernel_rfl) (fun _ _ _ h => h) (Or.inl ⟨by rfl, ?_⟩) (by assumption) ?_
      · (intro w9 hSw; (try dsimp only at hSw); go_simp; rw [HBW.out])
      try simp only [Act.put, List.setIfInBounds_toArray, List.set_cons_zero, List.set_cons_succ]
      refine wpAnyH_take (i := 8) (oi := ⟨some 18, _, _, _, _, _⟩) (v := ?_) rfl (by kernel_rfl) (by kernel_rfl) (by kernel_rfl) (fun _ _ _ h => h) (Or.inl ⟨by rfl, ?_⟩) (by assumption) ?_
      rotate_left
      · (intro w9 hSw; (try dsimp only at hSw); go_simp; try with_reducible rfl)
      try simp only [Act.put, List.setIfInBounds_toArray, List.set_cons_zero, List.set_cons_succ]
      refine wpAnyH_ready (rs := [3, 9]) (by kernel_rfl) (by simp) ?_
      refine AllReadyH.cons (o := ⟨some 13, _, _, _, _, _⟩) rfl (fun K9 hK9 => ?_) ?_
      · skip
        go_simp
        refine hK9.out _ _ ?_ (fun hHeld => ?_)
        · trivial
        clear hK9 K9
        try simp only [Act.put, List.setIfInBounds_toArray, List.set_cons_zero, List.set_cons_succ]
        refine wpAnyH_ready (rs := [9]) (by kernel_rfl) (by simp) ?_
        refine AllReadyH.cons (o := ⟨some 19, _, _, _, _, _⟩) rfl (fun K9 hK9 => ?_) AllReadyH.nil
        go_simp
        go_at_call 70
        refine (HS.out _).mono ?_
        rintro e w2 ⟨rfl, rfl⟩
        refine hK9.out _ _ ?_ (fun hHeld => ?_)
        · trivial
        clear hK9 K9
        try simp only [Act.put, List.setIfInBounds_toArray, List.set_cons_zero, List.set_cons_succ]
        refine wpAnyH_take (i := 10) (oi := ⟨some 20, _, _, _, _, _⟩) (v := qv v) rfl (by kernel_rfl) (by kernel_rfl) (by kernel_rfl) (fun _ _ _ h => h) (Or.inl ⟨by rfl, ?_⟩) (by assumption) ?_
        · (intro w9 hSw; (try dsimp only at hSw); go_simp; rw [HSH.out])
        try simp only [Act.put, List.setIfInBounds_toArray, List.set_cons_zero, List.set_cons_succ]
        refine wpAnyH_take (i := 11) (oi := ⟨some 21, _, _, _, _, _⟩) (v := qv y) rfl (by kernel_rfl) (by kernel_rfl) (by kernel_rfl) (fun _ _ _ h => h) (Or.inl ⟨by rfl, ?_⟩) (by assumption) ?_
        · (intro w9 hSw; have ho := HO.out; (try dsimp only at hSw); go_simp)
        try simp only [Act.put, List.setIfInBounds_toArray, List.set_cons_zero, List.set_cons_succ]
        refine wpAnyH_take (i := 12) (oi := ⟨some 22, _, _, _, _, _⟩) (v := .pointer (some ⟨w.heap.size + 1, j, none⟩)) rfl (by kernel_rfl) (by kernel_rfl) (by kernel_rfl) (fun _ _ _ h => h) (Or.inl ⟨by rfl, ?_⟩) (by assumption) ?_
        · (intro w9 hSw; (try dsimp only at hSw); go_simp; (try (intro h9; exact absurd h9 (by omega))))
        try simp only [Act.put, List.setIfInBounds_toArray, List.set_cons_zero, List.set_cons_succ]
        refine wpAnyH_ready (rs := [13]) (by kernel_rfl) (by simp) ?_
        refine AllReadyH.cons (o := ⟨none, _, _, _, _, _⟩) rfl (fun K9 hK9 => ?_) AllReadyH.nil
        go_simp
        refine hK9.out _ _ ?_ (fun hHeld => ?_)
        · trivial
        clear hK9 K9
        try simp only [Act.put]
        refine wpAnyH_done (by kernel_rfl) ?_ _
        obtain ⟨P3, Z3, hb3⟩ := HPZ.out
        generalize (wr.setCell ⟨w.heap.size + 1, j, none⟩ (qv y)).drew = w3 at P3 Z3 hb3
        clear hHeld hc1 hf1 HPZ P Z
        go_wp2_with fail
        exact ⟨⟨k + 1, by omega, by go_num, Lib.hid Z3, Lib.hid P3, hb3⟩, by simp [intOf]; omega⟩
      refine AllReadyH.cons (o := ⟨some 19, _, _, _, _, _⟩) rfl (fun K9 hK9 => ?_) AllReadyH.nil
      · skip
        go_simp
        go_at_call 70
        refine (HS.out _).mono ?_
        rintro e w2 ⟨rfl, rfl⟩
        refine hK9.out _ _ ?_ (fun hHeld => ?_)
        · trivial
        clear hK9 K9
        try simp only [Act.put, List.setIfInBounds_toArray, List.set_cons_zero, List.set_cons_succ]
        refine wpAnyH_take (i := 10) (oi := ⟨some 20, _, _, _, _, _⟩) (v := qv v) rfl (by kernel_rfl) (by kernel_rfl) (by kernel_rfl) (fun _ _ _ h => h) (Or.inl ⟨by rfl, ?_⟩) (by assumption) ?_
        · (intro w9 hSw; (try dsimp only at hSw); go_simp; rw [HSH.out])
        try simp only [Act.put, List.setIfInBounds_toArray, List.set_cons_zero, List.set_cons_succ]
        refine wpAnyH_ready (rs := [3]) (by kernel_rfl) (by simp) ?_
        refine AllReadyH.cons (o := ⟨some 13, _, _, _, _, _⟩) rfl (fun K9 hK9 => ?_) AllReadyH.nil
        go_simp
        refine hK9.out _ _ ?_ (fun hHeld => ?_)
        · trivial
        clear hK9 K9
        try simp only [Act.put, List.setIfInBounds_toArray, List.set_cons_zero, List.set_cons_succ]
        refine wpAnyH_take (i := 11) (oi := ⟨some 21, _, _, _, _, _⟩) (v := qv y) rfl (by kernel_rfl) (by kernel_rfl) (by kernel_rfl) (fun _ _ _ h => h) (Or.inl ⟨by rfl, ?_⟩) (by assumption) ?_
        · (intro w9 hSw; have ho := HO.out; (try dsimp only at hSw); go_simp)
        try simp only [Act.put, List.setIfInBounds_toArray, List.set_cons_zero, List.set_cons_succ]
        refine wpAnyH_take (i := 12) (oi := ⟨some 22, _, _, _, _, _⟩) (v := .pointer (some ⟨w.heap.size + 1, j, none⟩)) rfl (by kernel_rfl) (by kernel_rfl) (by kernel_rfl) (fun _ _ _ h => h) (Or.inl ⟨by rfl, ?_⟩) (by assumption) ?_
        · (intro w9 hSw; (try dsimp only at hSw); go_simp; (try (intro h9; exact absurd h9 (by omega))))
        try simp only [Act.put, List.setIfInBounds_toArray, List.set_cons_zero, List.set_cons_succ]
        refine wpAnyH_ready (rs := [13]) (by kernel_rfl) (by simp) ?_
        refine AllReadyH.cons (o := ⟨none, _, _, _, _, _⟩) rfl (fun K9 hK9 => ?_) AllReadyH.nil
        go_simp
        refine hK9.out _ _ ?_ (fun hHeld => ?_)
        · trivial
        clear hK9 K9
        try simp only [Act.put]
        refine wpAnyH_done (by kernel_rfl) ?_ _
        obtain ⟨P3, Z3, hb3⟩ := HPZ.out
        generalize (wr.setCell ⟨w.heap.size + 1, j, none⟩ (qv y)).drew = w3 at P3 Z3 hb3
        clear hHeld hc1 hf1 HPZ P Z
        go_wp2_with fail
        exact ⟨⟨k + 1, by omega, by go_num, Lib.hid Z3, Lib.hid P3, hb3⟩, by simp [intOf]; omega⟩
    · obtain rfl : k = n := by omega
      rw [HN.out] at P
      have HONE : Hid (∀ v ∈ (Pol (bn L)).toList, v.oneCell' = true) := Lib.hid (by intro v hv; simp at hv; rcases hv with rfl | rfl <;> rfl)
      go_wp2_with (first | (refine wpList_load_row rfl _ _ rfl _ rfl _ _ _ _ P.out Try.underlying96 rfl (plen (bn L)) ?_) | (refine wpList_store_mid rfl _ _ _ rfl _ _ (Pol (bn L)) rfl rfl (Z.out.there (by simp)) (plen (bn L)) (by kernel_rfl) ?_))
      have hW := Z.out.whole (Pol (bn L)).toList rfl
      refine bodyPost_ret (v := .agg (Pol (bn L))) (results_cell_row rfl _ _ _ _ _ _ _ rfl hW Try.underlying96 rfl (plen (bn L))) rfl ?_
      exact ⟨rfl, bw hb (by omega) _ _⟩
end Go.Proofs.Ytcecjoodlmpgnaa
/- The contract of the reference's Bit. -/
namespace Go.Proofs.Ytcecjoodlmpgnaa
open Go.RowKit

end Go.Proofs.Ytcecjoodlmpgnaa
/- Rows of bools, and the contract of the reference's flip. -/
namespace Go.Proofs.Ytcecjoodlmpgnaa
open Go.RowKit

abbrev lv (b : Bool) : Value := .bool b
/-- A row of bools that can be read: so many, told by their places. -/
def BR (w : World) (A : Option Addr) (n : Nat) (f : Nat → Bool) : Prop := ∃ g, A = some ⟨g, 0, none⟩ ∧ ∀ j, j < n → w.cell? ⟨g, j, none⟩ = some (lv (f j))
theorem BR.later {w w' : World} {A : Option Addr} {n : Nat} {f : Nat → Bool} (h : BR w A n f) (hn : 0 < n) (hb : Below w.heap.size w w') : BR w' A n f := by
  obtain ⟨g, e, h⟩ := h
  have := h 0 hn
  exact ⟨g, e, fun j hj => cell_later hb (h j hj)⟩
theorem BR.less {w : World} {A : Option Addr} {n m : Nat} {f : Nat → Bool} (h : BR w A n f) (hm : m ≤ n) : BR w A m f := by
  obtain ⟨g, e, h⟩ := h
  exact ⟨g, e, fun j hj => h j (by omega)⟩
def fb (n : Nat) (f : Nat → Bool) : List Value := (List.range n).map fun j => lv (f j)
theorem fb_len (n : Nat) (f : Nat → Bool) : (fb n f).length = n := by simp [fb]
theorem fb_at {n j : Nat} (f : Nat → Bool) (h : j < n) : (fb n f)[j]? = some (lv (f j)) := by simp [fb, h]
theorem fb_succ (n : Nat) (f : Nat → Bool) : fb (n + 1) f = fb n f ++ [lv (f n)] := by simp [fb, List.range_succ]
theorem infoL : (Try.prog.info? 4).map (fun i => (i.zero, i.size, i.bytes)) = some (some (.bool false), 1, 1) := by kernel_rfl
theorem own_BR {W : World} {base g c n : Nat} {f : Nat → Bool} (h : W.ownsRow base 4 1 (.slice (some ⟨g, 0, none⟩) n c) n (fb n f)) : BR W (some ⟨g, 0, none⟩) n f := ⟨g, rfl, fun j hj => by rw [h.cellAt j (by omega), fb_at f hj]⟩
theorem own_BRblk {W : World} {base g c n : Nat} {f : Nat → Bool} (h : W.ownsRow base 4 1 (.slice (some ⟨g, 0, none⟩) n c) n (fb n f)) : base ≤ g ∧ n ≤ c ∧ ∃ cs, Blk W g 4 cs ∧ ∀ j, j < n → cs[j]? = some (lv (f j)) := by
  have hc := fun j hj => h.cellAt j hj
  rcases h.2 with ⟨hv, _⟩ | ⟨g', cap, cur, hv, hb, hh, hn, _⟩
  · cases hv
  · cases hv
    refine ⟨hb, hn, cur, hh, fun j hj => ?_⟩
    have h1 := hc j (by omega)
    rw [cell_of_row _ _ _ _ _ _ hh, fb_at f hj] at h1
    exact h1
theorem gown_nil {W : World} {g : Nat} {t : TypeId} {base size : Nat} (h : Blk W g t #[]) (hb : base ≤ g) : W.ownsRow base t size (.slice (some ⟨g, 0, none⟩) 0 0) 0 [] :=
  ⟨by simp, .inr ⟨g, 0, #[], rfl, hb, h, Nat.le_refl _, by unfold maxLen; omega, by simp, by simp⟩⟩
theorem set_flip {cs : Array Value} {n i : Nat} {f : Nat → Bool} (h : ∀ j, j < n → cs[j]? = some (lv (f j))) (j : Nat) (hj : j < n) : (cs.setIfInBounds i (lv (!f i)))[j]? = some (lv (flipF f i j)) := by
  unfold flipF
  by_cases e : j = i
  · subst e
    have hl : j < cs.size := by
      have := h j hj
      exact (Array.getElem?_eq_some_iff.1 this).1
    rw [Array.getElem?_setIfInBounds_self_of_lt hl]
    simp
  · rw [Array.getElem?_setIfInBounds_ne (by omega), h j hj]
    simp [e]

end Go.Proofs.Ytcecjoodlmpgnaa
/- The contract of a polynomial's told. -/
namespace Go.Proofs.Ytcecjoodlmpgnaa
open Go.RowKit

theorem gtext_of {W : World} {g n c : Nat} {t : TypeId} {L : List UInt8} (h : Blk W g t (L.map uv).toArray) (hl : L.length = n) : (convert 59 9 (.slice (some ⟨g, 0, none⟩) n c)).run Try.prog W = .ok (.string ⟨L.toArray⟩) W := by
  subst hl
  refine run_convert_bytes_back (P := Try.prog) W 59 9 5 ⟨g, 0, none⟩ c L Try.underlying59 Try.underlying5 Try.underlying9 (fun j hj => ?_)
  rw [Addr.add_mid, Nat.zero_add, h.cell]
  have : j < L.length := by simpa using hj
  simp [this]
def gzeros : List UInt8 := List.replicate 16 0
theorem shr_byte (N : Nat) {i : Nat} (h : i < 16) : IntKind.u8.wrap (((wi N (i / 8) : Nat) : Int) / 2 ^ (56 - i % 8 * 8)) = (((by8 N i).toNat : Nat) : Int) := by
  have h1 := wi_byte N h
  have h2 : (((wi N (i / 8) : Nat) : Int) / 2 ^ (56 - i % 8 * 8)) = ((wi N (i / 8) / 2 ^ (56 - i % 8 * 8) : Nat) : Int) := by simp
  rw [IntKind.wrap_u8, h2]
  omega

set_option maxRecDepth 100000 in
set_option maxHeartbeats 2000000 in
theorem gtold_any (N : Nat) (w : World) :
    Calls Try.prog 55 #[.agg (Pol N)] w fun e w' => e = .returned (.string ⟨(nb N).toArray⟩) ∧ Below w.heap.size w w' := by
  have HN := Lib.hid (nb_len N)
  have HZ : Hid (gzeros.length = 16) := Lib.hid rfl
  have HU : Hid (∀ k, k < 16 → ub (nb N) k = by8 N k) := Lib.hid (fun k hk => ub_tab _ hk)
  have HAT := Lib.hid (fun (k : Nat) (hk : k < 16) => pol_at N (j := k / 8) (by omega))
  have HSR := Lib.hid (fun (k : Nat) (hk : k < 16) => shr_byte N hk)
  have H0 : Hid ((gzeros.map uv).toArray = ((cutL 0 (nb N) gzeros).map uv).toArray) := Lib.hid (by rw [cutL_zero])
  have HZR : Hid (#[.int .u8 0, .int .u8 0, .int .u8 0, .int .u8 0, .int .u8 0, .int .u8 0, .int .u8 0, .int .u8 0, .int .u8 0, .int .u8 0, .int .u8 0, .int .u8 0, .int .u8 0, .int .u8 0, .int .u8 0, .int .u8 0] = (gzeros.map uv).toArray) := Lib.hid (by rfl)
  obtain ⟨S, hS⟩ : ∃ S, nb N = S := ⟨_, rfl⟩
  obtain ⟨Z, hZ⟩ : ∃ Z, gzeros = Z := ⟨_, rfl⟩
  rw [hS] at HN HU H0 ⊢
  rw [hZ] at HZ H0 HZR
  clear hS hZ
  go_enter Try.func55, Try.ntmps55
  go_upto_region 2 with fail
  try rw [HZR.out]
  have B0 := Lib.hid ((Blk.new w 96 (Pol N)).alloc (.cells (Z.map uv).toArray 124))
  have Z0 : Hid (Blk ((w.alloc (.cells (Pol N) 96)).alloc (.cells (Z.map uv).toArray 124)) (w.heap.size + 1) 124 (Z.map uv).toArray) := Lib.hid (Blk.newAt (by simp) _ _)
  have hb0 := ba (ba (Below.refl w.heap.size w) (.cells (Pol N) 96)) (.cells (Z.map uv).toArray 124)
  generalize (w.alloc (.cells (Pol N) 96)).alloc (.cells (Z.map uv).toArray 124) = w1 at B0 Z0 hb0
  rw [H0.out] at Z0
  go_wp2_with fail
  go_loopw [5] (fun iv wr => ∃ k : Nat, k ≤ 16 ∧ iv = .int .i64 k ∧ Hid (Blk wr w.heap.size 96 (Pol N)) ∧ Hid (Blk wr (w.heap.size + 1) 124 ((cutL k S Z).map uv).toArray) ∧ Below w.heap.size w wr) (fun iv _ => 16 - (intOf iv).toNat)
  case atStart => exact ⟨0, Nat.zero_le _, rfl, B0, Z0, hb0⟩
  case round =>
    clear Z0 B0 hb0
    obtain ⟨k, hk, rfl, B, P, hb⟩ := hrel
    by_cases hlt : k < 16
    · have hki : (k : Int) < 16 := by omega
      have HC := Lib.hid ((B.out.cell (k / 8)).trans (HAT.out k hlt))
      have hset := cutL_set HN.out HZ.out hlt
      rw [HU.out k hlt] at hset
      have hc := (P.out.cell k).trans (row_at (by rw [cutL_len HN.out HZ.out hk]; exact hlt))
      generalize ub (cutL k S Z) k = old at hc
      have hf := P.out.frozen k
      have HS := Lib.hid (fun W => shiftOf_any k W hlt)
      have hsr := HSR.out k hlt
      have hP2 := P.out.set_ k (uv (by8 N k))
      rw [hset] at hP2
      have HP2 := Lib.hid hP2
      have HWL := Lib.hid (wi_lt N (k / 8))
      generalize wi N (k / 8) = x at HC hsr HWL
      generalize by8 N k = b at hsr HP2 hset hP2
      obtain ⟨s, hs56⟩ : ∃ s, 56 - k % 8 * 8 = s := ⟨_, rfl⟩
      have hsl : s ≤ 56 := by omega
      rw [hs56] at HS hsr
      have HSR2 := Lib.hid hsr
      obtain ⟨j, hj⟩ : ∃ j, k / 8 = j := ⟨_, rfl⟩
      have hj2 : j < 2 := by omega
      have hji : (k : Int) / 8 = (j : Int) := by omega
      rw [hj] at HC
      clear hP2 hs56 hj hset hsr
      go_wp2_with fail
      have hc1 : wr.drew.cell? ⟨w.heap.size + 1, k, none⟩ = some (uv old) := hc
      have hf1 : wr.drew.frozen? ⟨w.heap.size + 1, k, none⟩ = false := hf
      have hC0 : wr.drew.cell? ⟨w.heap.size, j, none⟩ = some (qv x) := HC.out
      have B2 := (B.out.far (p := ⟨w.heap.size + 1, k, none⟩) (by simp) (uv b)).drew
      have hC2 : (wr.setCell ⟨w.heap.size + 1, k, none⟩ (uv b)).drew.cell? ⟨w.heap.size, j, none⟩ = some (qv x) := by
        have h9 := B2.cell j
        rw [← B.out.cell j] at h9
        exact h9.trans HC.out
      have HPZ : Hid (Blk (wr.setCell ⟨w.heap.size + 1, k, none⟩ (uv b)).drew (w.heap.size + 1) 124 ((cutL (k + 1) S Z).map uv).toArray ∧ Blk (wr.setCell ⟨w.heap.size + 1, k, none⟩ (uv b)).drew w.heap.size 96 (Pol N) ∧ Below w.heap.size w (wr.setCell ⟨w.heap.size + 1, k, none⟩ (uv b)).drew) := Lib.hid ⟨HP2.out.drew, B2, (bs hb (b := w.heap.size + 1) (o := k) (by omega) (uv b)).drew⟩
      have HC0 := Lib.hid hC0
      have HC2 := Lib.hid hC2
      have HJW : Hid (IntKind.i64.wrap (j : Int) = (j : Int)) := Lib.hid (by have h64 := IntKind.wrap_i64; rw [h64]; omega)
      clear hf hc HP2 hb hC0 hC2 B2
      refine wp_region_held_drew (S := fun W => W.cell? ⟨w.heap.size, j, none⟩ = some (qv x)) (by kernel_rfl) HC0.out (fun hHeld => ?_)
      refine wpAnyH_take (i := 0) (oi := ⟨some 8, _, _, _, _, _⟩) (v := ?_) rfl (by kernel_rfl) (by kernel_rfl) (by kernel_rfl) (fun _ _ _ h => h) (Or.inl ⟨by rfl, ?_⟩) (by assumption) ?_
      rotate_left
      · (intro w9 hSw; (try dsimp only at hSw); go_simp; try with_reducible rfl)
      try simp only [Act.put, List.setIfInBounds_toArray, List.set_cons_zero, List.set_cons_succ]
      refine wpAnyH_take (i := 1) (oi := ⟨some 9, _, _, _, _, _⟩) (v := ?_) rfl (by kernel_rfl) (by kernel_rfl) (by kernel_rfl) (fun _ _ _ h => h) (Or.inl ⟨by rfl, ?_⟩) (by assumption) ?_
      rotate_left
      · (intro w9 hSw; (try dsimp only at hSw); go_simp; try with_reducible rfl)
      try simp only [Act.put, List.setIfInBounds_toArray, List.set_cons_zero, List.set_cons_succ]
      refine wpAnyH_take (i := 2) (oi := ⟨some 10, _, _, _, _, _⟩) (v := .int .i64 (j : Int)) rfl (by kernel_rfl) (by kernel_rfl) (by kernel_rfl) (fun _ _ _ h => h) (Or.inl ⟨by rfl, ?_⟩) (by assumption) ?_
      · (intro w9 hSw; (try dsimp only at hSw); go_simp; rw [HJW.out])
      try simp only [Act.put, List.setIfInBounds_toArray, List.set_cons_zero, List.set_cons_succ]
      refine wpAnyH_take (i := 3) (oi := ⟨some 11, _, _, _, _, _⟩) (v := .pointer (some ⟨w.heap.size, j, none⟩)) rfl (by kernel_rfl) (by kernel_rfl) (by kernel_rfl) (fun _ _ _ h => h) (Or.inl ⟨by rfl, ?_⟩) (by assumption) ?_
      · (intro w9 hSw; (try dsimp only at hSw); go_simp; (try (intro h9; exact absurd h9 (by omega))))
      try simp only [Act.put, List.setIfInBounds_toArray, List.set_cons_zero, List.set_cons_succ]
      refine wpAnyH_take (i := 4) (oi := ⟨some 12, _, _, _, _, _⟩) (v := qv x) rfl (by kernel_rfl) (by kernel_rfl) (by kernel_rfl) (fun _ _ _ h => h) (Or.inl ⟨by rfl, ?_⟩) (by assumption) ?_
      · (intro w9 hSw; (try dsimp only at hSw); go_simp)
      try simp only [Act.put, List.setIfInBounds_toArray, List.set_cons_zero, List.set_cons_succ]
      refine wpAnyH_take (i := 5) (oi := ⟨some 13, _, _, _, _, _⟩) (v := ?_) rfl (by kernel_rfl) (by kernel_rfl) (by kernel_rfl) (fun _ _ _ h => h) (Or.inl ⟨by rfl, ?_⟩) (by assumption) ?_
      rotate_left
      · (intro w9 hSw; (try dsimp only at hSw); go_simp; try with_reducible rfl)
      try simp only [Act.put, List.setIfInBounds_toArray, List.set_cons_zero, List.set_cons_succ]
      refine wpAnyH_ready (rs := [6]) (by kernel_rfl) (by simp) ?_
      refine AllReadyH.cons (o := ⟨some 14, _, _, _, _, _⟩) rfl (fun K9 hK9 => ?_) AllReadyH.nil
      go_simp
      go_at_call 70
      refine (HS.out _).mono ?_
      rintro e w2 ⟨rfl, rfl⟩
      refine hK9.out _ _ ?_ (fun hHeld => ?_)
      · exact HC0.out
      clear hK9 K9
      try simp only [Act.put, List.setIfInBounds_toArray, List.set_cons_zero, List.set_cons_succ]
      refine wpAnyH_take (i := 7) (oi := ⟨some 15, _, _, _, _, _⟩) (v := .int .u64 ((x : Int) / 2 ^ s)) rfl (by kernel_rfl) (by kernel_rfl) (by kernel_rfl) (fun _ _ _ h => h) (Or.inl ⟨by rfl, ?_⟩) (by assumption) ?_
      · (intro w9 hSw; (try dsimp only at hSw); go_simp)
      try simp only [Act.put, List.setIfInBounds_toArray, List.set_cons_zero, List.set_cons_succ]
      refine wpAnyH_take (i := 8) (oi := ⟨some 16, _, _, _, _, _⟩) (v := uv b) rfl (by kernel_rfl) (by kernel_rfl) (by kernel_rfl) (fun _ _ _ h => h) (Or.inl ⟨by rfl, ?_⟩) (by assumption) ?_
      · (intro w9 hSw; (try dsimp only at hSw); go_simp; rw [HSR2.out])
      try simp only [Act.put, List.setIfInBounds_toArray, List.set_cons_zero, List.set_cons_succ]
      refine wpAnyH_take (i := 9) (oi := ⟨some 17, _, _, _, _, _⟩) (v := .pointer (some ⟨w.heap.size + 1, k, none⟩)) rfl (by kernel_rfl) (by kernel_rfl) (by kernel_rfl) (fun _ _ _ h => h) (Or.inl ⟨by rfl, ?_⟩) (by assumption) ?_
      · (intro w9 hSw; (try dsimp only at hSw); go_simp; (try (intro h9; exact absurd h9 (by omega))))
      try simp only [Act.put, List.setIfInBounds_toArray, List.set_cons_zero, List.set_cons_succ]
      refine wpAnyH_ready (rs := [10]) (by kernel_rfl) (by simp) ?_
      refine AllReadyH.cons (o := ⟨none, _, _, _, _, _⟩) rfl (fun K9 hK9 => ?_) AllReadyH.nil
      go_simp
      refine hK9.out _ _ ?_ (fun hHeld => ?_)
      · exact HC2.out
      clear hK9 K9
      try simp only [Act.put]
      refine wpAnyH_done (by kernel_rfl) ?_ _
      obtain ⟨P3, B3, hb3⟩ := HPZ.out
      generalize (wr.setCell ⟨w.heap.size + 1, k, none⟩ (uv b)).drew = w3 at P3 B3 hb3
      clear hHeld hc1 hf1 HPZ P B HC0 HC2
      go_wp2_with fail
      exact ⟨⟨k + 1, by omega, by go_num, Lib.hid B3, Lib.hid P3, hb3⟩, by simp [intOf]; omega⟩
    · obtain rfl : k = 16 := by omega
      have hP := P.out
      rw [cutL_all HN.out HZ.out] at hP
      have hcv := gtext_of (n := 16) (c := 16) hP HN.out
      clear hP P
      go_wp2
      go_ret
      exact ⟨rfl, hb⟩
end Go.Proofs.Ytcecjoodlmpgnaa
/- The contract of the reference's bytes. -/
namespace Go.Proofs.Ytcecjoodlmpgnaa
open Go.RowKit

theorem ginfo5 : (Try.prog.info? 5).map (fun i => (i.zero, i.size, i.bytes)) = some (some (.int .u8 0), 1, 1) := by kernel_rfl
theorem gtake_ub (N : List UInt8) (k : Nat) (h : k < N.length) : N.take (k + 1) = N.take k ++ [ub N k] := by
  rw [ub_at h, List.take_append_getElem h]
theorem gtake_map (N : List UInt8) (k : Nat) (h : k < N.length) : (N.take (k + 1)).map uv = (N.take k).map uv ++ [uv (ub N k)] := by
  rw [gtake_ub N k h, List.map_append]; rfl

end Go.Proofs.Ytcecjoodlmpgnaa
/- The contract of the reference's product: the long one. -/
namespace Go.Proofs.Ytcecjoodlmpgnaa
open Go.RowKit

theorem lonT_no1 (A B p i : Nat) (h : ¬ i ≤ p) : lonT A B p i = false := by simp [lonT, h]
theorem lonT_no2 (A B p i : Nat) (h : ¬ p < i + 128) : lonT A B p i = false := by simp [lonT, h]
theorem lonT_no3 (A B p i : Nat) (h : A.testBit i = false) : lonT A B p i = false := by simp [lonT, h]
theorem lonT_yes (A B p i : Nat) (h1 : i ≤ p) (h2 : p < i + 128) (h : A.testBit i = true) : lonT A B p i = B.testBit (p - i) := by simp [lonT, h1, h2, h]
theorem par_more (n : Nat) (f : Nat → Bool) : par (n + 1) f = (par n f ^^ f n) := rfl

end Go.Proofs.Ytcecjoodlmpgnaa
/- The contract of a polynomial's times. -/
namespace Go.Proofs.Ytcecjoodlmpgnaa
open Go.RowKit

theorem pol_index (B : Nat) {j : Nat} (h : j < 2) (W : World) : (Instr.index 96 (.agg (Pol B)) (.int .i64 (j : Int))).run Try.prog W = .ok (qv (wi B j)) W := by
  obtain rfl | rfl : j = 0 ∨ j = 1 := by omega
  · kernel_rfl
  · kernel_rfl
/-- After so many rounds: the product so far, and the left one, raised. -/
def tP (A B k : Nat) : Nat := pA A B k
def tA (A k : Nat) : Nat := gX k A
theorem tP_zero (A B : Nat) : tP A B 0 = 0 := rfl
theorem and_sel {x : Nat} (b : Bool) (h : x < B64) : bits .and .u64 (x : Int) ((msk b : Nat) : Int) = ((sel b x : Nat) : Int) := by
  rw [u64_and_nat x (msk b) h (sel_lt (by decide) (by decide)), and_msk b h]
/-- One round, told once. -/
theorem round_facts (A B k i j : Nat) (hj : j < 2) (hi : i < 64) (hk : 64 * j + i = k) : ∃ (b : Bool),
    ((shW (wi B j) i : Nat) : Int) / 9223372036854775808 = ((onb b : Nat) : Int) ∧
    bits .and .u64 ((w0 (tA A k) : Nat) : Int) ((msk b : Nat) : Int) = ((sel b (w0 (tA A k)) : Nat) : Int) ∧
    bits .and .u64 ((w1 (tA A k) : Nat) : Int) ((msk b : Nat) : Int) = ((sel b (w1 (tA A k)) : Nat) : Int) ∧
    bits .xor .u64 ((w0 (tP A B k) : Nat) : Int) ((sel b (w0 (tA A k)) : Nat) : Int) = ((w0 (tP A B (k + 1)) : Nat) : Int) ∧
    bits .xor .u64 ((w1 (tP A B k) : Nat) : Int) ((sel b (w1 (tA A k)) : Nat) : Int) = ((w1 (tP A B (k + 1)) : Nat) : Int) ∧
    IntKind.u64.wrap (((shW (wi B j) i : Nat) : Int) * 2) = ((shW (wi B j) (i + 1) : Nat) : Int) := by
  refine ⟨B.testBit k, ?_, and_sel _ (w0_lt _), and_sel _ (w1_lt _), ?_, ?_, ?_⟩
  · have := shW_top B hj hi
    rw [hk] at this
    unfold onb
    rw [← this]
    rfl
  · rw [u64_xor_nat _ _ (w0_lt _) (sel_lt (by decide) (w0_lt _)), ← w0_sel, ← w0_xor]; rfl
  · rw [u64_xor_nat _ _ (w1_lt _) (sel_lt (by decide) (w1_lt _)), ← w1_sel, ← w1_xor]; rfl
  · rw [IntKind.wrap_u64, ← shW_more]
    rfl
theorem tA_more (A k : Nat) (w : World) : Calls Try.prog 75 #[qv (w0 (tA A k)), qv (w1 (tA A k))] w fun e w' => e = .returned (.tuple #[qv (w0 (tA A (k + 1))), qv (w1 (tA A (k + 1)))]) ∧ w = w' := raised_any _ w
theorem w_nil : w0 0 = 0 ∧ w1 0 = 0 := by decide +kernel

set_option maxRecDepth 100000 in
set_option maxHeartbeats 4000000 in
theorem times_any (A B : Nat) (w : World) (hB : B < B128) :
    Calls Try.prog 54 #[.agg (Pol A), .agg (Pol B)] w fun e w' => e = .returned (.agg (Pol (gm A B))) ∧ Below w.heap.size w w' := by
  have HX := Lib.hid (fun (j : Nat) (hj : j < 2) => pol_index B hj)
  have HR := Lib.hid (round_facts A B)
  have HA := Lib.hid (tA_more A)
  have HG : Hid (tP A B 128 = gm A B) := Lib.hid (pA_all hB)
  have HS := Lib.hid (fun j => shW_zero (wi_lt B j))
  have HPL := Lib.hid (plen (gm A B))
  have H00 : Hid (w0 (tP A B 0) = 0 ∧ w1 (tP A B 0) = 0) := Lib.hid w_nil
  have c0 : ∀ g (W : World), Blk W g 96 (Pol A) → W.cell? ⟨g, 0, none⟩ = some (qv (w0 (tA A 0))) ∧ W.cell? ⟨g, 1, none⟩ = some (qv (w1 (tA A 0))) := fun g W h => ⟨h.cell 0, h.cell 1⟩
  have C0 := Lib.hid c0
  have HLB := Lib.hid (plen B)
  clear hB c0
  go_enter Try.func54, Try.ntmps54
  go_upto_region 2 with fail
  have BA := ((Blk.new w 96 (Pol A)).alloc (.cells (Pol B) 96)).alloc (.cells #[.int .u64 0, .int .u64 0] 96)
  have BB : Blk (((w.alloc (.cells (Pol A) 96)).alloc (.cells (Pol B) 96)).alloc (.cells #[.int .u64 0, .int .u64 0] 96)) (w.heap.size + 1) 96 (Pol B) := (Blk.newAt (by simp) _ _).alloc _
  have BZ : Blk (((w.alloc (.cells (Pol A) 96)).alloc (.cells (Pol B) 96)).alloc (.cells #[.int .u64 0, .int .u64 0] 96)) (w.heap.size + 1 + 1) 96 #[.int .u64 0, .int .u64 0] := Blk.newAt (by simp) _ _
  have hb0 := ba (ba (ba (Below.refl w.heap.size w) (.cells (Pol A) 96)) (.cells (Pol B) 96)) (.cells #[.int .u64 0, .int .u64 0] 96)
  obtain ⟨wm, hwm⟩ : ∃ wm, ((w.alloc (.cells (Pol A) 96)).alloc (.cells (Pol B) 96)).alloc (.cells #[.int .u64 0, .int .u64 0] 96) = wm := ⟨_, rfl⟩
  rw [hwm] at BA BB BZ hb0 ⊢
  have hc0 := (C0.out _ _ BA).1
  have hc1 := (C0.out _ _ BA).2
  have HBB := Lib.hid BB.drew
  have HBZ := Lib.hid BZ.drew
  have hbd := hb0.drew
  have HAZ : Hid (Value.int .u64 0 = qv (w0 (tP A B (64 * 0))) ∧ Value.int .u64 0 = qv (w1 (tP A B (64 * 0)))) := Lib.hid ⟨by rw [Nat.mul_zero, H00.out.1]; rfl, by rw [Nat.mul_zero, H00.out.2]; rfl⟩
  clear hwm BA BB BZ C0 H00 hb0
  go_region
  clear hc0 hc1
  go_wp2_with (refine wpList_load_row rfl _ _ rfl _ rfl _ _ _ _ HBB.out Try.underlying96 rfl HLB.out ?_)
  go_loopw [5, 6, 7, 8, 17] (fun fv sv av bv iv wr => ∃ j : Nat, j ≤ 2 ∧ iv = .int .i64 j ∧ fv = qv (w0 (tP A B (64 * j))) ∧ sv = qv (w1 (tP A B (64 * j))) ∧ av = qv (w0 (tA A (64 * j))) ∧ bv = qv (w1 (tA A (64 * j))) ∧ Hid (Blk wr (w.heap.size + 1 + 1) 96 #[.int .u64 0, .int .u64 0]) ∧ Below w.heap.size w wr) (fun _ _ _ _ iv _ => 2 - (intOf iv).toNat)
  case atStart => exact ⟨0, Nat.zero_le _, rfl, HAZ.out.1, HAZ.out.2, rfl, rfl, HBZ, hbd⟩
  case round =>
    clear HBZ HBB hbd HAZ
    obtain ⟨j, hj, rfl, rfl, rfl, rfl, rfl, Z, hb⟩ := hrel
    by_cases hlt : j < 2
    · have hji : (j : Int) < 2 := by omega
      have hix := HX.out j hlt
      have HRJ := Lib.hid (fun k i (h1 : i < 64) (h2 : 64 * j + i = k) => HR.out k i j hlt h1 h2)
      have hs0 := HS.out j
      have HSJ : Hid (qv (wi B j) = qv (shW (wi B j) 0)) := Lib.hid (by rw [hs0])
      have HJE : Hid (64 * j + 64 = 64 * (j + 1)) := Lib.hid (by omega)
      generalize wi B j = x at hix HRJ HSJ
      clear hs0
      go_wp2_with fail
      rw [HSJ.out]
      clear hix
      go_loopw [5, 6, 7, 8, 10, 20] (fun fv sv av bv xv iv wr => ∃ i k : Nat, i ≤ 64 ∧ Hid (64 * j + i = k) ∧ iv = .int .i64 i ∧ xv = qv (shW x i) ∧ fv = qv (w0 (tP A B k)) ∧ sv = qv (w1 (tP A B k)) ∧ av = qv (w0 (tA A k)) ∧ bv = qv (w1 (tA A k)) ∧ Hid (Blk wr (w.heap.size + 1 + 1) 96 #[.int .u64 0, .int .u64 0]) ∧ Below w.heap.size w wr) (fun _ _ _ _ _ iv _ => 64 - (intOf iv).toNat)
      case atStart => exact ⟨0, 64 * j, Nat.zero_le _, Lib.hid rfl, rfl, rfl, rfl, rfl, rfl, rfl, Z, hb⟩
      case round =>
        clear Z hb
        obtain ⟨i, k, hi, HK, rfl, rfl, rfl, rfl, rfl, rfl, Z, hb⟩ := hrel
        by_cases hli : i < 64
        · obtain ⟨b, e1, e2, e3, e4, e5, e6⟩ := HRJ.out k i hli HK.out
          have HRA := Lib.hid (fun W => HA.out k W)
          have HAL := Lib.hid (fun W => allOf_any b W)
          have HK2 : Hid (64 * j + (i + 1) = k + 1) := Lib.hid (by have := HK.out; omega)
          generalize w0 (tP A B k) = p0 at e4 ⊢
          generalize w1 (tP A B k) = p1 at e5 ⊢
          generalize w0 (tA A k) = a0 at e2 e4 HRA ⊢
          generalize w1 (tA A k) = a1 at e3 e5 HRA ⊢
          obtain ⟨s0, hs0⟩ : ∃ s, sel b a0 = s := ⟨_, rfl⟩
          obtain ⟨s1, hs1⟩ : ∃ s, sel b a1 = s := ⟨_, rfl⟩
          rw [hs0] at e2 e4
          rw [hs1] at e3 e5
          obtain ⟨q0, hq0⟩ : ∃ s, w0 (tP A B (k + 1)) = s := ⟨_, rfl⟩
          obtain ⟨q1, hq1⟩ : ∃ s, w1 (tP A B (k + 1)) = s := ⟨_, rfl⟩
          obtain ⟨c0, hc0⟩ : ∃ s, w0 (tA A (k + 1)) = s := ⟨_, rfl⟩
          obtain ⟨c1, hc1⟩ : ∃ s, w1 (tA A (k + 1)) = s := ⟨_, rfl⟩
          obtain ⟨y, hy⟩ : ∃ s, shW x i = s := ⟨_, rfl⟩
          obtain ⟨z, hz⟩ : ∃ s, shW x (i + 1) = s := ⟨_, rfl⟩
          rw [hq0] at e4
          rw [hq1] at e5
          rw [hc0, hc1] at HRA
          rw [hy] at e1 e6 ⊢
          rw [hz] at e6
          generalize onb b = o at e1 HAL
          generalize msk b = m at e2 e3 HAL
          have HQ : Hid (q0 = w0 (tP A B (k + 1)) ∧ q1 = w1 (tP A B (k + 1)) ∧ c0 = w0 (tA A (k + 1)) ∧ c1 = w1 (tA A (k + 1)) ∧ z = shW x (i + 1)) := Lib.hid ⟨hq0.symm, hq1.symm, hc0.symm, hc1.symm, hz.symm⟩
          clear hs0 hs1 hq0 hq1 hc0 hc1 hy hz
          go_wp2_with fail
          refine (HAL.out _).mono ?_
          rintro e w' ⟨rfl, rfl⟩
          go_wp2_with fail
          refine (HRA.out _).mono ?_
          rintro e w' ⟨rfl, rfl⟩
          go_wp2_with fail
          exact ⟨⟨i + 1, k + 1, by omega, HK2, by go_num, by rw [HQ.out.2.2.2.2], by rw [HQ.out.1], by rw [HQ.out.2.1], by rw [HQ.out.2.2.1], by rw [HQ.out.2.2.2.1], Z, hb⟩, by simp [intOf]; omega⟩
        · obtain rfl : i = 64 := by omega
          have hk := HK.out
          rw [HJE.out] at hk
          subst hk
          clear hli hi HK
          go_wp2_with fail
          exact ⟨⟨j + 1, by omega, by go_num, rfl, rfl, rfl, rfl, Z, hb⟩, by simp [intOf]; omega⟩
    · obtain rfl : j = 2 := by omega
      have hg := HG.out
      rw [show 64 * 2 = 128 from rfl, hg]
      have HZ := Z
      obtain ⟨G, hG⟩ : ∃ G, gm A B = G := ⟨_, rfl⟩
      rw [hG] at HPL ⊢
      have HGE := Lib.hid hG
      clear HG hg hG
      go_wp2_with (refine wpList_store_mid rfl _ _ _ rfl _ _ (Pol G) rfl rfl (HZ.out.there (by simp)) HPL.out (by kernel_rfl) ?_)
      have hW := HZ.out.whole (Pol G).toList rfl
      refine bodyPost_ret (v := .agg (Pol G)) (results_cell_row rfl _ _ _ _ _ _ _ rfl hW Try.underlying96 rfl HPL.out) rfl ?_
      exact ⟨by rw [HGE.out], bw hb (by omega) _ _⟩
end Go.Proofs.Ytcecjoodlmpgnaa
/- Two blocks' product, as texts; and what times 1 is. -/
namespace Go.Proofs.Ytcecjoodlmpgnaa
open Go.RowKit

/-- Two blocks' product, as texts. -/
def mulL (a b : List UInt8) : List UInt8 := nb (gm (bn a) (bn b))
theorem mulL_len (a b : List UInt8) : (mulL a b).length = 16 := nb_len _
/-- The block 1. -/
def oneL : List UInt8 := [128, 0, 0, 0, 0, 0, 0, 0, 0, 0, 0, 0, 0, 0, 0, 0]
theorem bn_one : bn oneL = 1 := by decide +kernel
theorem mulL_one (a : List UInt8) (h : a.length = 16) : mulL a oneL = a := by rw [mulL, bn_one, gm_one, nb_bn h]
end Go.Proofs.Ytcecjoodlmpgnaa
/- The contract of the reference's Mul: the product. -/
namespace Go.Proofs.Ytcecjoodlmpgnaa
open Go.RowKit

theorem step_no (f : Nat → Bool) (p : Nat) (h : f p = false) : stepF f p = f := by simp [stepF, h]
theorem step_yes (f : Nat → Bool) (p : Nat) (h : f p = true) : stepF f p = flipF (flipF (flipF (flipF f (p - 128)) (p - 127)) (p - 126)) (p - 121) := by simp [stepF, h]

theorem BR.at_ {w : World} {g n : Nat} {f : Nat → Bool} (h : BR w (some ⟨g, 0, none⟩) n f) {j : Nat} (hj : j < n) : w.cell? ⟨g, j, none⟩ = some (lv (f j)) := by
  obtain ⟨g', e, h⟩ := h
  cases e
  exact h j hj

end Go.Proofs.Ytcecjoodlmpgnaa
