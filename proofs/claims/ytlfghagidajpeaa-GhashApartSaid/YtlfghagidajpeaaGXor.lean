/- The contract of stage 7's xor, and what products of texts come to. -/
import Derived.Test.YtlfghagidajpeaaGCut
import Derived.Laws.MakeOwn
namespace Go.Proofs.Ytlfghagidajpeaa
open Go.RowKit

theorem mulL_comm (a b : List UInt8) : mulL b a = mulL a b := by unfold mulL; rw [gm_comm (bn_lt b) (bn_lt a)]
theorem mulL_assoc (a b c : List UInt8) : mulL a (mulL b c) = mulL (mulL a b) c := by
  unfold mulL
  rw [bn_nb (gm_lt _ (bn_lt b)), bn_nb (gm_lt _ (bn_lt a)), gm_assoc (bn_lt a) (bn_lt b) (bn_lt c)]
theorem nb_xor {x y : Nat} (hx : x < B128) (hy : y < B128) : nb (x ^^^ y) = xorL (nb x) (nb y) := by
  apply bn_inj (nb_len _) (by rw [xorL_len, nb_len])
  rw [bn_xorL (nb_len _), bn_nb hx, bn_nb hy, bn_nb (gxor_lt hx hy)]
theorem mulL_spread (a b c : List UInt8) (hb : b.length = 16) : mulL a (xorL b c) = xorL (mulL a b) (mulL a c) := by
  unfold mulL
  rw [bn_xorL hb, gm_spread, nb_xor (gm_lt _ (bn_lt a)) (gm_lt _ (bn_lt a))]
theorem bn_zeros : bn gzeros = 0 := by decide +kernel
theorem nb_zero : nb 0 = gzeros := by decide +kernel
theorem mulL_none {a b : List UInt8} (ha : a.length = 16) (hb : b.length = 16) : mulL a b = gzeros ↔ a = gzeros ∨ b = gzeros := by
  have h0 : ∀ {l : List UInt8}, l.length = 16 → bn l = 0 → l = gzeros := fun hl h => bn_inj hl rfl (by rw [h, bn_zeros])
  constructor
  · intro h
    have h1 : gm (bn a) (bn b) = 0 := by
      unfold mulL at h
      rw [← bn_nb (gm_lt (bn b) (bn_lt a)), h, bn_zeros]
    rcases gm_none (bn_lt a) (bn_lt b) h1 with h2 | h2
    · exact .inl (h0 ha h2)
    · exact .inr (h0 hb h2)
  · rintro (rfl | rfl)
    · unfold mulL; rw [bn_zeros, zero_gm, nb_zero]
    · unfold mulL; rw [bn_zeros, gm_zero, nb_zero]
theorem gmake (W : World) : (Instr.makeSlice 35 (.int .i64 16) (.int .i64 16)).run Try.prog W = .ok (.slice (some ⟨W.heap.size, 0, none⟩) 16 16) (W.alloc (.cells (gzeros.map uv).toArray 5)) := by
  obtain ⟨i0, hi, hz0, hz1, hz2⟩ := info_parts (show (Try.prog.info? 5).map (fun i => (i.zero, i.size, i.bytes)) = some (some (.int .u8 0), 1, 1) by kernel_rfl)
  have h := run_makeSlice (P := Try.prog) W 35 5 i0 (.int .u8 0) Try.underlying35 hi hz0 .i64 .i64 16 16 (by omega) (by omega) (by rw [hz1]; omega) (by rw [hz2]; omega) (by omega)
  rw [hz1] at h
  have e : madeCells (Value.int .u8 0).cells (Int.toNat 16 * 1) = (gzeros.map uv).toArray := by kernel_rfl
  rw [e] at h
  exact h

/-- A row of bytes that can be read and written. -/
def ART (w : World) (g : Nat) (L : List UInt8) : Prop := ∀ j, j < L.length → At w g j (uv (ub L j))
theorem frozen_of_block (W : World) (g : Nat) (cs : Array Value) (t : TypeId) (n m : Nat) (h : W.heap[g]? = some (.cells cs t (n, m))) (j : Nat) (hj : j < n) : W.frozen? ⟨g, j, none⟩ = false := by
  simp [World.frozen?, h]
  omega
theorem bytes_conv (l : List UInt8) (w : World) : ∃ (c : Nat) (wa : World), (convert 9 35 (.string ⟨l.toArray⟩)).run Try.prog w = .ok (.slice (some ⟨w.heap.size, 0, none⟩) l.length c) wa ∧ ART wa w.heap.size l ∧ Below w.heap.size w wa := by
  have h := run_bytes_of_string (P := Try.prog) w 9 35 5 ⟨l.toArray⟩ Try.underlying9 Try.underlying35 Try.underlying5
  rw [size_of] at h
  obtain ⟨c, hc⟩ : ∃ c, grownCap w l.length 0 5 = c := ⟨_, rfl⟩
  rw [hc] at h
  refine ⟨c, _, h, fun j hj => ?_, (Below.refl w.heap.size w).drew.trans (((Below.refl w.heap.size w.drew).alloc (Nat.le_refl _) _))⟩
  have hat : (bytesRow ⟨l.toArray⟩ c)[j]? = some (uv (ub l j)) := by
    rw [bytesRow_at ⟨l.toArray⟩ c j (by simpa using hj), ub_at hj]
    rfl
  have hsz : j < (bytesRow ⟨l.toArray⟩ c).size := (Array.getElem?_eq_some_iff.1 hat).1
  have hb := heap_alloc_new w.drew (.cells (bytesRow ⟨l.toArray⟩ c) 5 ((bytesRow ⟨l.toArray⟩ c).size, (bytesRow ⟨l.toArray⟩ c).size + 1))
  exact ⟨(cell_of_row _ _ _ _ _ _ hb).trans hat, frozen_of_block _ _ _ _ _ _ hb j hsz⟩
theorem ART.set_ {w : World} {g n k : Nat} {N M : List UInt8} (hn : N.length = n) (hm : M.length = n) (h : ART w g (cutL k N M)) (hk : k < n) : ART (w.setCell ⟨g, k, none⟩ (uv (ub N k))) g (cutL (k + 1) N M) := fun j hj => by
  rw [cutL_len hn hm (by omega)] at hj
  have hA := h j (by rw [cutL_len hn hm (by omega)]; exact hj)
  refine ⟨?_, by rw [World.frozen?_setCell]; exact hA.2⟩
  rw [ub_cutL hn hm (by omega) hj]
  by_cases e : j = k
  · subst e
    rw [if_pos (by omega)]
    exact World.cell?_setCell_same _ _ _ hA.1
  · have h2 := hA.1
    rw [ub_cutL hn hm (by omega) hj] at h2
    have e2 : (if j < k + 1 then ub N j else ub M j) = (if j < k then ub N j else ub M j) := by
      by_cases h3 : j < k
      · rw [if_pos h3, if_pos (by omega)]
      · rw [if_neg h3, if_neg (by omega)]
    rw [e2, ← h2]
    refine World.cell?_setCell_other _ _ _ _ ?_
    intro e9; cases e9; exact e rfl
theorem ART.later {w w' : World} {g : Nat} {L : List UInt8} (h : ART w g L) (hb : Below w.heap.size w w') : ART w' g L := fun j hj => (h j hj).later hb
theorem ART.text {w : World} {g n c : Nat} {L : List UInt8} (h : ART w g L) (hl : L.length = n) : (convert 35 9 (.slice (some ⟨g, 0, none⟩) n c)).run Try.prog w = .ok (.string ⟨L.toArray⟩) w := by
  subst hl
  refine run_convert_bytes_back (P := Try.prog) w 35 9 5 ⟨g, 0, none⟩ c L Try.underlying35 Try.underlying5 Try.underlying9 (fun j hj => ?_)
  rw [Addr.add_mid, Nat.zero_add, (h j hj).1, ub_at hj]

set_option maxRecDepth 100000 in
set_option maxHeartbeats 2000000 in
theorem gxor_any (a b : List UInt8) (w : World) (ha : a.length = 16) (hb : b.length = 16) :
    Calls Try.prog 16 #[.string ⟨a.toArray⟩, .string ⟨b.toArray⟩] w fun e w' => e = .returned (.string ⟨(xorL a b).toArray⟩) ∧ Below w.heap.size w w' := by
  have HN : Hid ((xorL a b).length = 16) := Lib.hid (by rw [xorL_len, ha])
  have HU : Hid (∀ k, k < 16 → ub (xorL a b) k = ub a k ^^^ ub b k) := Lib.hid (fun k hk => by unfold xorL; rw [ub_tab _ (by omega)])
  have HI := Lib.hid (gindex_of b)
  have HA := Lib.hid ha
  have hsa := size_of a
  have hsb := size_of b
  rw [ha] at hsa
  rw [hb] at hsb HI
  obtain ⟨N, hN⟩ : ∃ N, xorL a b = N := ⟨_, rfl⟩
  rw [hN] at HN HU ⊢
  obtain ⟨c, wa, hcv, hart, hb0⟩ := bytes_conv a w
  rw [ha] at hcv
  have HART0 : Hid (ART wa w.heap.size (cutL 0 N a)) := Lib.hid (by rw [cutL_zero]; exact hart)
  clear ha hb hN hart
  go_enter Try.func16, Try.ntmps16
  go_wp2_with fail
  clear hcv
  go_loopw [11] (fun iv wr => ∃ k : Nat, k ≤ 16 ∧ iv = .int .i64 k ∧ Hid (ART wr w.heap.size (cutL k N a)) ∧ Below w.heap.size w wr) (fun iv _ => 16 - (intOf iv).toNat)
  case atStart => exact ⟨0, Nat.zero_le _, rfl, HART0, hb0⟩
  case round =>
    clear HART0 hb0
    obtain ⟨k, hk, rfl, P, hb⟩ := hrel
    by_cases hlt : k < 16
    · have hkl : (k : Int) < 16 := by omega
      have hat := P.out k (by rw [cutL_len HN.out HA.out (by omega)]; exact hlt)
      rw [ub_cutL HN.out HA.out (by omega) hlt, if_neg (Nat.lt_irrefl _)] at hat
      obtain ⟨hc, hf⟩ := hat
      have hix := HI.out k k rfl hlt
      have P2 := P.out.set_ HN.out HA.out hlt
      rw [HU.out k hlt] at P2
      have hx := xor_byte (ub a k) (ub b k)
      generalize ub a k = x at hc hx P2
      generalize ub b k = y at hix hx P2
      obtain ⟨z, hz⟩ : ∃ z, x ^^^ y = z := ⟨_, rfl⟩
      rw [hz] at hx P2
      have HP2 := Lib.hid P2
      have HB2 := Lib.hid (bs hb (b := w.heap.size) (o := k) (Nat.le_refl _) (uv z))
      clear hz P2
      go_wp2_with fail
      go_region

      go_wp2_with fail
      exact ⟨⟨k + 1, by omega, by go_num, HP2, HB2.out.drew⟩, by simp [intOf]; omega⟩
    · obtain rfl : k = 16 := by omega
      have hp := P.out
      rw [cutL_all HN.out HA.out] at hp
      have hcv := hp.text (c := c) HN.out
      clear hp P
      go_wp2
      go_ret
      exact ⟨rfl, hb⟩
end Go.Proofs.Ytlfghagidajpeaa
