/- The contract of told: a state's bytes. -/
import Derived.Test.YtilcondnpoinkaaHSumR
import Derived.Deep.AppendLies
import Derived.Laws.MakeOwn
import Derived.Deep.MidRow
namespace Go.Proofs.Ytilcondnpoinkaa
open Go.RowKit

theorem info5 : (Try.prog.info? 5).map (fun i => (i.zero, i.size, i.bytes)) = some (some (.int .u8 0), 1, 1) := by kernel_rfl
theorem highB_four (x : Nat) : highB x 4 = [UInt8.ofNat (x / 16777216 % 256), UInt8.ofNat (x / 65536 % 256), UInt8.ofNat (x / 256 % 256), UInt8.ofNat (x % 256)] := by
  simp [highB, lowB, Nat.div_div_eq_div_mul]
theorem agg_at (a b c d e f g h k : Nat) (hk : k < 8) (W : World) : (Instr.index 77 (.agg #[wv a, wv b, wv c, wv d, wv e, wv f, wv g, wv h]) (.int .i64 (k : Int))).run Try.prog W = .ok (wv (wn [a, b, c, d, e, f, g, h] k)) W := by
  obtain rfl | rfl | rfl | rfl | rfl | rfl | rfl | rfl : k = 0 ∨ k = 1 ∨ k = 2 ∨ k = 3 ∨ k = 4 ∨ k = 5 ∨ k = 6 ∨ k = 7 := by omega
  all_goals kernel_rfl

theorem heap_alloc_new' (W : World) (o : Obj) {n : Nat} (h : W.heap.size = n) : (W.alloc o).heap[n]? = some o := by subst h; exact heap_alloc_new W o
theorem news_new (W : World) (l : List Value) (t : TypeId) (j : Nat) (u : Value) (hj : l[j]? = some u) : (W.alloc (.cells l.toArray t)).cell? ((⟨W.heap.size, 0, none⟩ : Addr).add j) = some u := by
  rw [Addr.add_mid, Nat.zero_add, cell_of_row _ _ _ _ _ _ (heap_alloc_new W _)]
  simpa using hj
theorem own_alloc {W : World} {base : Nat} {e : TypeId} {size : Nat} {v : Value} {n : Nat} {xs : List Value} (h : W.ownsRow base e size v n xs) (o : Obj) : (W.alloc o).ownsRow base e size v n xs := by
  obtain ⟨h1, h2⟩ := h
  refine ⟨h1, ?_⟩
  rcases h2 with h2 | ⟨g, cap, cur, hv, hg, hh, r⟩
  · exact Or.inl h2
  · exact Or.inr ⟨g, cap, cur, hv, hg, (Below.heap_alloc W o g (Array.getElem?_eq_some_iff.1 hh).1).trans hh, r⟩
theorem own_text {W : World} {base g c n : Nat} {l : List UInt8} (h : W.ownsRow base 5 1 (.slice (some ⟨g, 0, none⟩) n c) n (Lib.byteCells l)) (hn : l.length = n) : (convert 60 9 (.slice (some ⟨g, 0, none⟩) n c)).run Try.prog W = .ok (.string ⟨l.toArray⟩) W := by
  subst hn
  refine run_convert_bytes_back (P := Try.prog) W 60 9 5 ⟨g, 0, none⟩ c l Try.underlying60 Try.underlying5 Try.underlying9 (fun j hj => ?_)
  rw [Addr.add_mid, Nat.zero_add, h.cellAt j (by simpa using hj)]
  simp [Lib.byteCells, hj]
theorem make32 : ∃ Z : Array Value, Z.size = 32 ∧ ∀ W : World, (Instr.makeSlice 60 (.int .i64 0) (.int .i64 32)).run Try.prog W = .ok (.slice (some ⟨W.heap.size, 0, none⟩) 0 32) (W.alloc (.cells Z 5)) := by
  obtain ⟨i0, hi, hz0, hz1, hz2⟩ := info_parts info5
  refine ⟨madeCells (Value.int .u8 0).cells (32 * 1), by simp [madeCells, Value.cells], fun W => ?_⟩
  have h := run_makeSlice (P := Try.prog) W 60 5 i0 (.int .u8 0) Try.underlying60 hi hz0 .i64 .i64 0 32 (by omega) (by omega) (by rw [hz1]; decide) (by rw [hz2]; decide) (by omega)
  rw [hz1] at h
  exact h

set_option maxRecDepth 100000 in
set_option maxHeartbeats 2000000 in
theorem told_any (a b c d e f g' h : Nat) (hL : ∀ x ∈ [a, b, c, d, e, f, g', h], x < 4294967296) (w : World) :
    Calls Try.prog 50 #[.agg #[wv a, wv b, wv c, wv d, wv e, wv f, wv g', wv h]] w fun e' w' => e' = .returned (.string ⟨(bytesW [a, b, c, d, e, f, g', h]).toArray⟩) ∧ Below w.heap.size w w' := by
  obtain ⟨i0, hi, hz0, hz1, hz2⟩ := info_parts info5
  obtain ⟨Z, hZ, hmk⟩ := make32
  have HZ := Lib.hid hZ
  have HLT := Lib.hid hL
  clear hL hZ
  go_enter Try.func50, Try.ntmps50
  go_wp2_with fail
  go_loopw [3, 8] (fun ov iv wr => ∃ k g cap : Nat, k ≤ 8 ∧ iv = .int .i64 k ∧ ov = .slice (some ⟨g, 0, none⟩) (4 * k) cap ∧ wr.ownsRow w.heap.size 5 1 (.slice (some ⟨g, 0, none⟩) (4 * k) cap) (4 * k) (Lib.byteCells (bytesW ([a, b, c, d, e, f, g', h].take k))) ∧ Below w.heap.size w wr) (fun _ iv _ => 8 - (intOf iv).toNat)
  case atStart =>
    refine ⟨0, w.heap.size + 1, 32, Nat.zero_le _, rfl, rfl, ⟨rfl, .inr ⟨_, 32, Z, rfl, by omega, ?_, by omega, by unfold maxLen; omega, by rw [HZ.out], by simp [Lib.byteCells, bytesW]⟩⟩, ba (ba (Below.refl _ _) _) _⟩
    exact heap_alloc_new' _ _ (by simp)
  case round =>
    obtain ⟨k, q, cap, hk, rfl, rfl, hown, hb⟩ := hrel
    by_cases hlt : k < 8
    · have hix := agg_at a b c d e f g' h k hlt
      have HT := Lib.hid (bytesW_take [a, b, c, d, e, f, g', h] k hlt)
      have hx1 := wn_lt HLT.out k
      obtain ⟨L, hL⟩ : ∃ L, [a, b, c, d, e, f, g', h] = L := ⟨_, rfl⟩
      rw [hL] at hix HT hx1 hown ⊢
      obtain ⟨x, hx⟩ : ∃ x, wn L k = x := ⟨_, rfl⟩
      rw [hx] at hix HT hx1
      rw [highB_four] at HT
      obtain ⟨b3, h3⟩ : ∃ b3, UInt8.ofNat (x / 16777216 % 256) = b3 := ⟨_, rfl⟩
      obtain ⟨b2, h2⟩ : ∃ b2, UInt8.ofNat (x / 65536 % 256) = b2 := ⟨_, rfl⟩
      obtain ⟨b1, h1⟩ : ∃ b1, UInt8.ofNat (x / 256 % 256) = b1 := ⟨_, rfl⟩
      obtain ⟨b0, h0⟩ : ∃ b0, UInt8.ofNat (x % 256) = b0 := ⟨_, rfl⟩
      rw [h3, h2, h1, h0] at HT
      have e3 : (x : Int) / 16777216 = (b3.toNat : Int) := by rw [← h3]; simp; omega
      have e2 : ((x : Int) / 65536) % 256 = (b2.toNat : Int) := by rw [← h2]; simp
      have e1 : ((x : Int) / 256) % 256 = (b1.toNat : Int) := by rw [← h1]; simp
      have e0 : (x : Int) % 256 = (b0.toNat : Int) := by rw [← h0]; simp
      have HL := Lib.hid hL
      have z := hb.size
      have HO := Lib.hid hown
      have hnews := news_new wr [.int .u8 (b3.toNat : Int), .int .u8 (b2.toNat : Int), .int .u8 (b1.toNat : Int), .int .u8 (b0.toNat : Int)] 5
      clear hx h3 h2 h1 h0 hL hown
      go_wp2_with (at_builtin; refine wpList_append_own _ rfl _ _ 60 rfl w.heap.size 5 i0 (.int .u8 0) 1 1 Try.underlying60 hi hz0 hz1 hz2 rfl (by decide) _ _ _ rfl (own_alloc HO.out _) ⟨wr.heap.size, 0, none⟩ 4 4 [.int .u8 (b3.toNat : Int), .int .u8 (b2.toNat : Int), .int .u8 (b1.toNat : Int), .int .u8 (b0.toNat : Int)] rfl rfl hnews (by simp [Value.oneCell']) (by unfold maxLen; omega) (by omega) (by simp; omega) ?_; intro v' w1 hown' hgrow _; obtain ⟨g1, c1, rfl⟩ := ownsRow_succ hown'; have HO1 := Lib.hid hown'; clear hown' hnews)
      have hb1 : Below w.heap.size w w1 := (hb.alloc hb.size _).grown hgrow (by simp; omega) (fun r e => by cases e; exact (HO.out.lt _ rfl).1)
      have HO2 : w1.ownsRow w.heap.size 5 1 (.slice (some ⟨g1, 0, none⟩) (4 * (k + 1)) c1) (4 * (k + 1)) (Lib.byteCells (bytesW (L.take (k + 1)))) := by
        rw [HT.out, Lib.byteCells_append]
        exact HO1.out
      exact ⟨⟨k + 1, g1, c1, by omega, by go_num, rfl, HO2, hb1⟩, by simp [intOf]; omega⟩
    · obtain rfl : k = 8 := by omega
      have hcv := own_text hown (by rw [bytesW_len]; rfl)
      go_wp2_with fail
      go_ret
      exact ⟨rfl, hb⟩
end Go.Proofs.Ytilcondnpoinkaa
