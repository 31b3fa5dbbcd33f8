/- Contracts of newWriter, number, told, Number, the reference's Low, and alive. -/
import Derived.Test.YtilcondnpoinkaaCPass
import Derived.Laws.MakeOwn
namespace Go.Proofs.Ytilcondnpoinkaa
open Go.RowKit

theorem infoU8 : (Try.prog.info? 5).map (fun i => (i.zero, i.size, i.bytes)) = some (some (.int .u8 0), 1, 1) := by kernel_rfl
theorem made_row (n : Nat) : madeCells (Value.int .u8 0).cells n = row [] n := by
  unfold madeCells row
  apply Array.ext
  · simp
  · intro i h1 h2
    have hm : i % 1 = 0 := Nat.mod_one i
    simp [Value.cells, hm]

set_option maxRecDepth 100000 in
set_option maxHeartbeats 1000000 in
theorem newWriter_any (n : Nat) (w : World) (hn : n ≤ 1099511627776) :
    Calls Try.prog 33 #[.int .i64 (n : Int)] w fun e w' => ∃ p g, e = .returned (.pointer (some ⟨p, 0, none⟩)) ∧ w.heap.size ≤ p ∧ w.heap.size ≤ g ∧ Wr w' p g [] n ∧ Below w.heap.size w w' := by
  obtain ⟨i1, hi, hz0, hz1, hz2⟩ := info_parts infoU8
  have hmk : ∀ W : World, (Instr.makeSlice 60 (.int .i64 (n : Int)) (.int .i64 (n : Int))).run Try.prog W = .ok (.slice (some ⟨W.heap.size, 0, none⟩) n n) (W.alloc (.cells (row [] n) 5)) := fun W => by
    have hb : (i1.bytes : Int) * (n : Int) ≤ 281474976710656 := by rw [hz2]; omega
    have hr := run_make (P := Try.prog) W 60 5 i1 _ Try.underlying60 hi hz0 .i64 .i64 n n (by omega) (by omega) hb (by omega)
    rw [hz1, Int.toNat_natCast, Nat.mul_one, made_row] at hr
    exact hr
  go_enter Try.func33, Try.ntmps33
  go_wp2
  go_ret
  exact ⟨_, _, rfl, by omega, Nat.le_refl _, ⟨Blk.newAt (by simp) _ _, (Blk.new w _ _).alloc _, Nat.zero_le _⟩, ba (ba (Below.refl _ _) _) _⟩

set_option maxRecDepth 100000 in
set_option maxHeartbeats 1000000 in
theorem wnumber_any (p g n N : Nat) (D : List UInt8) (w : World) (h : Wr w p g D N) (hn : (n : Int) ≤ 18446744073709551615) (hm : D.length + 8 ≤ N) (hN : (N : Int) ≤ 9223372036854775807) :
    Calls Try.prog 45 #[.pointer (some ⟨p, 0, none⟩), .int .u64 (n : Int)] w fun e w' => e = .returned (.tuple #[]) ∧ Wr w' p g (D ++ low n 8) N ∧ Off p g w w' := by
  go_enter Try.func45, Try.ntmps45
  go_wp2_with fail
  refine (wlow_any p g n 8 N D _ h hn hm hN).mono ?_
  rintro e w1 ⟨rfl, hw, ho⟩
  go_wp2
  go_end0
  exact ⟨rfl, hw, ho⟩

theorem row_full (D : List UInt8) : row D D.length = (D.map bv).toArray := by simp [row]

set_option maxRecDepth 100000 in
set_option maxHeartbeats 1000000 in
theorem wtold_any (p g N : Nat) (D : List UInt8) (w : World) (h : Wr w p g D N) (hN : D.length = N) :
    Calls Try.prog 35 #[.pointer (some ⟨p, 0, none⟩)] w fun e w' => e = .returned (.string ⟨D.toArray⟩) ∧ w = w' := by
  subst hN
  obtain ⟨hp, hg, _⟩ := h
  have hc := (hp.at_ (i := 1) rfl).1
  have hcv := run_convert_bytes_back (P := Try.prog) w 60 9 5 ⟨g, 0, none⟩ D.length D Try.underlying60 Try.underlying5 Try.underlying9 (fun j hj => by
    have e : (⟨g, 0, none⟩ : Addr).add j = ⟨g, j, none⟩ := by cases j <;> simp [Addr.add]
    rw [e, hg.cell j, row_full]
    simp [hj])
  clear hp hg
  go_enter Try.func35, Try.ntmps35
  go_wp2
  go_ret
  exact ⟨rfl, rfl⟩

set_option maxRecDepth 100000 in
set_option maxHeartbeats 1000000 in
theorem rlow_any (n m : Nat) (w : World) (hm : (m : Int) ≤ 1048576) (hn : (n : Int) ≤ 18446744073709551615) :
    Calls Try.prog 31 #[.int .u64 (n : Int), .int .i64 (m : Int)] w fun e w' => e = .returned (.string ⟨(low n m).toArray⟩) ∧ Below w.heap.size w w' := by
  go_enter Try.func31, Try.ntmps31
  go_wp2
  go_loopw [0, 5, 6] (fun nv out iv wr => ∃ k q : Nat, k ≤ m ∧ iv = .int .i64 k ∧ nv = .int .u64 (q : Int) ∧ (q : Int) ≤ 18446744073709551615 ∧ Hid (q = n / 256 ^ k) ∧ out = .string ⟨(low n k).toArray⟩ ∧ Below w.heap.size w wr) (fun _ _ i _ => m - (intOf i).toNat)
  case atStart => exact ⟨0, n, Nat.zero_le _, rfl, rfl, hn, Lib.hid (by simp), rfl, Below.refl _ _⟩
  case round =>
    obtain ⟨k, q, hk, rfl, rfl, hq1, HQ, rfl, hb⟩ := hrel
    by_cases hlt : k < m
    · have hL := low_length n k
      have hS := low_snoc n k
      rw [← HQ.out] at hS
      obtain ⟨b, hbb⟩ : ∃ b, UInt8.ofNat (q % 256) = b := ⟨_, rfl⟩
      have hB : IntKind.u8.wrap ((q : Int) % 256) = (b.toNat : Int) := by rw [← hbb, IntKind.wrap_u8, ofNat_toNat_mod]; omega
      rw [hbb] at hS
      have hcv : ∀ W : World, (convert 60 9 (.slice (some ⟨W.heap.size, 0, none⟩) 1 1)).run Try.prog (W.alloc (.cells #[bv b] 5)) = .ok (.string ⟨[b].toArray⟩) (W.alloc (.cells #[bv b] 5)) := fun W => run_convert_bytes_back (P := Try.prog) (W.alloc (.cells #[bv b] 5)) 60 9 5 ⟨W.heap.size, 0, none⟩ 1 [b] Try.underlying60 Try.underlying5 Try.underlying9 (fun j hj => by
        obtain rfl : j = 0 := by simpa using hj
        simp [Addr.add])
      have hadd : ∀ W : World, (Op.stringOp .add ⟨(low n k).toArray⟩ ⟨[b].toArray⟩).run Try.prog W = .ok (.string ⟨(low n k ++ [b]).toArray⟩) W := fun W => run_string_add_lists (P := Try.prog) W (low n k) [b] (by omega) (by simp)
      have HS := Lib.hid hS
      clear hS hbb
      go_wp2
      exact ⟨⟨k + 1, q / 256, by omega, by go_num, by go_num, by omega, Lib.hid (by rw [HQ.out, Nat.div_div_eq_div_mul, Nat.pow_succ]), by rw [HS.out], ba hb _⟩, by simp [intOf]; omega⟩
    · obtain rfl : k = m := by omega
      go_wp2
      go_ret
      exact ⟨rfl, hb⟩
end Go.Proofs.Ytilcondnpoinkaa
