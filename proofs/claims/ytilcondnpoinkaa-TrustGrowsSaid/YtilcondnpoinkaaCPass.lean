/- Contracts of pass, and of the writer's low. -/
import Derived.Test.YtilcondnpoinkaaMem
import Derived.Test.YtilcondnpoinkaaCMath
import Derived.Outline
namespace Go.Proofs.Ytilcondnpoinkaa
open Go.RowKit

set_option maxHeartbeats 400000 in
theorem pass_any (p : Nat) (n m : Int) (w : World) (h : At w p 0 (.int .i64 n)) (n0 : 0 ≤ n) (m0 : 0 ≤ m) (hs : n + m ≤ 9223372036854775807) :
    Calls Try.prog 56 #[.pointer (some ⟨p, 0, none⟩), .int .i64 m] w fun e w' => e = .returned (.int .i64 n) ∧ w' = w.setCell ⟨p, 0, none⟩ (.int .i64 (n + m)) := by
  obtain ⟨hc, hf⟩ := h
  go_enter Try.func56, Try.ntmps56
  go_wp2
  go_ret
  exact ⟨rfl, rfl⟩

/-- A byte's cell. -/
abbrev bv (b : UInt8) : Value := .int .u8 (b.toNat : Int)
/-- The cells of so many bytes, of which those ahead are D, and the others 0. -/
def row (D : List UInt8) (N : Nat) : Array Value := ((D ++ List.replicate (N - D.length) 0).map bv).toArray
/-- A writer, and what it has written. -/
def Wr (W : World) (p g : Nat) (D : List UInt8) (N : Nat) : Prop :=
  Blk W p 70 #[.int .i64 (D.length : Int), .slice (some ⟨g, 0, none⟩) N N] ∧ Blk W g 5 (row D N) ∧ D.length ≤ N
theorem Blk.ne_ {w : World} {g g' : Nat} {t t' : TypeId} {cs cs' : Array Value} (h : Blk w g t cs) (h' : Blk w g' t' cs') (hne : t ≠ t') : g ≠ g' := by
  rintro rfl
  unfold Blk at h h'
  rw [h] at h'
  injection h' with h'
  injection h' with _ ht
  exact hne ht
theorem Wr.ne {W : World} {p g : Nat} {D : List UInt8} {N : Nat} (h : Wr W p g D N) : p ≠ g := h.1.ne_ h.2.1 (by decide)
theorem row_size (D : List UInt8) (N : Nat) (h : D.length ≤ N) : (row D N).size = N := by
  simp [row]; omega
theorem row_set (D : List UInt8) (N : Nat) (b : UInt8) (h : D.length < N) : (row D N).setIfInBounds D.length (bv b) = row (D ++ [b]) N := by
  unfold row
  obtain ⟨r, hr⟩ : ∃ r, N - D.length = r + 1 := ⟨N - D.length - 1, by omega⟩
  have hr' : N - (D ++ [b]).length = r := by simp; omega
  rw [hr, hr']
  simp [List.replicate_succ]
theorem row_at (D : List UInt8) (N : Nat) (h : D.length < N) : (row D N)[D.length]? = some (.int .u8 0) := by
  unfold row
  obtain ⟨r, hr⟩ : ∃ r, N - D.length = r + 1 := ⟨N - D.length - 1, by omega⟩
  rw [hr]
  simp [List.replicate_succ]

theorem u8_wrap (q : Nat) : IntKind.u8.wrap (q : Int) = ((UInt8.ofNat (q % 256)).toNat : Int) := by
  rw [IntKind.wrap_u8, ofNat_toNat_mod]; omega

set_option maxRecDepth 100000 in
set_option maxHeartbeats 1000000 in
theorem wlow_any (p g n m N : Nat) (D : List UInt8) (w : World) (h : Wr w p g D N) (hn : (n : Int) ≤ 18446744073709551615) (hm : D.length + m ≤ N) (hN : (N : Int) ≤ 9223372036854775807) :
    Calls Try.prog 55 #[.pointer (some ⟨p, 0, none⟩), .int .u64 (n : Int), .int .i64 (m : Int)] w fun e w' => e = .returned (.tuple #[]) ∧ Wr w' p g (D ++ low n m) N ∧ Off p g w w' := by
  go_enter Try.func55, Try.ntmps55
  go_wp2
  go_loopw [1, 7] (fun nv iv wr => ∃ k q : Nat, k ≤ m ∧ iv = .int .i64 k ∧ nv = .int .u64 (q : Int) ∧ (q : Int) ≤ 18446744073709551615 ∧ Hid (q = n / 256 ^ k) ∧ Wr wr p g (D ++ low n k) N ∧ Off p g w wr) (fun _ i _ => m - (intOf i).toNat)
  case atStart => exact ⟨0, n, Nat.zero_le _, rfl, rfl, hn, Lib.hid (by simp), by simpa [low] using h, Off.refl _ _ _⟩
  case round =>
    obtain ⟨k, q, hk, rfl, rfl, hq1, HQ, hw, ho⟩ := hrel
    by_cases hlt : k < m
    · obtain ⟨hp, hg, hl⟩ := hw
      have hne : p ≠ g := hp.ne_ hg (by decide)
      have hL : (D ++ low n k).length = D.length + k := by rw [List.length_append, low_length]
      have P0 := hp.at_ (i := 0) rfl
      have P1 := (hp.at_ (i := 1) rfl).1
      have G0 := hg.at_ (row_at (D ++ low n k) N (by omega))
      rw [hL] at P0 G0
      obtain ⟨d, hd⟩ : ∃ d, D.length + k = d := ⟨_, rfl⟩
      rw [hd] at P0 G0
      have G1 := G0.1
      have G2 := G0.2
      have i0 : (0 : Int) ≤ (d : Int) := by omega
      have i1 : (d : Int) < (N : Int) := by omega
      have hWr : Wr ((wr.setCell ⟨p, 0, none⟩ (.int .i64 ((d : Int) + 1))).setCell ⟨g, d, none⟩ (.int .u8 ((UInt8.ofNat (q % 256)).toNat : Int))) p g (D ++ low n (k + 1)) N := by
        refine ⟨?_, ?_, ?_⟩
        · have := (hp.set_ 0 (.int .i64 ((d : Int) + 1))).far (p := ⟨g, d, none⟩) hne (.int .u8 ((UInt8.ofNat (q % 256)).toNat : Int))
          rw [low_snoc, ← List.append_assoc, List.length_append, hL, hd]
          simpa using this
        · have := (hg.far (p := ⟨p, 0, none⟩) (Ne.symm hne) (.int .i64 ((d : Int) + 1))).set_ d (bv (UInt8.ofNat (q % 256)))
          rw [← hd, ← hL, row_set _ _ _ (by omega)] at this
          rw [low_snoc, ← List.append_assoc, ← HQ.out, ← hd, ← hL]
          exact this
        · simp [low_length]; omega
      have P3 : ((wr.setCell ⟨p, 0, none⟩ (.int .i64 ((d : Int) + 1))).setCell ⟨g, d, none⟩ (.int .u8 ((UInt8.ofNat (q % 256)).toNat : Int))).cell? ⟨p, 1, none⟩ = some (.slice (some ⟨g, 0, none⟩) N N) := (World.cell?_setCell_other _ _ _ _ (by simp)).trans ((World.cell?_setCell_other _ _ _ _ (by simp)).trans P1)
      have HWr := Lib.hid hWr
      have hOff : Off p g w ((wr.setCell ⟨p, 0, none⟩ (.int .i64 ((d : Int) + 1))).setCell ⟨g, d, none⟩ (.int .u8 ((UInt8.ofNat (q % 256)).toNat : Int))) := (ho.setCell (.inl rfl) _).setCell (.inr rfl) _
      have P2 : (wr.setCell ⟨p, 0, none⟩ (.int .i64 ((d : Int) + 1))).cell? ⟨p, 1, none⟩ = some (.slice (some ⟨g, 0, none⟩) N N) := (World.cell?_setCell_other _ _ _ _ (by simp)).trans P1
      clear hWr hL hg hp G0
      have hB := u8_wrap q
      obtain ⟨b, hb⟩ : ∃ b, UInt8.ofNat (q % 256) = b := ⟨_, rfl⟩
      rw [hb] at hB HWr hOff P3
      have HD := Lib.hid hd
      clear hb hd
      go_wp2_with fail
      go_region_held3 (fun W => W.cell? ⟨p, 1, none⟩ = some (.slice (some ⟨g, 0, none⟩) N N)) (first | exact P1 | exact P2 | exact P3 | assumption | go_keep) (first | (go_at_call 56; refine (pass_any p d 1 _ P0.drew (by omega) (by omega) (by omega)).mono ?_; rintro e w' ⟨rfl, rfl⟩))
      go_wp2
      exact ⟨⟨k + 1, q / 256, by omega, by go_num, by go_num, by omega, Lib.hid (by rw [HQ.out, Nat.div_div_eq_div_mul, Nat.pow_succ]), HWr.out, hOff.drew⟩, by simp [intOf]; omega⟩
    · obtain rfl : k = m := by omega
      go_wp2
      go_end0
      exact ⟨rfl, hw, ho⟩
end Go.Proofs.Ytilcondnpoinkaa
