/- Contracts of the reference's One, Long, Join and Kinds. -/
import Derived.Test.YtocipkoheboalaaCJoin
namespace Go.Proofs.Ytocipkoheboalaa
open Go.RowKit

set_option maxRecDepth 100000 in
set_option maxHeartbeats 1000000 in
theorem one_num (n : Nat) (s : List UInt8) (w : World) (hn : (n : Int) ≤ 18446744073709551615) :
    Calls Try.prog 12 #[.agg #[.bool false, .int .u64 (n : Int), .string ⟨s.toArray⟩]] w fun e w' => e = .returned (.string ⟨(low n 8).toArray⟩) ∧ Below w.heap.size w w' := by
  go_enter Try.func12, Try.ntmps12
  go_wp2_with fail
  refine (rlow_any n 8 _ (by omega) hn).mono ?_
  rintro e w1 ⟨rfl, hb⟩
  go_wp2
  go_ret
  exact ⟨rfl, bt (ba (Below.refl _ _) _) hb⟩
theorem rlow_two (n : Nat) (w : World) (hn : (n : Int) ≤ 18446744073709551615) :
    Calls Try.prog 10 #[.int .u64 (n : Int), .int .i64 2] w fun e w' => e = .returned (.string ⟨(low n 2).toArray⟩) ∧ Below w.heap.size w w' := rlow_any n 2 w (by omega) hn
set_option maxRecDepth 100000 in
set_option maxHeartbeats 1000000 in
theorem one_text (n : Nat) (s : List UInt8) (w : World) (hs : s.length ≤ 4096) :
    Calls Try.prog 12 #[.agg #[.bool true, .int .u64 (n : Int), .string ⟨s.toArray⟩]] w fun e w' => e = .returned (.string ⟨(low s.length 2 ++ s).toArray⟩) ∧ Below w.heap.size w w' := by
  have hz := size_mk s
  have hll := low_length s.length 2
  have hadd : ∀ W : World, (Op.stringOp .add ⟨(low s.length 2).toArray⟩ ⟨s.toArray⟩).run Try.prog W = .ok (.string ⟨(low s.length 2 ++ s).toArray⟩) W := fun W => run_string_add_lists (P := Try.prog) W (low s.length 2) s (by omega) (by omega)
  have HLL := Lib.hid hll
  clear hll
  have B0 := (Blk.new w 33 #[.bool true, .int .u64 (n : Int), .string ⟨s.toArray⟩])
  have c2 := (B0.at_ (i := 2) rfl).1
  have HB := Lib.hid B0
  clear B0
  have hwr : IntKind.u64.wrap (s.length : Int) = (s.length : Int) := by rw [IntKind.wrap_u64]; omega
  go_enter Try.func12, Try.ntmps12
  go_wp2_with fail
  go_region_held3 (fun W => W.cell? ⟨w.heap.size, 2, none⟩ = some (.string ⟨s.toArray⟩)) (first | exact c2 | assumption | go_keep) (first | (go_at_call 10; (with_reducible refine (rlow_two s.length _ (by omega)).mono ?_); rintro e w1 ⟨rfl, hb⟩; have hS := ((HB.out.drew).below hb).cell 2))
  go_wp2
  go_ret
  exact ⟨rfl, bt ((ba (Below.refl _ _) _).drew) hb⟩
theorem one_any (x : Fld) (hx : OkF x) (hn : NumF x) (w : World) :
    Calls Try.prog 12 #[fval x] w fun e w' => e = .returned (.string ⟨(enc x).toArray⟩) ∧ Below w.heap.size w w' := by
  obtain ⟨t, n, s⟩ := x
  have hn1 : (n : Int) ≤ 18446744073709551615 := by have := hn.1; simp only at this; omega
  cases t
  · rw [enc_num]; exact one_num n s w hn1
  · rw [enc_text]; exact one_text n s w (hx rfl)

set_option maxRecDepth 100000 in
set_option maxHeartbeats 1000000 in
theorem long_no (A : Option Addr) (cap : Nat) (L : List Fld) (w : World) (h : FR w A L) (hL : L.length ≤ 64) (hO : ∀ x ∈ L, OkF x) :
    Calls Try.prog 13 #[.slice A L.length cap] w fun e w' => e = .returned (.bool false) ∧ Below w.heap.size w w' := by
  have HO := Lib.hid hO
  have HR := Lib.hid h
  clear hO h
  go_enter Try.func13, Try.ntmps13
  go_wp2_with fail
  go_loopw [7] (fun iv wr => ∃ k : Nat, k ≤ L.length ∧ iv = .int .i64 k ∧ Below w.heap.size w wr) (fun i _ => L.length - (intOf i).toNat)
  case atStart => exact ⟨0, Nat.zero_le _, rfl, Below.refl _ _⟩
  case round =>
    obtain ⟨k, hk, rfl, hb⟩ := hrel
    by_cases hlt : k < L.length
    · obtain ⟨g, off, rfl, c0, c1, c2⟩ := (HR.out.later hb) k hlt
      have hx := HO.out _ (List.getElem_mem hlt)
      obtain ⟨⟨t, n, s⟩, hxx⟩ : ∃ x, L[k] = x := ⟨_, rfl⟩
      rw [hxx] at c0 c1 c2 hx
      clear hxx
      cases t
      · simp only at c0 c1 c2
        go_wp2
        exact ⟨⟨k + 1, by omega, by go_num, ba hb _⟩, by simp [intOf]; omega⟩
      · have hs := hx rfl
        have hz := size_mk s
        simp only at c0 c1 c2 hs
        clear hx
        go_wp2
        exact ⟨⟨k + 1, by omega, by go_num, ba hb _⟩, by simp [intOf]; omega⟩
    · obtain rfl : k = L.length := by omega
      go_wp2
      go_ret
      exact ⟨rfl, hb⟩

set_option maxRecDepth 100000 in
set_option maxHeartbeats 1000000 in
theorem long_yes (A : Option Addr) (cap : Nat) (L : List Fld) (w : World) (h : FR w A L) (hL : L.length ≤ 64) (b : Nat) (hb : b < L.length) (hO : ∀ x ∈ L.take b, OkF x) (hN : NumF L[b]) (ht : L[b].1 = true) (hs : 4096 < L[b].2.2.length) :
    Calls Try.prog 13 #[.slice A L.length cap] w fun e w' => e = .returned (.bool true) ∧ Below w.heap.size w w' := by
  have HO : Hid (∀ k (hk : k < b), OkF (L[k]'(Nat.lt_trans hk hb))) := fun k hk => hO _ (by rw [List.mem_take_iff_getElem]; exact ⟨k, by omega, rfl⟩)
  have HR := Lib.hid h
  have hs2 : (L[b].2.2.length : Int) ≤ 9223372036854775807 := by have := hN.2; omega
  have HB : Hid (L[b].1 = true ∧ 4096 < L[b].2.2.length ∧ (L[b].2.2.length : Int) ≤ 9223372036854775807) := ⟨ht, hs, hs2⟩
  clear hO hN h ht hs hs2
  go_enter Try.func13, Try.ntmps13
  go_wp2_with fail
  go_loopw [7] (fun iv wr => ∃ k : Nat, k ≤ b ∧ iv = .int .i64 k ∧ Below w.heap.size w wr) (fun i _ => b - (intOf i).toNat)
  case atStart => exact ⟨0, Nat.zero_le _, rfl, Below.refl _ _⟩
  case round =>
    obtain ⟨k, hk, rfl, hbw⟩ := hrel
    have hkl : k < L.length := by omega
    obtain ⟨g, off, rfl, c0, c1, c2⟩ := (HR.out.later hbw) k hkl
    by_cases hlt : k < b
    · have hx := HO.out k hlt
      obtain ⟨⟨t, n, s⟩, hxx⟩ : ∃ x, L[k] = x := ⟨_, rfl⟩
      rw [hxx] at c0 c1 c2 hx
      clear hxx
      cases t
      · simp only at c0 c1 c2
        go_wp2
        exact ⟨⟨k + 1, by omega, by go_num, ba hbw _⟩, by simp [intOf]; omega⟩
      · have hs := hx rfl
        have hz := size_mk s
        simp only at c0 c1 c2 hs
        clear hx
        go_wp2
        exact ⟨⟨k + 1, by omega, by go_num, ba hbw _⟩, by simp [intOf]; omega⟩
    · obtain rfl : k = b := by omega
      obtain ⟨⟨t, n, s⟩, hxx⟩ : ∃ x, L[k] = x := ⟨_, rfl⟩
      rw [hxx] at c0 c1 c2 HB
      clear hxx
      obtain ⟨ht, hs, hs2⟩ := HB.out
      simp only at ht hs hs2 c0 c1 c2
      subst ht
      have hz := size_mk s
      go_wp2
      go_ret
      exact ⟨rfl, ba hbw _⟩

set_option maxRecDepth 100000 in
set_option maxHeartbeats 2000000 in
theorem rjoin_any (A : Option Addr) (cap : Nat) (L : List Fld) (w : World) (h : FR w A L) (hL : L.length ≤ 64) (hO : ∀ x ∈ L, OkF x) (hN : ∀ x ∈ L, NumF x) :
    Calls Try.prog 14 #[.slice A L.length cap] w fun e w' => e = .returned (.string ⟨(encs L).toArray⟩) ∧ Below w.heap.size w w' := by
  have hT := encs_len L hO
  have HO := Lib.hid hO
  have HN := Lib.hid hN
  have HR := Lib.hid h
  clear hO hN h
  go_enter Try.func14, Try.ntmps14
  go_wp2_with fail
  go_loopw [3, 8] (fun sv iv wr => ∃ k : Nat, k ≤ L.length ∧ iv = .int .i64 k ∧ sv = .string ⟨(encs (L.take k)).toArray⟩ ∧ Below w.heap.size w wr) (fun _ i _ => L.length - (intOf i).toNat)
  case atStart => exact ⟨0, Nat.zero_le _, rfl, by simp [encs], Below.refl _ _⟩
  case round =>
    obtain ⟨k, hk, rfl, rfl, hb⟩ := hrel
    by_cases hlt : k < L.length
    · obtain ⟨g, off, rfl, c0, c1, c2⟩ := (HR.out.later hb) k hlt
      have hx := HO.out _ (List.getElem_mem hlt)
      have hn := HN.out _ (List.getElem_mem hlt)
      have HE := Lib.hid (encs_take L k hlt)
      have hle := encs_take_le L k
      have hle2 := encs_take_le L (k + 1)
      obtain ⟨x, hxx⟩ : ∃ x, L[k] = x := ⟨_, rfl⟩
      rw [hxx] at c0 c1 c2 hx HE hn
      rw [HE.out, List.length_append] at hle2
      clear hxx
      have hadd : ∀ W : World, (Op.stringOp .add ⟨(encs (L.take k)).toArray⟩ ⟨(enc x).toArray⟩).run Try.prog W = .ok (.string ⟨(encs (L.take k) ++ enc x).toArray⟩) W := fun W => run_string_add_lists (P := Try.prog) W _ _ (by omega) (by omega)
      go_wp2_with fail
      refine (one_any x hx hn _).mono ?_
      rintro e w1 ⟨rfl, hb1⟩
      go_wp2
      exact ⟨⟨k + 1, by omega, by go_num, by rw [HE.out], bt (ba hb _) hb1⟩, by simp [intOf]; omega⟩
    · obtain rfl : k = L.length := by omega
      rw [List.take_length]
      go_wp2
      go_ret
      exact ⟨rfl, hb⟩

/-- A field's kind. -/
def kindOf (x : Fld) : UInt8 := if x.1 = true then 116 else 110
def kindsOf (L : List Fld) : List UInt8 := L.map kindOf
theorem kinds_take (L : List Fld) (k : Nat) (h : k < L.length) : kindsOf (L.take (k + 1)) = kindsOf (L.take k) ++ [kindOf L[k]] := by
  unfold kindsOf
  rw [← List.take_append_getElem h, List.map_append]
  rfl
theorem kinds_len (L : List Fld) : (kindsOf L).length = L.length := by simp [kindsOf]

set_option maxRecDepth 100000 in
set_option maxHeartbeats 2000000 in
theorem kinds_any (A : Option Addr) (cap : Nat) (L : List Fld) (w : World) (h : FR w A L) (hL : L.length ≤ 64) :
    Calls Try.prog 18 #[.slice A L.length cap] w fun e w' => e = .returned (.string ⟨(kindsOf L).toArray⟩) ∧ Below w.heap.size w w' := by
  have HR := Lib.hid h
  clear h
  go_enter Try.func18, Try.ntmps18
  go_wp2_with fail
  go_loopw [3, 8] (fun sv iv wr => ∃ k : Nat, k ≤ L.length ∧ iv = .int .i64 k ∧ sv = .string ⟨(kindsOf (L.take k)).toArray⟩ ∧ Below w.heap.size w wr) (fun _ i _ => L.length - (intOf i).toNat)
  case atStart => exact ⟨0, Nat.zero_le _, rfl, by simp [kindsOf], Below.refl _ _⟩
  case round =>
    obtain ⟨k, hk, rfl, rfl, hb⟩ := hrel
    by_cases hlt : k < L.length
    · obtain ⟨g, off, rfl, c0, c1, c2⟩ := (HR.out.later hb) k hlt
      have HE := Lib.hid (kinds_take L k hlt)
      have hkl : (kindsOf (L.take k)).length ≤ 64 := by rw [kinds_len, List.length_take]; omega
      obtain ⟨⟨t, n, s⟩, hxx⟩ : ∃ x, L[k] = x := ⟨_, rfl⟩
      rw [hxx] at c0 c1 c2 HE
      clear hxx
      simp only at c0 c1 c2
      have hadd : ∀ (W : World) (b : UInt8), (Op.stringOp .add ⟨(kindsOf (L.take k)).toArray⟩ ⟨#[b]⟩).run Try.prog W = .ok (.string ⟨(kindsOf (L.take k) ++ [b]).toArray⟩) W := fun W b => run_string_add_lists (P := Try.prog) W _ [b] (by omega) (by simp)
      cases t
      · go_wp2
        exact ⟨⟨k + 1, by omega, by go_num, by rw [HE.out]; rfl, ba hb _⟩, by simp [intOf]; omega⟩
      · go_wp2
        exact ⟨⟨k + 1, by omega, by go_num, by rw [HE.out]; rfl, ba hb _⟩, by simp [intOf]; omega⟩
    · obtain rfl : k = L.length := by omega
      rw [List.take_length]
      go_wp2
      go_ret
      exact ⟨rfl, hb⟩
end Go.Proofs.Ytocipkoheboalaa
