/- Contracts of Join and Text. -/
import Derived.Test.YtilcondnpoinkaaCField
namespace Go.Proofs.Ytilcondnpoinkaa
open Go.RowKit

/-- A row of fields: where it lies, if it has any. -/
def FR (w : World) (A : Option Addr) (L : List Fld) : Prop :=
  ∀ j (hj : j < L.length), ∃ g off, A = some ⟨g, off, none⟩ ∧ w.cell? ⟨g, off + j * 3, none⟩ = some (.bool L[j].1) ∧ w.cell? ⟨g, off + j * 3 + 1, none⟩ = some (.int .u64 (L[j].2.1 : Int)) ∧ w.cell? ⟨g, off + j * 3 + 2, none⟩ = some (.string ⟨L[j].2.2.toArray⟩)
theorem FR.later {w w' : World} {A : Option Addr} {L : List Fld} (h : FR w A L) (hb : Below w.heap.size w w') : FR w' A L := fun j hj => by
  obtain ⟨g, off, e, h0, h1, h2⟩ := h j hj
  exact ⟨g, off, e, cell_later hb h0, cell_later hb h1, cell_later hb h2⟩
theorem FR.nil (w : World) (A : Option Addr) : FR w A [] := fun j hj => absurd hj (Nat.not_lt_zero j)

set_option maxRecDepth 100000 in
set_option maxHeartbeats 2000000 in
theorem join_ok (A : Option Addr) (cap : Nat) (L : List Fld) (w : World) (h : FR w A L) (hL : L.length ≤ 64) (hO : ∀ x ∈ L, OkF x) (hN : ∀ x ∈ L, NumF x) :
    Calls Try.prog 25 #[.slice A L.length cap] w fun e w' => e = .returned (.tuple #[.string ⟨(encs L).toArray⟩, .int .i64 0]) ∧ Below w.heap.size w w' := by
  have hT := encs_len L hO
  have HO := Lib.hid hO
  have HN := Lib.hid hN
  have HR := Lib.hid h
  clear hO hN h
  go_enter Try.func25, Try.ntmps25
  go_wp2_with fail
  go_loopw [4, 12] (fun sv iv wr => ∃ k : Nat, k ≤ L.length ∧ iv = .int .i64 k ∧ sv = .int .i64 ((encs (L.take k)).length : Int) ∧ Below w.heap.size w wr) (fun _ i _ => L.length - (intOf i).toNat)
  case atStart => exact ⟨0, Nat.zero_le _, rfl, by simp [encs], Below.refl _ _⟩
  case round =>
    obtain ⟨k, hk, rfl, rfl, hb⟩ := hrel
    have hle := encs_take_le L k
    by_cases hlt : k < L.length
    · obtain ⟨g, off, rfl, c0, c1, c2⟩ := (HR.out.later hb) k hlt
      have hx := HO.out _ (List.getElem_mem hlt)
      have HE := Lib.hid (encs_take L k hlt)
      obtain ⟨⟨t, n, s⟩, hxx⟩ : ∃ x, L[k] = x := ⟨_, rfl⟩
      rw [hxx] at c0 c1 c2 hx HE
      clear hxx
      cases t
      · simp only at c0 c1 c2
        go_wp2_with fail
        refine (sizeOf_num n s _).mono ?_
        rintro e w1 ⟨rfl, hb1⟩
        go_wp2
        exact ⟨⟨k + 1, by omega, by go_num, by rw [HE.out, List.length_append, enc_len_num]; go_num, bt (ba hb _) hb1⟩, by simp [intOf]; omega⟩
      · have hs := hx rfl
        have hz := size_mk s
        simp only at c0 c1 c2 hs
        clear hx
        go_wp2_with fail
        refine (sizeOf_text n s hs _).mono ?_
        rintro e w1 ⟨rfl, hb1⟩
        go_wp2
        exact ⟨⟨k + 1, by omega, by go_num, by rw [HE.out, List.length_append, enc_len_text]; go_num, bt (ba hb _) hb1⟩, by simp [intOf]; omega⟩
    · obtain rfl : k = L.length := by omega
      rw [List.take_length] at hle ⊢
      go_wp2_with fail
      refine (newWriter_any (encs L).length _ (by omega)).mono ?_
      rintro e w1 ⟨p, g, rfl, hp, hg, hw, hb1⟩
      have hB1 := bt hb hb1
      have z1 : w.heap.size ≤ p := Nat.le_trans hb.size hp
      have z2 : w.heap.size ≤ g := Nat.le_trans hb.size hg
      clear hb hb1 hp hg hlt
      go_wp2_with fail
      go_loopw [33] (fun iv wi => ∃ k : Nat, k ≤ L.length ∧ iv = .int .i64 k ∧ Wr wi p g (encs (L.take k)) (encs L).length ∧ Below w.heap.size w wi) (fun i _ => L.length - (intOf i).toNat)
      case atStart => exact ⟨0, Nat.zero_le _, rfl, by simpa [encs] using hw, hB1⟩
      case round =>
        obtain ⟨k, hk, rfl, hwr, hb⟩ := hrel
        by_cases hlt : k < L.length
        · obtain ⟨g1, off, rfl, c0, c1, c2⟩ := (HR.out.later hb) k hlt
          have hx := HN.out _ (List.getElem_mem hlt)
          have HE := Lib.hid (encs_take L k hlt)
          have hle := encs_take_le L (k + 1)
          rw [HE.out, List.length_append] at hle
          obtain ⟨x, hxx⟩ : ∃ x, L[k] = x := ⟨_, rfl⟩
          rw [hxx] at c0 c1 c2 hx HE hle
          clear hxx
          have hw2 := hwr.alloc (.cells #[.bool x.1, .int .u64 (x.2.1 : Int), .string ⟨x.2.2.toArray⟩] 45)
          go_wp2_with fail
          refine (wfield_any p g _ _ x _ hw2 hx hle (by omega)).mono ?_
          rintro e w2 ⟨rfl, hw3, ho⟩
          go_wp2
          exact ⟨⟨k + 1, by omega, by go_num, by rw [HE.out]; exact hw3, (ba hb _).trans (ho.below z1 z2 (by simp; have := hb.size; omega))⟩, by simp [intOf]; omega⟩
        · obtain rfl : k = L.length := by omega
          rw [List.take_length] at hwr
          go_wp2_with fail
          refine (wtold_any p g _ _ _ hwr rfl).mono ?_
          rintro e w2 ⟨rfl, rfl⟩
          go_wp2
          go_ret2
          exact ⟨rfl, hb⟩

set_option maxRecDepth 100000 in
set_option maxHeartbeats 2000000 in
theorem join_stop (A : Option Addr) (cap : Nat) (L : List Fld) (w : World) (h : FR w A L) (hL : L.length ≤ 64) (b : Nat) (hb : b < L.length) (hO : ∀ x ∈ L.take b, OkF x) (hN : NumF L[b]) (ht : L[b].1 = true) (hs : 4096 < L[b].2.2.length) :
    Calls Try.prog 25 #[.slice A L.length cap] w fun e w' => e = .returned (.tuple #[.string ⟨#[]⟩, .int .i64 4]) ∧ Below w.heap.size w w' := by
  have hT := encs_len _ hO
  rw [show (L.take b).length = b by rw [List.length_take]; omega] at hT
  have HO : Hid (∀ k (hk : k < b), OkF (L[k]'(Nat.lt_trans hk hb))) := fun k hk => hO _ (by rw [List.mem_take_iff_getElem]; exact ⟨k, by omega, rfl⟩)
  have HR := Lib.hid h
  have hs2 : (L[b].2.2.length : Int) ≤ 9223372036854775807 := by have := hN.2; omega
  have HB : Hid (L[b].1 = true ∧ 4096 < L[b].2.2.length ∧ (L[b].2.2.length : Int) ≤ 9223372036854775807) := ⟨ht, hs, hs2⟩
  clear hO hN h ht hs hs2
  go_enter Try.func25, Try.ntmps25
  go_wp2_with fail
  go_loopw [4, 12] (fun sv iv wr => ∃ k : Nat, k ≤ b ∧ iv = .int .i64 k ∧ sv = .int .i64 ((encs (L.take k)).length : Int) ∧ Below w.heap.size w wr) (fun _ i _ => b - (intOf i).toNat)
  case atStart => exact ⟨0, Nat.zero_le _, rfl, by simp [encs], Below.refl _ _⟩
  case round =>
    obtain ⟨k, hk, rfl, rfl, hbw⟩ := hrel
    have hle : (encs (L.take k)).length ≤ (encs (L.take b)).length := by
      have := encs_take_le (L.take b) k
      rwa [List.take_take, Nat.min_eq_left hk] at this
    have hkl : k < L.length := by omega
    obtain ⟨g, off, rfl, c0, c1, c2⟩ := (HR.out.later hbw) k hkl
    by_cases hlt : k < b
    · have hx := HO.out k hlt
      have HE := Lib.hid (encs_take L k hkl)
      obtain ⟨⟨t, n, s⟩, hxx⟩ : ∃ x, L[k] = x := ⟨_, rfl⟩
      rw [hxx] at c0 c1 c2 hx HE
      clear hxx
      cases t
      · simp only at c0 c1 c2
        go_wp2_with fail
        refine (sizeOf_num n s _).mono ?_
        rintro e w1 ⟨rfl, hb1⟩
        go_wp2
        exact ⟨⟨k + 1, by omega, by go_num, by rw [HE.out, List.length_append, enc_len_num]; go_num, bt (ba hbw _) hb1⟩, by simp [intOf]; omega⟩
      · have hs := hx rfl
        have hz := size_mk s
        simp only at c0 c1 c2 hs
        clear hx
        go_wp2_with fail
        refine (sizeOf_text n s hs _).mono ?_
        rintro e w1 ⟨rfl, hb1⟩
        go_wp2
        exact ⟨⟨k + 1, by omega, by go_num, by rw [HE.out, List.length_append, enc_len_text]; go_num, bt (ba hbw _) hb1⟩, by simp [intOf]; omega⟩
    · obtain rfl : k = b := by omega
      obtain ⟨⟨t, n, s⟩, hxx⟩ : ∃ x, L[k] = x := ⟨_, rfl⟩
      rw [hxx] at c0 c1 c2 HB
      clear hxx
      obtain ⟨ht, hs, hs2⟩ := HB.out
      simp only at ht hs hs2 c0 c1 c2
      subst ht
      have hz := size_mk s
      go_wp2_with fail
      go_ret2
      exact ⟨rfl, ba hbw _⟩

theorem fr_one (w : World) (t : TypeId) (x : Fld) : FR (w.alloc (.cells #[.bool x.1, .int .u64 (x.2.1 : Int), .string ⟨x.2.2.toArray⟩] t)) (some ⟨w.heap.size, 0, none⟩) [x] := fun j hj => by
  obtain rfl : j = 0 := by simpa using hj
  exact ⟨_, 0, rfl, by simp, by simp, by simp⟩

set_option maxRecDepth 100000 in
set_option maxHeartbeats 2000000 in
theorem text_ok (s : List UInt8) (w : World) (hs : s.length ≤ 4096) :
    Calls Try.prog 19 #[.string ⟨s.toArray⟩] w fun e w' => e = .returned (.tuple #[.string ⟨(enc (true, 0, s)).toArray⟩, .int .i64 0]) ∧ Below w.heap.size w w' := by
  have hO : ∀ x ∈ [((true, 0, s) : Fld)], OkF x := fun x hx => by simp at hx; subst hx; exact fun _ => hs
  have hN : ∀ x ∈ [((true, 0, s) : Fld)], NumF x := fun x hx => by simp at hx; subst hx; exact ⟨by simp, by simp only; omega⟩
  have HO := Lib.hid hO
  have HN := Lib.hid hN
  have HF := Lib.hid (fr_one w 45 (true, 0, s))
  have he : encs [((true, 0, s) : Fld)] = enc (true, 0, s) := by simp [encs]
  have HE := Lib.hid he
  clear hO hN he
  go_enter Try.func19, Try.ntmps19
  go_wp2_with fail
  refine (join_ok (some ⟨w.heap.size, 0, none⟩) 1 [(true, 0, s)] _ HF.out (by simp) HO.out HN.out).mono ?_
  rintro e w1 ⟨rfl, hb⟩
  rw [HE.out]
  go_wp2
  go_ret2
  exact ⟨rfl, bt (ba (Below.refl _ _) _) hb⟩

set_option maxRecDepth 100000 in
set_option maxHeartbeats 2000000 in
theorem text_long (s : List UInt8) (w : World) (hs : 4096 < s.length) (hm : s.length ≤ 9223372036854775807) :
    Calls Try.prog 19 #[.string ⟨s.toArray⟩] w fun e w' => e = .returned (.tuple #[.string ⟨#[]⟩, .int .i64 4]) ∧ Below w.heap.size w w' := by
  have HF := Lib.hid (fr_one w 45 (true, 0, s))
  go_enter Try.func19, Try.ntmps19
  go_wp2_with fail
  refine (join_stop (some ⟨w.heap.size, 0, none⟩) 1 [(true, 0, s)] _ HF.out (by simp) 0 (by simp) (by simp) ⟨by simp, by simpa using hm⟩ rfl (by simpa using hs)).mono ?_
  rintro e w1 ⟨rfl, hb⟩
  go_wp2
  go_ret2
  exact ⟨rfl, bt (ba (Below.refl _ _) _) hb⟩
end Go.Proofs.Ytilcondnpoinkaa
