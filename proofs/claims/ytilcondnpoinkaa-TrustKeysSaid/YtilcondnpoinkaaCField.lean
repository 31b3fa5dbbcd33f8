/- Contracts of sizeOf, and of the writer's text and field. -/
import Derived.Test.YtilcondnpoinkaaCNumber
import Derived.Test.YtilcondnpoinkaaCFMath
import Derived.Lib.BufferWrite
namespace Go.Proofs.Ytilcondnpoinkaa
open Go.RowKit

theorem Wr.below {w w' : World} {p g N : Nat} {D : List UInt8} (h : Wr w p g D N) (hb : Below w.heap.size w w') : Wr w' p g D N := ⟨h.1.below hb, h.2.1.below hb, h.2.2⟩
theorem Wr.alloc {w : World} {p g N : Nat} {D : List UInt8} (h : Wr w p g D N) (o : Obj) : Wr (w.alloc o) p g D N := ⟨h.1.alloc o, h.2.1.alloc o, h.2.2⟩

/-- A field's value. -/
abbrev fval (x : Fld) : Value := .agg #[.bool x.1, .int .u64 (x.2.1 : Int), .string ⟨x.2.2.toArray⟩]

set_option maxRecDepth 100000 in
set_option maxHeartbeats 1000000 in
theorem sizeOf_num (n : Nat) (s : List UInt8) (w : World) :
    Calls Try.prog 32 #[.agg #[.bool false, .int .u64 (n : Int), .string ⟨s.toArray⟩]] w fun e w' => e = .returned (.int .i64 8) ∧ Below w.heap.size w w' := by
  go_enter Try.func32, Try.ntmps32
  go_wp2
  go_ret
  exact ⟨rfl, ba (Below.refl _ _) _⟩
set_option maxRecDepth 100000 in
set_option maxHeartbeats 1000000 in
theorem sizeOf_text (n : Nat) (s : List UInt8) (hs : s.length ≤ 4096) (w : World) :
    Calls Try.prog 32 #[.agg #[.bool true, .int .u64 (n : Int), .string ⟨s.toArray⟩]] w fun e w' => e = .returned (.int .i64 (2 + (s.length : Int))) ∧ Below w.heap.size w w' := by
  have hz := size_mk s
  go_enter Try.func32, Try.ntmps32
  go_wp2
  go_ret
  exact ⟨rfl, ba (Below.refl _ _) _⟩
theorem sizeOf_any (x : Fld) (hx : OkF x) (w : World) :
    Calls Try.prog 32 #[fval x] w fun e w' => e = .returned (.int .i64 ((enc x).length : Int)) ∧ Below w.heap.size w w' := by
  obtain ⟨t, n, s⟩ := x
  cases t
  · rw [enc_len_num]; exact sizeOf_num n s w
  · rw [enc_len_text]
    refine (sizeOf_text n s (hx rfl) w).mono fun e w' ⟨he, hb⟩ => ⟨?_, hb⟩
    rw [he]; simp

theorem row_splice (D s : List UInt8) (N : Nat) (h : D.length + s.length ≤ N) : ((row D N).toList.take D.length ++ Lib.byteCells s ++ (row D N).toList.drop (D.length + s.length)).toArray = row (D ++ s) N := by
  unfold row Lib.byteCells
  obtain ⟨r, hr⟩ : ∃ r, N = D.length + s.length + r := ⟨N - (D.length + s.length), by omega⟩
  subst hr
  have e1 : D.length + s.length + r - D.length = s.length + r := by omega
  have e2 : D.length + s.length + r - (D ++ s).length = r := by simp
  rw [e1, e2, List.toList_toArray, List.map_append]
  congr 1
  rw [List.take_append_of_le_length (by simp), List.take_of_length_le (by simp), List.drop_append]
  simp [List.drop_of_length_le]

theorem infoB : (Try.prog.info? 5).map (·.size) = some 1 := by kernel_rfl

/-- What copy does to a writer's row. -/
theorem copy_row (W : World) (g N : Nat) (D s : List UInt8) (h : Blk W g 5 (row D N)) (hl : D.length + s.length ≤ N) :
    (Builtin.copy_ #[60, 9] 3 #[.slice (some ⟨g, D.length, none⟩) (N - D.length) (N - D.length), .string ⟨s.toArray⟩]).run Try.prog W = .ok (goInt s.length) (W.setRow g (row (D ++ s) N)) := by
  have h' := Lib.run_copy_row_string (P := Try.prog) W 60 9 3 5 g D.length (N - D.length) (N - D.length) ⟨s.toArray⟩ (row D N) 5 Try.underlying60 infoB h (by rw [size_mk]; omega) (by rw [size_mk, row_size _ _ (by omega)]; omega)
  rw [size_mk] at h'
  rw [← row_splice D s N hl]
  exact h'

set_option maxRecDepth 100000 in
set_option maxHeartbeats 2000000 in
theorem wtext_some (p g N : Nat) (D s : List UInt8) (w : World) (h : Wr w p g D N) (hm : D.length + 2 + s.length ≤ N) (hN : (N : Int) ≤ 9223372036854775807) (hlt : D.length + 2 < N) :
    Calls Try.prog 44 #[.pointer (some ⟨p, 0, none⟩), .string ⟨s.toArray⟩] w fun e w' => e = .returned (.tuple #[]) ∧ Wr w' p g (D ++ low s.length 2 ++ s) N ∧ Off p g w w' := by
  have hz := size_mk s
  have hsl : (s.length : Int) ≤ 9223372036854775807 := by omega
  go_enter Try.func44, Try.ntmps44
  go_wp2_with fail
  refine (wlow_any p g s.length 2 N D _ h (by omega) (by omega) hN).mono ?_
  rintro e w1 ⟨rfl, hw, ho⟩
  obtain ⟨E, hE⟩ : ∃ E, D ++ low s.length 2 = E := ⟨_, rfl⟩
  have hEl : E.length = D.length + 2 := by rw [← hE, List.length_append, low_length]
  rw [hE] at hw
  obtain ⟨hp, hg, hl⟩ := hw
  have hne : p ≠ g := hp.ne_ hg (by decide)
  have P0 := hp.at_ (i := 0) rfl
  have P1 := (hp.at_ (i := 1) rfl).1
  have P2 : (w1.setCell ⟨p, 0, none⟩ (.int .i64 ((E.length : Int) + s.length))).cell? ⟨p, 1, none⟩ = some (.slice (some ⟨g, 0, none⟩) N N) := (World.cell?_setCell_other _ _ _ _ (by simp)).trans P1
  have hcp := copy_row (w1.setCell ⟨p, 0, none⟩ (.int .i64 ((E.length : Int) + s.length))).drew g N E s ((hg.far (p := ⟨p, 0, none⟩) (Ne.symm hne) _).drew) (by omega)
  have hWr : Wr ((w1.setCell ⟨p, 0, none⟩ (.int .i64 ((E.length : Int) + s.length))).drew.setRow g (row (E ++ s) N)) p g (E ++ s) N := by
    refine ⟨?_, ?_, by simp; omega⟩
    · refine (setRow_other _ _ _ _ hne).trans ?_
      have := (hp.set_ 0 (.int .i64 ((E.length : Int) + s.length))).drew
      rw [List.length_append]
      simpa [Blk] using this
    · exact setRow_heap _ g _ _ _ (0, 0) ((hg.far (p := ⟨p, 0, none⟩) (Ne.symm hne) (.int .i64 ((E.length : Int) + s.length))).drew)
  have hOff : Off p g w ((w1.setCell ⟨p, 0, none⟩ (.int .i64 ((E.length : Int) + s.length))).drew.setRow g (row (E ++ s) N)) :=
    ((ho.setCell (.inl rfl) (.int .i64 ((E.length : Int) + s.length))).drew).trans ⟨rfl, rfl, rfl, by simp [World.setRow], fun k _ _ hg => setRow_other _ _ _ _ hg⟩
  have P3 := (hWr.1.at_ (i := 1) rfl).1
  have HWr := Lib.hid hWr
  have HOff := Lib.hid hOff
  obtain ⟨d, hd⟩ : ∃ d, E.length = d := ⟨_, rfl⟩
  rw [hd] at P0 P2 P3 hcp HWr HOff hEl
  have i0 : (0 : Int) ≤ (d : Int) := by omega
  have i1 : (d : Int) < (N : Int) := by omega
  have i2 : (d : Int) ≤ (N : Int) := by omega
  have i3 : (d : Int) + s.length ≤ (N : Int) := by omega
  have HH := Lib.hid hE
  have HD := Lib.hid hd
  have HL := Lib.hid hEl
  clear hEl hm hlt
  clear hWr hOff hg hp hE hd ho h
  go_wp2_with fail
  go_region_held3 (fun W => W.cell? ⟨p, 1, none⟩ = some (.slice (some ⟨g, 0, none⟩) N N)) (first | exact P1 | exact P2 | exact P3 | assumption | go_keep) (first | (go_at_call 56; refine (pass_any p d s.length _ P0.drew (by omega) (by omega) (by omega)).mono ?_; rintro e w' ⟨rfl, rfl⟩))
  go_end0
  rw [HH.out]
  exact ⟨rfl, HWr.out, HOff.out⟩

theorem copy_none (W : World) (a : Option Addr) : (Builtin.copy_ #[60, 9] 3 #[.slice a 0 0, .string ⟨#[]⟩]).run Try.prog W = .ok (goInt 0) W :=
  Lib.run_copy_empty_string W 60 9 3 5 a 0 0 ⟨#[]⟩ Try.underlying60 (by rw [infoB]; rfl) rfl

set_option maxRecDepth 100000 in
set_option maxHeartbeats 2000000 in
theorem wtext_none (p g N : Nat) (D : List UInt8) (w : World) (h : Wr w p g D N) (hN : (N : Int) ≤ 9223372036854775807) (hlt : D.length + 2 = N) :
    Calls Try.prog 44 #[.pointer (some ⟨p, 0, none⟩), .string ⟨#[]⟩] w fun e w' => e = .returned (.tuple #[]) ∧ Wr w' p g (D ++ low 0 2) N ∧ Off p g w w' := by
  have hm : D.length + 2 ≤ N := by omega
  have HLT := Lib.hid hlt
  clear hlt
  have hcn := fun W : World => copy_none W (some ⟨g, 0, none⟩)
  go_enter Try.func44, Try.ntmps44
  go_wp2_with fail
  refine (wlow_any p g 0 2 N D _ h (by omega) (by omega) hN).mono ?_
  rintro e w1 ⟨rfl, hw, ho⟩
  obtain ⟨E, hE⟩ : ∃ E, D ++ low 0 2 = E := ⟨_, rfl⟩
  have hEl : E.length = N := by rw [← hE, List.length_append, low_length, HLT.out]
  rw [hE] at hw
  obtain ⟨hp, hg, hl⟩ := hw
  have hne : p ≠ g := hp.ne_ hg (by decide)
  have P0 := hp.at_ (i := 0) rfl
  have P1 := (hp.at_ (i := 1) rfl).1
  rw [hEl] at P0
  have P2 : (w1.setCell ⟨p, 0, none⟩ (.int .i64 ((N : Int) + 0))).cell? ⟨p, 1, none⟩ = some (.slice (some ⟨g, 0, none⟩) N N) := (World.cell?_setCell_other _ _ _ _ (by simp)).trans P1
  have hWr : Wr (w1.setCell ⟨p, 0, none⟩ (.int .i64 (N : Int))) p g E N := by
    refine ⟨?_, hg.far (p := ⟨p, 0, none⟩) (Ne.symm hne) _, hl⟩
    have := hp.set_ 0 (.int .i64 (N : Int))
    rw [hEl]
    simpa [Blk] using this
  have hOff : Off p g w (w1.setCell ⟨p, 0, none⟩ (.int .i64 (N : Int))) := ho.setCell (.inl rfl) _
  have HWr := Lib.hid hWr
  have HOff := Lib.hid hOff
  have i0 : (0 : Int) ≤ (N : Int) := by omega
  have HH := Lib.hid hE
  have HL := Lib.hid hEl
  clear hEl hm hWr hOff hg hp hE ho h
  go_wp2_with fail
  go_region_held3 (fun W => W.cell? ⟨p, 1, none⟩ = some (.slice (some ⟨g, 0, none⟩) N N)) (first | exact P1 | exact P2 | assumption | go_keep) (first | (go_at_call 56; refine (pass_any p N 0 _ P0.drew (by omega) (by omega) (by omega)).mono ?_; rintro e w' ⟨rfl, rfl⟩))
  go_end0
  rw [HH.out]
  exact ⟨rfl, HWr.out, HOff.out.drew⟩

theorem wtext_any (p g N : Nat) (D s : List UInt8) (w : World) (h : Wr w p g D N) (hm : D.length + 2 + s.length ≤ N) (hN : (N : Int) ≤ 9223372036854775807) :
    Calls Try.prog 44 #[.pointer (some ⟨p, 0, none⟩), .string ⟨s.toArray⟩] w fun e w' => e = .returned (.tuple #[]) ∧ Wr w' p g (D ++ low s.length 2 ++ s) N ∧ Off p g w w' := by
  by_cases hlt : D.length + 2 < N
  · exact wtext_some p g N D s w h hm hN hlt
  · have hs : s = [] := List.eq_nil_of_length_eq_zero (by omega)
    subst hs
    refine (wtext_none p g N D w h hN (by simp at hm; omega)).mono fun e w' ⟨he, hw, ho⟩ => ⟨he, ?_, ho⟩
    simpa using hw

set_option maxRecDepth 100000 in
set_option maxHeartbeats 1000000 in
theorem wfield_num (p g N n : Nat) (D s : List UInt8) (w : World) (h : Wr w p g D N) (hn : (n : Int) ≤ 18446744073709551615) (hm : D.length + 8 ≤ N) (hN : (N : Int) ≤ 9223372036854775807) :
    Calls Try.prog 34 #[.pointer (some ⟨p, 0, none⟩), .agg #[.bool false, .int .u64 (n : Int), .string ⟨s.toArray⟩]] w fun e w' => e = .returned (.tuple #[]) ∧ Wr w' p g (D ++ low n 8) N ∧ Off p g w w' := by
  have h' := h.alloc (.cells #[.bool false, .int .u64 (n : Int), .string ⟨s.toArray⟩] 45)
  go_enter Try.func34, Try.ntmps34
  go_wp2_with fail
  refine (wnumber_any p g n N D _ h' hn hm hN).mono ?_
  rintro e w1 ⟨rfl, hw, ho⟩
  go_wp2
  go_end0
  exact ⟨rfl, hw, ((Off.refl _ _ _).alloc _).trans ho⟩
set_option maxRecDepth 100000 in
set_option maxHeartbeats 1000000 in
theorem wfield_text (p g N n : Nat) (D s : List UInt8) (w : World) (h : Wr w p g D N) (hm : D.length + 2 + s.length ≤ N) (hN : (N : Int) ≤ 9223372036854775807) :
    Calls Try.prog 34 #[.pointer (some ⟨p, 0, none⟩), .agg #[.bool true, .int .u64 (n : Int), .string ⟨s.toArray⟩]] w fun e w' => e = .returned (.tuple #[]) ∧ Wr w' p g (D ++ low s.length 2 ++ s) N ∧ Off p g w w' := by
  have h' := h.alloc (.cells #[.bool true, .int .u64 (n : Int), .string ⟨s.toArray⟩] 45)
  go_enter Try.func34, Try.ntmps34
  go_wp2_with fail
  refine (wtext_any p g N D s _ h' hm hN).mono ?_
  rintro e w1 ⟨rfl, hw, ho⟩
  go_wp2
  refine bodyPost_ret (results_none rfl _ _ _) rfl ?_
  exact ⟨rfl, hw, ((Off.refl _ _ _).alloc _).trans ho⟩
theorem wfield_any (p g N : Nat) (D : List UInt8) (x : Fld) (w : World) (h : Wr w p g D N) (hn : NumF x) (hm : D.length + (enc x).length ≤ N) (hN : (N : Int) ≤ 9223372036854775807) :
    Calls Try.prog 34 #[.pointer (some ⟨p, 0, none⟩), fval x] w fun e w' => e = .returned (.tuple #[]) ∧ Wr w' p g (D ++ enc x) N ∧ Off p g w w' := by
  obtain ⟨t, n, s⟩ := x
  have hn1 : (n : Int) ≤ 18446744073709551615 := by have := hn.1; simp only at this; omega
  cases t
  · rw [enc_len_num] at hm
    rw [enc_num]
    exact wfield_num p g N n D s w h hn1 hm hN
  · rw [enc_len_text] at hm
    rw [enc_text, ← List.append_assoc]
    exact wfield_text p g N n D s w h (by omega) hN
end Go.Proofs.Ytilcondnpoinkaa
