/- The contracts of tag, Tag and Check. -/
import Derived.Test.YtilcondnpoinkaaMKeys
import Derived.Test.YtilcondnpoinkaaMJoined
import Derived.Deep.RegionHeld3
namespace Go.Proofs.Ytilcondnpoinkaa
open Go.RowKit

theorem three_of {w0 W : World} {b : Nat} {x y : Value} (h0 : w0.cell? ⟨b, 0, none⟩ = some x) (h1 : w0.cell? ⟨b, 1, none⟩ = some y) (h : Below w0.heap.size w0 W) : W.cell? ⟨b, 0, none⟩ = some x ∧ W.cell? ⟨b, 1, none⟩ = some y ∧ Below w0.heap.size w0 W :=
  ⟨cell_later h h0, cell_later h h1, h⟩

set_option maxRecDepth 100000 in
set_option maxHeartbeats 2000000 in
theorem tag_any (i o s : List UInt8) (w : World) (hi : i.length = 64) (ho : o.length = 64) (hs : s.length ≤ 60000) :
    Calls Try.prog 27 #[.agg #[.string ⟨i.toArray⟩, .string ⟨o.toArray⟩], .string ⟨s.toArray⟩] w fun e w' => e = .returned (.string ⟨(tagK i o s).toArray⟩) ∧ Below w.heap.size w w' := by
  have J1 := Lib.hid (fun g W h0 h1 => joined_any i s g W h0 h1 (by omega))
  have hl := sumL_len (i ++ s)
  have S1 := Lib.hid (fun W => sum_any (i ++ s) W (by rw [List.length_append]; omega))
  have HT : Hid (tagK i o s = sumL (o ++ sumL (i ++ s))) := Lib.hid rfl
  generalize sumL (i ++ s) = T at hl S1 HT
  have J2 := Lib.hid (fun g W h0 h1 => joined_any o T g W h0 h1 (by omega))
  have S2 := Lib.hid (fun W => sum_any (o ++ T) W (by rw [List.length_append]; omega))
  generalize i ++ s = A at J1 S1
  rw [← HT.out] at S2
  clear HT
  generalize o ++ T = B at J2 S2
  generalize tagK i o s = U at S2 ⊢
  clear hi ho hs hl
  have R0 := Blk.new w 49 #[.string ⟨i.toArray⟩, .string ⟨o.toArray⟩]
  have hB0 := ba (Below.refl w.heap.size w) (.cells #[.string ⟨i.toArray⟩, .string ⟨o.toArray⟩] 49)
  go_enter Try.func27, Try.ntmps27
  go_upto_region 1 with (fail)
  have c0 := R0.cell 0
  have c1 := R0.cell 1
  simp only [List.getElem?_toArray, List.getElem?_cons_zero, List.getElem?_cons_succ] at c0 c1
  generalize hw0 : w.alloc (.cells #[.string ⟨i.toArray⟩, .string ⟨o.toArray⟩] 49) = w0 at c0 c1 hB0 ⊢
  clear hw0 R0
  go_region_held3 (fun W => W.cell? ⟨w.heap.size, 0, none⟩ = some (.string ⟨i.toArray⟩) ∧ W.cell? ⟨w.heap.size, 1, none⟩ = some (.string ⟨o.toArray⟩) ∧ Below w0.heap.size w0 W) (first | assumption | exact three_of c0 c1 (Below.refl _ _).drew | exact three_of c0 c1 (ba (Below.refl _ _).drew _) | exact three_of c0 c1 (ba (by assumption : _ ∧ _ ∧ Below w0.heap.size w0 _).2.2 _)) (first
    | (go_at_call 39; refine (J1.out _ _ (by simp) (by simp)).mono ?_; rintro e w1 ⟨rfl, hb1⟩; have hS1 := three_of c0 c1 (bt (ba (Below.refl w0.heap.size w0).drew _) hb1))
    | (go_at_call 39; refine (J2.out _ _ (by simp) (by simp)).mono ?_; rintro e w1 ⟨rfl, hb1⟩; have hS1 := three_of c0 c1 (bt (ba (by assumption : _ ∧ _ ∧ Below w0.heap.size w0 _).2.2 _) hb1))
    | (go_at_call 38; (with_reducible refine (S1.out _).mono ?_); rintro e w1 ⟨rfl, hb1⟩; have hS1 := three_of c0 c1 (bt (by assumption : _ ∧ _ ∧ Below w0.heap.size w0 _).2.2 hb1))
    | (go_at_call 38; (with_reducible refine (S2.out _).mono ?_); rintro e w1 ⟨rfl, hb1⟩; have hS1 := three_of c0 c1 (bt (by assumption : _ ∧ _ ∧ Below w0.heap.size w0 _).2.2 hb1)))
  go_wp2_with fail
  go_ret
  exact ⟨rfl, bt hB0 hS1.2.2⟩

set_option maxRecDepth 100000 in
set_option maxHeartbeats 1000000 in
theorem mtag_any (key s : List UInt8) (w : World) (hk : key.length ≤ 60000) (hs : s.length ≤ 60000) :
    Calls Try.prog 20 #[.string ⟨key.toArray⟩, .string ⟨s.toArray⟩] w fun e w' => e = .returned (.string ⟨(tagL key s).toArray⟩) ∧ Below w.heap.size w w' := by
  go_enter Try.func20, Try.ntmps20
  go_wp2_with fail
  refine (keysOf_any key _ hk).mono ?_
  rintro e w1 ⟨rfl, hb1⟩
  go_wp2_with fail
  refine (tag_any (innL key) (outL key) s _ (innL_len key) (outL_len key) hs).mono ?_
  rintro e w2 ⟨rfl, hb2⟩
  go_wp2_with fail
  go_ret
  exact ⟨rfl, bt hb1 hb2⟩

set_option maxRecDepth 100000 in
set_option maxHeartbeats 1000000 in
theorem rtag_any (key s : List UInt8) (w : World) (hk : key.length ≤ 60000) (hs : s.length ≤ 60000) :
    Calls Try.prog 23 #[.string ⟨key.toArray⟩, .string ⟨s.toArray⟩] w fun e w' => e = .returned (.string ⟨(tagL key s).toArray⟩) ∧ Below w.heap.size w w' := by
  have hF := fitL_len key
  have HI : Hid (innL key = withL (fitL key) 54) := Lib.hid rfl
  have HO : Hid (outL key = withL (fitL key) 92) := Lib.hid rfl
  have hil := innL_len key
  have hol := outL_len key
  have W1 := Lib.hid (fun W => rwith_any (fitL key) 54 W (by omega))
  have W2 := Lib.hid (fun W => rwith_any (fitL key) 92 W (by omega))
  have R0 := Lib.hid (rfitted_any key w hk)
  rw [← HI.out] at W1
  rw [← HO.out] at W2
  have HT : Hid (tagL key s = sumL (outL key ++ sumL (innL key ++ s))) := Lib.hid rfl
  generalize innL key = I at W1 hil HT
  generalize outL key = O at W2 hol HT
  generalize fitL key = F at W1 W2 R0 hF
  clear HI HO
  have a1 : ∀ W : World, (Op.stringOp .add ⟨I.toArray⟩ ⟨s.toArray⟩).run Try.prog W = .ok (.string ⟨(I ++ s).toArray⟩) W := fun W => run_string_add_lists (P := Try.prog) W _ _ (by omega) (by omega)
  have S1 := Lib.hid (fun W => rsum_any rwords_holds (I ++ s) W (by rw [List.length_append]; omega))
  have hl := sumL_len (I ++ s)
  generalize sumL (I ++ s) = T at hl S1 HT
  generalize I ++ s = A at a1 S1
  have a2 : ∀ W : World, (Op.stringOp .add ⟨O.toArray⟩ ⟨T.toArray⟩).run Try.prog W = .ok (.string ⟨(O ++ T).toArray⟩) W := fun W => run_string_add_lists (P := Try.prog) W _ _ (by omega) (by omega)
  have S2 := Lib.hid (fun W => rsum_any rwords_holds (O ++ T) W (by rw [List.length_append]; omega))
  rw [← HT.out] at S2
  clear HT
  generalize O ++ T = B at a2 S2
  generalize tagL key s = U at S2 ⊢
  clear hk hs hF hil hol hl
  go_enter Try.func23, Try.ntmps23
  go_wp2_with fail
  refine R0.out.mono ?_
  rintro e w1 ⟨rfl, hb1⟩
  go_wp2_with fail
  refine (W2.out _).mono ?_
  rintro e w2 ⟨rfl, hb2⟩
  have hB2 := bt hb1 hb2
  clear hb1 hb2
  go_wp2_with fail
  refine (W1.out _).mono ?_
  rintro e w3 ⟨rfl, hb3⟩
  have hB3 := bt hB2 hb3
  clear hB2 hb3
  go_wp2_with fail
  refine (S1.out _).mono ?_
  rintro e w4 ⟨rfl, hb4⟩
  have hB4 := bt hB3 hb4
  clear hB3 hb4
  go_wp2_with fail
  refine (S2.out _).mono ?_
  rintro e w5 ⟨rfl, hb5⟩
  have hB5 := bt hB4 hb5
  clear hB4 hb5
  go_wp2_with fail
  go_ret
  exact ⟨rfl, hB5⟩
end Go.Proofs.Ytilcondnpoinkaa
