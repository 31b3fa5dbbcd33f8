/- The contract of the reference's New. -/
import Derived.Test.YthknelpcdoebiaaZRSet
namespace Go.Proofs.Ythknelpcdoebiaa
open Go.RowKit

set_option maxRecDepth 100000 in
set_option maxHeartbeats 4000000 in
theorem rnew_walk (n m : Nat) (T : List Nat) (w : World) (h4 : n ≤ 4096) (hm1 : 64 * m < n + 64) (hm2 : n ≤ 64 * m)
    (HT : Hid (T.length = m ∧ ∀ x ∈ T, x < Z64)) (HG : Hid (∀ j, j < m → T.getD j 0 = zmk 64 (fun t => decide (n ≤ 64 * j + t)))) :
    Calls Try.prog 14 #[.int .i64 (n : Int)] w fun e w' => ∃ A' c', e = .returned (zbv (n : Int) A' m c' 0) ∧ ZM w' A' m c' T 0 ∧ Below w.heap.size w w' := by
  obtain ⟨ti, hti, hz0, hz1, hz2⟩ := info_parts infoZ
  have HB : Hid (w.heap.size + 2 ≤ ((w.alloc (.cells #[.int .i64 0, .slice none 0 0, .int .u64 0] 25)).alloc (.cells #[.int .i64 (n : Int), .slice none 0 0, .int .u64 0] 25)).heap.size ∧ Below w.heap.size w ((w.alloc (.cells #[.int .i64 0, .slice none 0 0, .int .u64 0] 25)).alloc (.cells #[.int .i64 (n : Int), .slice none 0 0, .int .u64 0] 25))) := Lib.hid ⟨by simp, ba (ba (Below.refl _ _) _) _⟩
  have HR : Hid (Blk ((w.alloc (.cells #[.int .i64 0, .slice none 0 0, .int .u64 0] 25)).alloc (.cells #[.int .i64 (n : Int), .slice none 0 0, .int .u64 0] 25)) w.heap.size 25 #[.int .i64 0, .slice none 0 0, .int .u64 0]) := Lib.hid ((Blk.new _ _ _).alloc _)
  have HO : Hid (Blk ((w.alloc (.cells #[.int .i64 0, .slice none 0 0, .int .u64 0] 25)).alloc (.cells #[.int .i64 (n : Int), .slice none 0 0, .int .u64 0] 25)) (w.heap.size + 1) 25 (zcs (n : Int) none 0 0 0)) := Lib.hid (Blk.newAt (by simp) _ _)
  go_enter Try.func14, Try.ntmps14
  go_wp2_with fail
  go_loopw [4] (fun jv wr => ∃ (j c' : Nat) (A' : Option Addr), j ≤ m ∧ jv = .int .i64 (j : Int) ∧ Hid (Blk wr (w.heap.size + 1) 25 (zcs (n : Int) A' j c' 0)) ∧ Hid (wr.ownsRow (w.heap.size + 2) 23 1 (.slice A' j c') j ((T.take j).map zq)) ∧ Hid (Blk wr w.heap.size 25 #[.int .i64 0, .slice none 0 0, .int .u64 0]) ∧ Hid (w.heap.size + 2 ≤ wr.heap.size ∧ Below w.heap.size w wr)) (fun jv _ => m - (intOf jv).toNat)
  case atStart => exact ⟨0, 0, none, Nat.zero_le _, rfl, HO, Lib.hid (World.ownsRow_nil _ _ _ _), HR, HB⟩
  case round =>
    clear HB HR HO
    obtain ⟨j, c', A', hj, rfl, HO, HOW, HR, HB⟩ := hrel
    by_cases hlt : j < m
    · have hli : (64 : Int) * (j : Int) < (n : Int) := by omega
      have HTS := Lib.hid (ztake_succ (T := T) (j := j) (by rw [HT.out.1]; exact hlt))
      obtain ⟨G, hG⟩ : ∃ G : Nat → Bool, (fun t => decide (n ≤ 64 * j + t)) = G := ⟨_, rfl⟩
      have HGa : Hid (∀ t, G t = decide (n ≤ 64 * j + t)) := Lib.hid (fun t => by rw [← hG])
      have HX : Hid (T.getD j 0 = zmk 64 G) := Lib.hid (by rw [HG.out j hlt, hG])
      have hj64 : j ≤ 64 := by omega
      clear hG
      go_wp2_with fail
      go_loop [5, 6] (fun ov qv => ∃ (e o : Nat) (q : Int), e ≤ 64 ∧ q + 1 = (e : Int) ∧ qv = .int .i64 q ∧ ov = zq o ∧ o < 2 ^ (64 - e) ∧ Hid (o = zmk (64 - e) (fun t => G (e + t)))) (fun _ qv => (intOf qv + 1).toNat)
      case atStart => exact ⟨64, 0, 63, Nat.le_refl _, by omega, rfl, rfl, by decide, Lib.hid rfl⟩
      case round =>
        obtain ⟨e, o, q, he, hq, rfl, rfl, ho, HOo⟩ := hrel
        cases e with
        | zero =>
          obtain rfl : q = -1 := by omega
          have HE : Hid (o = T.getD j 0) := Lib.hid (by rw [HOo.out, HX.out]; exact zmk_ext fun t _ => by rw [Nat.zero_add])
          rw [← HE.out] at HTS
          obtain ⟨⟨o0, o1, o2⟩, _⟩ := zcells HO.out
          have hownA := HOW.out.alloc (.cells #[zq o] 23)
          have hnews := World.news_of_block (heap_alloc_new wr (.cells #[zq o] 23))
          have R3 := Lib.hid (HR.out.alloc (.cells #[zq o] 23))
          have O3 := Lib.hid (HO.out.alloc (.cells #[zq o] 23))
          have B3 := Lib.hid (ba HB.out.2 (.cells #[zq o] 23))
          clear ho HOo HX he hq
          go_wp2_with (at_builtin; refine wpList_append_own _ rfl _ _ 22 rfl (w.heap.size + 2) 23 ti _ 1 8 Try.underlying22 hti hz0 hz1 hz2 rfl (by decide) _ _ _ rfl hownA ⟨wr.heap.size, 0, none⟩ 1 1 [zq o] rfl rfl hnews (by simp [Value.oneCell']) (by unfold maxLen; omega) (by omega) (by have := HB.out.1; simp; omega) ?_; intro v4 w5 hown5 hgrow5 _; obtain ⟨g6, c6, rfl⟩ := ownsRow_succ hown5; have O5 := Lib.hid (Blk.grown O3.out hgrow5 (fun e => by have := (hownA.lt _ e.symm).1; omega)); obtain ⟨⟨o0, o1, o2⟩, p0, p1, p2⟩ := zcells O5.out)
          have hz5 := hgrow5.size
          simp only [World.size_alloc] at hz5
          have hz2 := HB.out.1
          have R5 := Lib.hid (Blk.grown R3.out hgrow5 (fun e => by have := (hownA.lt _ e.symm).1; omega))
          have B5 := Lib.hid (B3.out.grown hgrow5 (by simp; omega) (fun k e => by have := (hownA.lt k e).1; omega))
          rw [← HTS.out] at hown5
          obtain ⟨g7, hg7, hb7, hrow⟩ := ZRowS.of_own hown5 (by omega) (by rw [List.length_take, HT.out.1]; omega)
          obtain rfl : g6 = g7 := by injection hg7 with e; injection e
          have O6 := Lib.hid (O5.out.set_ 1 (.slice (some ⟨g6, 0, none⟩) (j + 1) c6))
          have R6 := Lib.hid (R5.out.far (p := ⟨w.heap.size + 1, 1, none⟩) (by simp) (.slice (some ⟨g6, 0, none⟩) (j + 1) c6))
          have W6 := Lib.hid ((hrow.far (p := ⟨w.heap.size + 1, 1, none⟩) (by simp; omega) (.slice (some ⟨g6, 0, none⟩) (j + 1) c6)).own hb7)
          have B6 : Hid (w.heap.size + 2 ≤ (w5.setCell ⟨w.heap.size + 1, 1, none⟩ (.slice (some ⟨g6, 0, none⟩) (j + 1) c6)).heap.size ∧ Below w.heap.size w (w5.setCell ⟨w.heap.size + 1, 1, none⟩ (.slice (some ⟨g6, 0, none⟩) (j + 1) c6))) := Lib.hid ⟨by simp [World.setCell]; omega, bs B5.out (by omega) _⟩
          exact ⟨⟨j + 1, c6, some ⟨g6, 0, none⟩, by omega, by go_num, O6, W6, R6, B6⟩, by simp [intOf]; omega⟩
        | succ e =>
          obtain rfl : q = (e : Int) := by omega
          have h63 : o < 9223372036854775808 := by
            have : 2 ^ (64 - (e + 1)) ≤ 2 ^ 63 := Nat.pow_le_pow_right (by omega) (by omega)
            have h2 : 2 ^ 63 = 9223372036854775808 := by decide
            omega
          have HN : Hid (zmk (64 - e) (fun t => G (e + t)) = (G e).toNat + 2 * o) := Lib.hid (by
            rw [HOo.out, show 64 - e = (64 - (e + 1)) + 1 by omega, zmk_drop])
          have HP : Hid ((G e).toNat + 2 * o < 2 ^ (64 - e)) := Lib.hid (by rw [← HN.out]; exact zmk_lt _ _)
          have HGe := Lib.hid (HGa.out e)
          have he2 : e ≤ 64 := by omega
          have hp4 : 64 * j + e < 5000 := by omega
          have hp : (64 : Int) * (j : Int) + (e : Int) = ((64 * j + e : Nat) : Int) := by omega
          have hge : (0 : Int) ≤ (e : Int) := by omega
          clear ho he HOo hq HX HTS
          generalize 64 * j + e = p at HGe hp hp4
          by_cases hpi : n ≤ p
          · have e1 : (n : Int) ≤ (p : Int) := by omega
            have HGb : Hid (G e = true) := Lib.hid (by rw [HGe.out]; simpa using hpi)
            clear hpi HGe
            go_wp2_with fail
            exact ⟨⟨e, 1 + 2 * o, (e : Int) - 1, by omega, by omega, rfl, by go_num, by have := HP.out; rw [HGb.out] at this; simpa using this, Lib.hid (by simp only [HN.out, HGb.out, Bool.toNat_true])⟩, by simp [intOf]⟩
          · have e1 : ¬ (n : Int) ≤ (p : Int) := by omega
            have HGb : Hid (G e = false) := Lib.hid (by rw [HGe.out]; simpa using hpi)
            clear hpi HGe
            go_wp2_with fail
            exact ⟨⟨e, 2 * o, (e : Int) - 1, by omega, by omega, rfl, by go_num, by have := HP.out; rw [HGb.out] at this; simpa using this, Lib.hid (by simp only [HN.out, HGb.out, Bool.toNat_false, Nat.zero_add])⟩, by simp [intOf]⟩
    · obtain rfl : j = m := by omega
      have hli : ¬ (64 : Int) * (j : Int) < (n : Int) := by omega
      have HOW2 : Hid (wr.ownsRow (w.heap.size + 2) 23 1 (.slice A' j c') j (T.map zq)) := Lib.hid (by have := HOW.out; rwa [List.take_of_length_le (by rw [HT.out.1]; exact Nat.le_refl _)] at this)
      obtain ⟨⟨o0, o1, o2⟩, _⟩ := zcells HO.out
      obtain ⟨⟨r0, r1, r2⟩, p0, p1, p2⟩ := zcells HR.out
      go_wp2
      refine bodyPost_ret (map1_result rfl (((HR.out.set_ 0 _).set_ 1 _).set_ 2 _)) rfl ?_
      refine ⟨A', c', rfl, ?_, bs (bs (bs HB.out.2 (by omega) _) (by omega) _) (by omega) _⟩
      exact own_zm (own_far (own_far (own_far HOW2.out (by simp) _) (by simp) _) (by simp) _) HT.out.1 (by omega) HT.out.2 (by decide)

/-- The reference's New, of a number that may be. -/
theorem rnew_any (n : Nat) (w : World) (h4 : n ≤ 4096) :
    Calls Try.prog 14 #[.int .i64 (n : Int)] w fun e w' => ∃ A' c', e = .returned (zbv (n : Int) A' (zW n) c' 0) ∧ ZM w' A' (zW n) c' (znew n) 0 ∧ Below w.heap.size w w' :=
  rnew_walk n (zW n) (znew n) w h4 (by unfold zW; omega) (by unfold zW; omega) (Lib.hid ⟨znew_len n, znew_lt n⟩) (Lib.hid fun _ hj => znew_at hj)
end Go.Proofs.Ythknelpcdoebiaa
