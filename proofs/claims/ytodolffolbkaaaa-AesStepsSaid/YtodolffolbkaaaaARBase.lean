/- The contracts of the reference's text, Boxed and factor. -/
import Derived.Test.YtodolffolbkaaaaAKeyM
namespace Go.Proofs.Ytodolffolbkaaaa
open Go.RowKit

theorem own_nil {W : World} {t : TypeId} {g base size : Nat} (h : Blk W g t #[]) (hb : base ≤ g) : W.ownsRow base t size (.slice (some ⟨g, 0, none⟩) 0 0) 0 [] :=
  ⟨by simp, .inr ⟨g, 0, #[], rfl, hb, h, Nat.le_refl _, Nat.zero_le _, by simp, by simp⟩⟩
theorem own_mono' {W : World} {base b : Nat} {e : TypeId} {size : Nat} {v : Value} {n : Nat} {xs : List Value} (h : W.ownsRow base e size v n xs) (hb : b ≤ base) : W.ownsRow b e size v n xs := by
  obtain ⟨h1, h2⟩ := h
  refine ⟨h1, ?_⟩
  rcases h2 with h2 | ⟨g, cap, cur, hv, hg, r⟩
  · exact Or.inl h2
  · exact Or.inr ⟨g, cap, cur, hv, Nat.le_trans hb hg, r⟩

set_option maxRecDepth 100000 in
set_option maxHeartbeats 1000000 in
theorem text_any (base g n c : Nat) (L : List UInt8) (w : World) (h : w.ownsRow base 5 1 (.slice (some ⟨g, 0, none⟩) n c) n (L.map uv)) (hl : L.length = n) :
    Calls Try.prog 33 #[.slice (some ⟨g, 0, none⟩) n c] w fun e w' => e = .returned (.string ⟨L.toArray⟩) ∧ w = w' := by
  have hcv := own_text (l := L) h hl
  clear h hl
  go_enter Try.func33, Try.ntmps33
  go_wp2
  go_ret
  exact ⟨rfl, rfl⟩
theorem rbox8_any (b : UInt8) (w : World) : Calls Try.prog 32 #[.int .u8 (b.toNat : Int)] w fun e w' => e = .returned (uv (box8 b)) ∧ w = w' := by
  have hb := b.toNat_lt
  refine (rbox_any b.toNat w (by omega)).mono ?_
  rintro e w' ⟨rfl, rfl⟩
  rw [← box8_nat]
  exact ⟨rfl, rfl⟩
theorem rmul8_any (a b : UInt8) (w : World) : Calls Try.prog 34 #[.int .u8 (a.toNat : Int), .int .u8 (b.toNat : Int)] w fun e w' => e = .returned (uv (mul8 a b)) ∧ w = w' := by
  have ha := a.toNat_lt
  have hb := b.toNat_lt
  refine (rmul_any a.toNat b.toNat w (by omega) (by omega)).mono ?_
  rintro e w' ⟨rfl, rfl⟩
  rw [← mul8_nat]
  exact ⟨rfl, rfl⟩
theorem rpow2_any (n : Nat) (w : World) (hn : (n : Int) ≤ 1000) : Calls Try.prog 44 #[.int .u8 2, .int .i64 (n : Int)] w fun e w' => e = .returned (uv (pw8 n)) ∧ w = w' := by
  refine (rpw_any 2 n w (by omega) (by omega)).mono ?_
  rintro e w' ⟨rfl, rfl⟩
  have : uv (pw8 n) = .int .u8 ((pw 2 n : Nat) : Int) := by rw [← pw8_nat]
  rw [this]
  exact ⟨rfl, rfl⟩
theorem index_of (l : List UInt8) (i : Nat) (k : Int) (hk : (i : Int) = k) (h : i < l.length) (W : World) : (Instr.index 9 (.string ⟨l.toArray⟩) (.int .i64 k)).run Try.prog W = .ok (uv (ub l i)) W := index_is ⟨l.toArray⟩ i k (ub l i) hk (at_get l i h) W
theorem take_map (f : UInt8 → UInt8) (l : List UInt8) (k : Nat) (h : k < l.length) : (l.take (k + 1)).map f = (l.take k).map f ++ [f (ub l k)] := by
  rw [List.take_succ_eq_append_getElem h, List.map_append, ub_at h]
  rfl

set_option maxRecDepth 100000 in
set_option maxHeartbeats 2000000 in
theorem rBoxed_any (l : List UInt8) (w : World) (hl : l.length ≤ 64) :
    Calls Try.prog 17 #[.string ⟨l.toArray⟩] w fun e w' => e = .returned (.string ⟨(l.map box8).toArray⟩) ∧ Below w.heap.size w w' := by
  obtain ⟨i0, hi, hz0, hz1, hz2⟩ := info_parts info5
  have HIX := Lib.hid (index_of l)
  have HTM := Lib.hid (take_map box8 l)
  have hsz := size_of l
  have HML : Hid ((l.map box8).length = l.length) := Lib.hid (by simp)
  have HTL := Lib.hid (List.take_of_length_le (Nat.le_refl l.length))
  have HTN : Hid (∀ k, k ≤ l.length → ((l.take k).map box8).length = k) := Lib.hid (fun k hk => by simp; omega)
  obtain ⟨n, hn⟩ : ∃ n, l.length = n := ⟨_, rfl⟩
  rw [hn] at hsz hl HIX HTM HML HTL HTN
  have HO0 : Hid ((w.alloc (.cells #[] 5)).ownsRow w.heap.size 5 1 (.slice (some ⟨w.heap.size, 0, none⟩) 0 0) 0 (((l.take 0).map box8).map uv)) := Lib.hid (own_nil (Blk.new w _ _) (Nat.le_refl _))
  have hb0 := ba (Below.refl w.heap.size w) (.cells #[] 5)
  clear hn
  go_enter Try.func17, Try.ntmps17
  go_wp2_with fail
  go_loopw [3, 4] (fun ov iv wr => ∃ k g c : Nat, k ≤ n ∧ iv = .int .i64 k ∧ ov = .slice (some ⟨g, 0, none⟩) k c ∧ Hid (wr.ownsRow w.heap.size 5 1 (.slice (some ⟨g, 0, none⟩) k c) k (((l.take k).map box8).map uv)) ∧ Below w.heap.size w wr) (fun _ iv _ => n - (intOf iv).toNat)
  case atStart => exact ⟨0, _, _, Nat.zero_le _, rfl, rfl, HO0, hb0⟩
  case round =>
    clear HO0 hb0
    obtain ⟨k, g, c, hk, rfl, rfl, HO, hb⟩ := hrel
    by_cases hlt : k < n
    · have hix := HIX.out k k rfl hlt
      have HT := Lib.hid (HTM.out k hlt)
      generalize ub l k = x at hix HT
      have HB := Lib.hid (rbox8_any x wr)
      generalize box8 x = y at HB HT
      have hz := hb.size
      have hnews := news_new wr [uv y] 5
      go_wp2_with fail
      refine HB.out.mono ?_
      rintro e w' ⟨rfl, rfl⟩
      go_wp2_with (at_builtin; refine wpList_append_own _ rfl _ _ 40 rfl w.heap.size 5 i0 (.int .u8 0) 1 1 Try.underlying40 hi hz0 hz1 hz2 rfl (by decide) _ _ _ rfl (own_alloc HO.out _) ⟨wr.heap.size, 0, none⟩ 1 1 [uv y] rfl rfl hnews (by simp [Value.oneCell']) (by unfold maxLen; omega) (by omega) (by simp; omega) ?_; intro v' w6 hown' hgrow _; obtain ⟨g1, c1, rfl⟩ := ownsRow_succ hown'; have HO6 := Lib.hid hown'; have hb6 : Below w.heap.size w w6 := (hb.alloc hb.size _).grown hgrow (by simp; omega) (fun r e => by cases e; exact (HO.out.lt _ rfl).1); clear hown' hnews hgrow)
      exact ⟨⟨k + 1, g1, c1, by omega, by go_num, rfl, Lib.hid (by rw [HT.out, List.map_append]; exact HO6.out), hb6⟩, by simp [intOf]; omega⟩
    · obtain rfl : k = n := by omega
      have HTX := Lib.hid (text_any w.heap.size g k c _ wr HO.out (HTN.out k hk))
      rw [HTL.out] at HTX
      go_wp2_with fail
      refine HTX.out.mono ?_
      rintro e w' ⟨rfl, rfl⟩
      go_wp2_with fail
      go_ret
      exact ⟨rfl, hb⟩

def facB (r k : Nat) : UInt8 := if r = k then 2 else if (r + 1) % 4 = k then 3 else 1
set_option maxRecDepth 100000 in
set_option maxHeartbeats 1000000 in
theorem factor_any (r k : Nat) (w : World) (hr : (r : Int) < 4) (hk : (k : Int) < 4) :
    Calls Try.prog 35 #[.int .i64 (r : Int), .int .i64 (k : Int)] w fun e w' => e = .returned (uv (facB r k)) ∧ w = w' := by
  have hr' : r = 0 ∨ r = 1 ∨ r = 2 ∨ r = 3 := by omega
  have hk' : k = 0 ∨ k = 1 ∨ k = 2 ∨ k = 3 := by omega
  clear hr hk
  rcases hr' with rfl | rfl | rfl | rfl <;> rcases hk' with rfl | rfl | rfl | rfl
  all_goals
    go_enter Try.func35, Try.ntmps35
    go_wp2
    go_ret
    exact ⟨rfl, rfl⟩
end Go.Proofs.Ytodolffolbkaaaa
