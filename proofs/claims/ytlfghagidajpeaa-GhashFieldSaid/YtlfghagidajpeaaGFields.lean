/- GhashField: products do not hang on order, and are spread over sums and products; times 1 a block is as it was; a product is 0 just if one of both is. For every three texts. -/
import Derived.Test.YtlfghagidajpeaaGXor
import Derived.Test.YtlfghagidajpeaaBase0
namespace Go.Proofs.Ytlfghagidajpeaa
open Go.ChangeShapes Go.WideShapes Go.ChangeAt Go.RowKit Go.Joins Go.Deep

set_option maxRecDepth 100000 in
set_option maxHeartbeats 8000000 in
theorem fields_yes (a b c : List UInt8) (w : World) (ha : a.length = 16) (hb : b.length = 16) (hc : c.length = 16) :
    Calls Try.prog 5 #[.string ⟨a.toArray⟩, .string ⟨b.toArray⟩, .string ⟨c.toArray⟩] w fun e w' => e = .returned (.bool true) ∧ Below w.heap.size w w' := by
  have M1 := Lib.hid (fun W => mul_yes a b W ha hb)
  have M2 := Lib.hid (fun W => mul_yes b a W hb ha)
  have M3 := Lib.hid (fun W => mul_yes a c W ha hc)
  have M4 := Lib.hid (fun W => mul_yes (mulL a b) c W (mulL_len a b) hc)
  have M5 := Lib.hid (fun W => mul_yes b c W hb hc)
  have M6 := Lib.hid (fun W => mul_yes a (mulL b c) W ha (mulL_len b c))
  have M7 := Lib.hid (fun W => mul_yes a (xorL b c) W ha (by rw [xorL_len]; exact hb))
  have M8 : Hid (∀ W, Calls Try.prog 8 #[.string ⟨a.toArray⟩, .string ⟨#[128, 0, 0, 0, 0, 0, 0, 0, 0, 0, 0, 0, 0, 0, 0, 0]⟩] W fun e w' => e = .returned (.tuple #[.string ⟨a.toArray⟩, .int .i64 0]) ∧ Below W.heap.size W w') := Lib.hid (fun W => by
    have := mul_yes a oneL W ha rfl
    rw [mulL_one a ha] at this
    exact this)
  have X1 := Lib.hid (fun W => gxor_any b c W hb hc)
  have X2 := Lib.hid (fun W => gxor_any (mulL a b) (mulL a c) W (mulL_len a b) (mulL_len a c))
  have HAL := Lib.hid alive_any
  rw [mulL_comm a b] at M2
  rw [mulL_assoc] at M6
  rw [mulL_spread a b c hb] at M7
  have hn := mulL_none ha hb
  have hab := size_of (mulL a b)
  have hac := size_of (mulL a c)
  rw [mulL_len] at hab hac
  have hsa := size_of a
  have hsb := size_of b
  have hsc := size_of c
  rw [ha] at hsa
  rw [hb] at hsb
  rw [hc] at hsc
  have hmk := gmake w
  have hcv := gtext_of (n := 16) (c := 16) (Blk.new w 5 (gzeros.map uv).toArray) rfl
  have hbz := ba (Below.refl w.heap.size w) (.cells (gzeros.map uv).toArray 5)
  generalize w.alloc (.cells (gzeros.map uv).toArray 5) = wz at hmk hcv hbz
  generalize xorL b c = X at M7 X1
  generalize xorL (mulL a b) (mulL a c) = SP at M7 X2
  generalize mulL (mulL a b) c = ABC at M4 M6
  generalize mulL b c = BC at M5 M6
  generalize mulL a b = AB at M1 M2 M4 X2 hn hab
  generalize mulL a c = AC at M3 X2 hac
  generalize gzeros = Z at hcv hn
  clear ha hb hc
  by_cases hz : AB = Z
  · have h2 := hn.1 hz
    subst hz
    by_cases h3 : a = AB
    · subst h3
      clear hn h2
      go_enter Try.func5, Try.ntmps5
      go_wp2_with fail
      refine (M1.out _).mono ?_
      rintro e w2 ⟨rfl, hb2⟩
      have hB2 := bt hbz hb2
      clear hb2
      go_wp2_with fail
      refine (M2.out _).mono ?_
      rintro e w3 ⟨rfl, hb3⟩
      have hB3 := bt hB2 hb3
      clear hb3 hB2
      go_wp2_with fail
      refine (M3.out _).mono ?_
      rintro e w4 ⟨rfl, hb4⟩
      have hB4 := bt hB3 hb4
      clear hb4 hB3
      go_wp2_with fail
      refine (M4.out _).mono ?_
      rintro e w5 ⟨rfl, hb5⟩
      have hB5 := bt hB4 hb5
      clear hb5 hB4
      go_wp2_with fail
      refine (M5.out _).mono ?_
      rintro e w6 ⟨rfl, hb6⟩
      have hB6 := bt hB5 hb6
      clear hb6 hB5
      go_wp2_with fail
      refine (M6.out _).mono ?_
      rintro e w7 ⟨rfl, hb7⟩
      have hB7 := bt hB6 hb7
      clear hb7 hB6
      go_wp2_with fail
      refine (X1.out _).mono ?_
      rintro e w8 ⟨rfl, hb8⟩
      have hB8 := bt hB7 hb8
      clear hb8 hB7
      go_wp2_with fail
      refine (M7.out _).mono ?_
      rintro e w9 ⟨rfl, hb9⟩
      have hB9 := bt hB8 hb9
      clear hb9 hB8
      go_wp2_with fail
      refine (M8.out _).mono ?_
      rintro e w10 ⟨rfl, hb10⟩
      have hB10 := bt hB9 hb10
      clear hb10 hB9
      go_wp2_with fail
      refine (HAL.out _).mono ?_
      rintro e w11 ⟨rfl, hb11⟩
      have hB11 := bt hB10 hb11
      clear hb11 hB10
      go_wp2_with fail
      refine (X2.out _).mono ?_
      rintro e w12 ⟨rfl, hb12⟩
      have hB12 := bt hB11 hb12
      clear hb12 hB11
      go_wp2
      go_ret
      exact ⟨rfl, hB12⟩
    · have n1 : (a == AB) = false := by simp [h3]
      obtain rfl : b = AB := by rcases h2 with h2 | h2; exact absurd h2 h3; exact h2
      clear hn h2 h3
      go_enter Try.func5, Try.ntmps5
      go_wp2_with fail
      refine (M1.out _).mono ?_
      rintro e w2 ⟨rfl, hb2⟩
      have hB2 := bt hbz hb2
      clear hb2
      go_wp2_with fail
      refine (M2.out _).mono ?_
      rintro e w3 ⟨rfl, hb3⟩
      have hB3 := bt hB2 hb3
      clear hb3 hB2
      go_wp2_with fail
      refine (M3.out _).mono ?_
      rintro e w4 ⟨rfl, hb4⟩
      have hB4 := bt hB3 hb4
      clear hb4 hB3
      go_wp2_with fail
      refine (M4.out _).mono ?_
      rintro e w5 ⟨rfl, hb5⟩
      have hB5 := bt hB4 hb5
      clear hb5 hB4
      go_wp2_with fail
      refine (M5.out _).mono ?_
      rintro e w6 ⟨rfl, hb6⟩
      have hB6 := bt hB5 hb6
      clear hb6 hB5
      go_wp2_with fail
      refine (M6.out _).mono ?_
      rintro e w7 ⟨rfl, hb7⟩
      have hB7 := bt hB6 hb7
      clear hb7 hB6
      go_wp2_with fail
      refine (X1.out _).mono ?_
      rintro e w8 ⟨rfl, hb8⟩
      have hB8 := bt hB7 hb8
      clear hb8 hB7
      go_wp2_with fail
      refine (M7.out _).mono ?_
      rintro e w9 ⟨rfl, hb9⟩
      have hB9 := bt hB8 hb9
      clear hb9 hB8
      go_wp2_with fail
      refine (M8.out _).mono ?_
      rintro e w10 ⟨rfl, hb10⟩
      have hB10 := bt hB9 hb10
      clear hb10 hB9
      go_wp2_with fail
      refine (HAL.out _).mono ?_
      rintro e w11 ⟨rfl, hb11⟩
      have hB11 := bt hB10 hb11
      clear hb11 hB10
      go_wp2_with fail
      refine (X2.out _).mono ?_
      rintro e w12 ⟨rfl, hb12⟩
      have hB12 := bt hB11 hb12
      clear hb12 hB11
      go_wp2
      go_ret
      exact ⟨rfl, hB12⟩
  · have n0 : (AB == Z) = false := by simp [hz]
    have n1 : (a == Z) = false := by simp; exact fun h => hz (hn.2 (.inl h))
    have n2 : (b == Z) = false := by simp; exact fun h => hz (hn.2 (.inr h))
    clear hn hz
    go_enter Try.func5, Try.ntmps5
    go_wp2_with fail
    refine (M1.out _).mono ?_
    rintro e w2 ⟨rfl, hb2⟩
    have hB2 := bt hbz hb2
    clear hb2
    go_wp2_with fail
    refine (M2.out _).mono ?_
    rintro e w3 ⟨rfl, hb3⟩
    have hB3 := bt hB2 hb3
    clear hb3 hB2
    go_wp2_with fail
    refine (M3.out _).mono ?_
    rintro e w4 ⟨rfl, hb4⟩
    have hB4 := bt hB3 hb4
    clear hb4 hB3
    go_wp2_with fail
    refine (M4.out _).mono ?_
    rintro e w5 ⟨rfl, hb5⟩
    have hB5 := bt hB4 hb5
    clear hb5 hB4
    go_wp2_with fail
    refine (M5.out _).mono ?_
    rintro e w6 ⟨rfl, hb6⟩
    have hB6 := bt hB5 hb6
    clear hb6 hB5
    go_wp2_with fail
    refine (M6.out _).mono ?_
    rintro e w7 ⟨rfl, hb7⟩
    have hB7 := bt hB6 hb7
    clear hb7 hB6
    go_wp2_with fail
    refine (X1.out _).mono ?_
    rintro e w8 ⟨rfl, hb8⟩
    have hB8 := bt hB7 hb8
    clear hb8 hB7
    go_wp2_with fail
    refine (M7.out _).mono ?_
    rintro e w9 ⟨rfl, hb9⟩
    have hB9 := bt hB8 hb9
    clear hb9 hB8
    go_wp2_with fail
    refine (M8.out _).mono ?_
    rintro e w10 ⟨rfl, hb10⟩
    have hB10 := bt hB9 hb10
    clear hb10 hB9
    go_wp2_with fail
    refine (HAL.out _).mono ?_
    rintro e w11 ⟨rfl, hb11⟩
    have hB11 := bt hB10 hb11
    clear hb11 hB10
    go_wp2_with fail
    refine (X2.out _).mono ?_
    rintro e w12 ⟨rfl, hb12⟩
    have hB12 := bt hB11 hb12
    clear hb12 hB11
    go_wp2
    go_ret
    exact ⟨rfl, hB12⟩

set_option maxRecDepth 100000 in
set_option maxHeartbeats 4000000 in
theorem fields_no (a b c : List UInt8) (w : World) (h : ¬ (a.length = 16 ∧ b.length = 16 ∧ c.length = 16)) (ha : (a.length : Int) ≤ 9223372036854775807) :
    Calls Try.prog 5 #[.string ⟨a.toArray⟩, .string ⟨b.toArray⟩, .string ⟨c.toArray⟩] w fun e w' => e = .returned (.bool true) ∧ Below w.heap.size w w' := by
  have HAL := Lib.hid alive_any
  have hsa := size_of a
  have hsb := size_of b
  have hsc := size_of c
  obtain ⟨N, hN⟩ : ∃ N, a.length = N := ⟨_, rfl⟩
  obtain ⟨m, hm⟩ : ∃ m, min N 15 = m := ⟨_, rfl⟩
  have HM := Lib.hid (fun W => mul_no (a.take m) b W (by rw [List.length_take]; omega))
  have hex := extract_take a m
  rw [hN] at hsa ha h
  have g1 : (m : Int) ≤ (N : Int) := by omega
  have g2 : min (N : Int) 15 = (m : Int) := by omega
  have g3 : m ≤ N := by omega
  generalize a.take m = T at HM hex
  by_cases h1 : N = 16
  · subst h1
    obtain rfl : m = 15 := by omega
    clear g1 g2 g3 ha
    have g4 : min (16 : Int) 15 = 15 := rfl
    by_cases h2 : b.length = 16
    · have h4 : ¬ c.length = 16 := fun h3 => h ⟨rfl, h2, h3⟩
      have h5 : (c.length == 16) = false := by simp; exact h4
      have h6 : ((c.length : Int) != 16) = true := by simp; omega
      rw [h2] at hsb
      clear hm hN h h2 h4
      go_enter Try.func5, Try.ntmps5
      go_wp2_with fail
      refine (HM.out _).mono ?_
      rintro e wa ⟨rfl, hba⟩
      go_wp2_with fail
      refine (HAL.out _).mono ?_
      rintro e wb ⟨rfl, hbb⟩
      go_wp2
      go_ret
      exact ⟨rfl, bt hba hbb⟩
    · have h5 : (b.length == 16) = false := by simp; exact h2
      have h6 : ((b.length : Int) != 16) = true := by simp; omega
      clear hm hN h h2
      go_enter Try.func5, Try.ntmps5
      go_wp2_with fail
      refine (HM.out _).mono ?_
      rintro e wa ⟨rfl, hba⟩
      go_wp2_with fail
      refine (HAL.out _).mono ?_
      rintro e wb ⟨rfl, hbb⟩
      go_wp2
      go_ret
      exact ⟨rfl, bt hba hbb⟩
  · have h5 : (N == 16) = false := by simp; exact h1
    have h6 : ((N : Int) != 16) = true := by simp; omega
    clear hm hN h h1
    go_enter Try.func5, Try.ntmps5
    go_wp2_with fail
    refine (HM.out _).mono ?_
    rintro e wa ⟨rfl, hba⟩
    go_wp2_with fail
    refine (HAL.out _).mono ?_
    rintro e wb ⟨rfl, hbb⟩
    go_wp2
    go_ret
    exact ⟨rfl, bt hba hbb⟩

theorem fields_any (a b c : List UInt8) (w : World) (ha : (a.length : Int) ≤ 9223372036854775807) :
    Calls Try.prog 5 #[.string ⟨a.toArray⟩, .string ⟨b.toArray⟩, .string ⟨c.toArray⟩] w fun e w' => e = .returned (.bool true) ∧ Below w.heap.size w w' := by
  by_cases h : a.length = 16 ∧ b.length = 16 ∧ c.length = 16
  · exact fields_yes a b c w h.1 h.2.1 h.2.2
  · exact fields_no a b c w h ha

set_option maxHeartbeats 1000000 in
set_option maxRecDepth 100000 in
theorem fields_lifted (os : Os) (started : os.Started) (H : Type) (enc : TypeId × Value → H) :
    ReturnsInHanded {} Try.checked os 5 .any (Rows.ghashFieldSpec.pre6 enc Try.prog Try.f5 Rows.ghashFieldRow.domain false) (Rows.ghashFieldSpec.post enc Try.prog Try.f5 false true false false) := by
  refine returnsInHanded_of_change (C := Try.checked) Try.own started (by kernel_rfl) Try.func5
    (ChangeSpec.witness6 (enc := enc) (C := Try.checked) false ⟨#[], #[.string ⟨#[]⟩, .string ⟨#[]⟩, .string ⟨#[]⟩], []⟩ 8 (by kernel_rfl) (by kernel_rfl) (by kernel_rfl) (by kernel_rfl)) ?_
  intro W base args ds gs before hval0 hW _ _
  have hval : ∀ (j : Nat) t v, Try.f5.params[j]? = some t → args[j]? = some v → Value.okWide Try.prog W .any base t v := hval0
  have hW' := hW
  obtain ⟨p, q, hA0, hV, rfl, _, _⟩ := hW
  have hA : DataW.TrodAll enc Try.prog W 0 (fun _ => true) true Try.f5.params.toList args.toList ds p := hA0
  rw [Try.params5] at hA hval
  obtain ⟨rfl, rfl⟩ := trodVars_none hV
  have hAk := hA
  obtain ⟨v0, v1, v2, d0, d1, d2, p0, p1, p2, rfl, rfl, hp, h0, h1, h2⟩ := trodAll_three hA
  have hlt : ∀ x ∈ p, x.block < W.heap.size := fun x hx => hW'.lt x (by simpa using hx)
  obtain ⟨s0, rfl, rfl, _, ws0⟩ := ChangeMaps.open_string Try.underlying9 (hval 0 9 v0 rfl rfl) h0
  unfold maxLen at ws0
  obtain ⟨l0, rfl, hz0⟩ := str_list s0
  have hl0 : (l0.length : Int) ≤ 9223372036854775807 := by omega
  obtain ⟨s1, rfl, rfl, _, ws1⟩ := ChangeMaps.open_string Try.underlying9 (hval 1 9 v1 rfl rfl) h1
  unfold maxLen at ws1
  obtain ⟨l1, rfl, hz1⟩ := str_list s1
  have hl1 : (l1.length : Int) ≤ 9223372036854775807 := by omega
  obtain ⟨s2, rfl, rfl, _, ws2⟩ := ChangeMaps.open_string Try.underlying9 (hval 2 9 v2 rfl rfl) h2
  unfold maxLen at ws2
  obtain ⟨l2, rfl, hz2⟩ := str_list s2
  have hl2 : (l2.length : Int) ≤ 9223372036854775807 := by omega
  clear hA0 hval0
  refine (fields_any l0 l1 l2 W hl0).mono fun e W' ⟨he, hn⟩ => ?_
  subst he
  refine ⟨_, rfl, ?_⟩
  refine ⟨_, _, _, [], p, [], hW', ?_, trodAll_below_ Try.laidOut hn _ hAk (all_readable (by kernel_rfl)) hlt, rfl, hn.frame _, fun h => by cases h⟩
  exact trodAll_mk1 (shut_bool Try.underlying4 true)

/-- GhashField, for every input. -/
theorem fields_holds : Rows.GhashFieldSaid :=
  OpenClaim.holds_of_wide 5 Try.f5 rfl rfl rfl rfl rfl rfl rfl ⟨rfl, rfl, rfl, rfl, rfl⟩ rfl rfl rfl rfl rfl (by kernel_rfl) Try.func5 (by kernel_rfl)
    (of_decide_eq_true (by kernel_rfl)) (by unfold Func.isWrapper; rw [if_neg (of_decide_eq_false (by kernel_rfl))]; exact ⟨rfl, rfl⟩)
    (fun os started H enc _ => fields_lifted os started H enc)
#print axioms fields_holds
end Go.Proofs.Ytlfghagidajpeaa
