/- Contracts of the reference's Value and size. -/
import Derived.Test.YtocipkoheboalaaCSplit
namespace Go.Proofs.Ytocipkoheboalaa
open Go.RowKit

theorem val_drop (s : List UInt8) (j : Nat) (h : j < s.length) : val (s.drop j) = s[j].toNat + 256 * val (s.drop (j + 1)) := by
  rw [List.drop_eq_getElem_cons h, val]
theorem val_drop_le (s : List UInt8) (j : Nat) (hs : s.length ≤ 8) (h : 1 ≤ j) : val (s.drop j) ≤ 72057594037927935 := by
  have h1 := val_lt (s.drop j)
  rw [List.length_drop] at h1
  have : 256 ^ (s.length - j) ≤ 256 ^ 7 := Nat.pow_le_pow_right (by omega) (by omega)
  omega

set_option maxRecDepth 100000 in
set_option maxHeartbeats 1000000 in
theorem value_any (s : List UInt8) (w : World) (hs : s.length ≤ 8) :
    Calls Try.prog 29 #[.string ⟨s.toArray⟩] w fun e w' => e = .returned (.int .u64 (val s : Int)) ∧ w = w' := by
  have hz := size_mk s
  go_enter Try.func29, Try.ntmps29
  go_wp2_with fail
  go_loop [3, 4] (fun ov iv => ∃ j : Nat, j ≤ s.length ∧ iv = .int .i64 ((j : Int) - 1) ∧ ov = .int .u64 (val (s.drop j) : Int)) (fun _ i => (intOf i + 1).toNat)
  case atStart => exact ⟨s.length, Nat.le_refl _, rfl, by simp [val]⟩
  case round =>
    obtain ⟨j, hj, rfl, rfl⟩ := hrel
    cases j with
    | zero =>
      rw [List.drop_zero]
      go_wp2
      go_ret
      exact ⟨rfl, rfl⟩
    | succ j =>
      have hlt : j < s.length := by omega
      have hget := get_mk s j (by rw [hz]; exact hlt)
      have HV := Lib.hid (val_drop s j hlt)
      have hle := val_drop_le s (j + 1) hs (by omega)
      obtain ⟨b, hb⟩ : ∃ b, s[j] = b := ⟨_, rfl⟩
      rw [hb] at hget HV
      have hb8 := b.toNat_lt
      obtain ⟨V, hV⟩ : ∃ V, val (s.drop (j + 1)) = V := ⟨_, rfl⟩
      rw [hV] at HV hle ⊢
      have ej : ((j + 1 : Nat) : Int) - 1 = (j : Int) := by omega
      rw [ej]
      clear hb hV ej
      go_wp2
      exact ⟨⟨j, by omega, rfl, by rw [HV.out]; go_num⟩, by simp [intOf]⟩

theorem extract_take (r : List UInt8) (b : Nat) : (⟨r.toArray⟩ : ByteArray).extract 0 b = ⟨(r.take b).toArray⟩ := by
  rw [extract_part]; simp [part]
/-- What size tells. -/
def szI (o : Option Nat) : Int := match o with | none => -1 | some z => z

set_option maxRecDepth 100000 in
set_option maxHeartbeats 1000000 in
theorem size_any (s : List UInt8) (n : Nat) (k : UInt8) (w : World) (hk : Kind k) (hn : n ≤ s.length) (hs : (s.length : Int) ≤ 9223372036854775807) :
    Calls Try.prog 28 #[.string ⟨(s.drop n).toArray⟩, .int .u8 (k.toNat : Int)] w fun e w' => e = .returned (.int .i64 (szI (fsz s n k))) ∧ w = w' := by
  have hz := size_mk (s.drop n)
  have hd : (s.drop n).length = s.length - n := by simp
  obtain ⟨r, hr⟩ : ∃ r, s.drop n = r := ⟨_, rfl⟩
  have hp : part s n 2 = r.take 2 := by rw [← hr]; rfl
  rw [hr] at hz hd ⊢
  clear hr
  have hrl : (r.length : Int) ≤ 9223372036854775807 := by omega
  rcases hk with rfl | rfl
  · show Calls Try.prog 28 #[.string ⟨r.toArray⟩, .int .u8 110] w _
    by_cases h8 : n + 8 ≤ s.length
    · rw [show fsz s n 110 = some 8 by simp [fsz, h8]]
      have h9 : 8 ≤ r.length := by omega
      clear h8 hd hp
      go_enter Try.func28, Try.ntmps28
      go_wp2
      go_ret
      exact ⟨rfl, rfl⟩
    · rw [show fsz s n 110 = none by simp [fsz]; omega]
      have h9 : r.length < 8 := by omega
      clear h8 hd hp
      go_enter Try.func28, Try.ntmps28
      go_wp2
      go_ret
      exact ⟨rfl, rfl⟩
  · show Calls Try.prog 28 #[.string ⟨r.toArray⟩, .int .u8 116] w _
    by_cases h2 : n + 2 ≤ s.length
    · have h9 : 2 ≤ r.length := by omega
      have hex := extract_take r 2
      have hvl := val_two s n h2
      rw [hp] at hvl
      obtain ⟨q, hq⟩ : ∃ q, r.take 2 = q := ⟨_, rfl⟩
      have hql : q.length ≤ 8 := by rw [← hq, List.length_take]; omega
      have hqz := size_mk q
      rw [hq] at hex hvl hp
      obtain ⟨m, hm⟩ : ∃ m, val q = m := ⟨_, rfl⟩
      rw [hm] at hvl
      have HM := Lib.hid hm
      by_cases h3 : m ≤ 4096
      · by_cases h4 : n + 2 + m ≤ s.length
        · rw [show fsz s n 116 = some (2 + m) by simp [fsz, hp, hm]; omega]
          have h10 : 2 + m ≤ r.length := by omega
          clear hq hp hd h2 h4 hm
          go_enter Try.func28, Try.ntmps28
          go_wp2_with fail
          refine (value_any q _ hql).mono ?_
          rw [HM.out]
          rintro e w' ⟨rfl, rfl⟩
          go_wp2
          go_ret
          exact ⟨by simp [szI], rfl⟩
        · rw [show fsz s n 116 = none by simp [fsz, hp, hm]; omega]
          have h10 : r.length < 2 + m := by omega
          clear hq hp hd h2 h4 hm
          go_enter Try.func28, Try.ntmps28
          go_wp2_with fail
          refine (value_any q _ hql).mono ?_
          rw [HM.out]
          rintro e w' ⟨rfl, rfl⟩
          go_wp2
          go_ret
          exact ⟨by simp [szI], rfl⟩
      · rw [show fsz s n 116 = none by simp [fsz, hp, hm]; omega]
        have h10 : 4096 < m := by omega
        clear hq hp hd h2 h3 hm
        go_enter Try.func28, Try.ntmps28
        go_wp2_with fail
        refine (value_any q _ hql).mono ?_
        rw [HM.out]
        rintro e w' ⟨rfl, rfl⟩
        go_wp2
        go_ret
        exact ⟨by simp [szI], rfl⟩
    · rw [show fsz s n 116 = none by simp [fsz]; omega]
      have h9 : r.length < 2 := by omega
      clear h2 hd hp
      go_enter Try.func28, Try.ntmps28
      go_wp2
      go_ret
      exact ⟨rfl, rfl⟩
end Go.Proofs.Ytocipkoheboalaa
