/- AesApart, where a key or a block may not be. -/
import Derived.Test.YtodolffolbkaaaaAAlive
import Derived.Test.YtodolffolbkaaaaAREnc
import Derived.Test.YtodolffolbkaaaaAFour
namespace Go.Proofs.Ytodolffolbkaaaa
open Go.ChangeShapes Go.WideShapes Go.ChangeAt Go.RowKit Go.Joins Go.Deep

set_option maxRecDepth 100000 in
set_option maxHeartbeats 2000000 in
theorem apart_no (k a b : List UInt8) (k0 a0 b0 : List UInt8) (w : World) (hck : k0.take 40 = k) (hca : a0.take 40 = a) (hcb : b0.take 40 = b) (hk0 : (k0.length : Int) ≤ 9223372036854775807) (ha0 : (a0.length : Int) ≤ 9223372036854775807) (hb0 : (b0.length : Int) ≤ 9223372036854775807)
    (h : ¬ ((k.length = 16 ∨ k.length = 32) ∧ a.length = 16 ∧ b.length = 16)) :
    Calls Try.prog 7 #[.string ⟨k0.toArray⟩, .string ⟨a0.toArray⟩, .string ⟨b0.toArray⟩] w fun e w' => e = .returned (.bool true) ∧ Below w.heap.size w w' := by
  have HC1 := Lib.hid (cut_any k0 w hk0)
  have HC2 := Lib.hid (cut_any a0 w ha0)
  have HC3 := Lib.hid (cut_any b0 w hb0)
  rw [hck] at HC1
  rw [hca] at HC2
  rw [hcb] at HC3
  have HL := Lib.hid alive_any
  have hsa := size_of a
  have hsb := size_of b
  by_cases hk : k.length = 16 ∨ k.length = 32
  · by_cases ha : a.length = 16
    · have hb : b.length ≠ 16 := fun hb => h ⟨hk, ha, hb⟩
      have H1 := Lib.hid (fun W => enc_yes k a W hk ha)
      have H2 := Lib.hid (fun W => enc_no k b W (fun q => hb q.2))
      have H3 := Lib.hid (fun W => keys_yes k W hk)
      rw [ha] at hsa
      obtain ⟨n, hn⟩ : ∃ n, b.length = n := ⟨_, rfl⟩
      rw [hn] at hsb hb
      have hd : ((n : Int) != 16) = true := by simp; omega
      have hd2 : ¬ n = 16 := hb
      generalize encL k a = X at H1
      generalize keysL k = D at H3
      generalize k.length / 4 + 7 = q at H3
      clear hn hb hk ha h hck hca hcb
      go_enter Try.func7, Try.ntmps7
      go_wp2_with fail
      refine HC1.out.mono ?_
      rintro e w0 ⟨rfl, rfl⟩
      go_wp2_with fail
      refine HC2.out.mono ?_
      rintro e w0 ⟨rfl, rfl⟩
      go_wp2_with fail
      refine HC3.out.mono ?_
      rintro e w0 ⟨rfl, rfl⟩
      go_wp2_with fail
      refine (H1.out _).mono ?_
      rintro e w1 ⟨rfl, hb1⟩
      go_wp2_with fail
      refine (H2.out _).mono ?_
      rintro e w2 ⟨rfl, hb2⟩
      go_wp2_with fail
      refine (H3.out _).mono ?_
      rintro e w3 ⟨g, c, rfl, -, hb3⟩
      go_wp2_with fail
      refine (HL.out _).mono ?_
      rintro e w4 ⟨rfl, hb4⟩
      go_wp2_with fail
      go_ret
      exact ⟨rfl, bt (bt (bt hb1 hb2) hb3) hb4⟩
    · have H1 := Lib.hid (fun W => enc_no k a W (fun q => ha q.2))
      have H3 := Lib.hid (fun W => keys_yes k W hk)
      obtain ⟨n, hn⟩ : ∃ n, a.length = n := ⟨_, rfl⟩
      rw [hn] at hsa ha
      have hd : ((n : Int) != 16) = true := by simp; omega
      have hd2 : ¬ n = 16 := ha
      have H2 : Hid (∀ W : World, Calls Try.prog 20 #[.string ⟨k.toArray⟩, .string ⟨b.toArray⟩] W fun e w' => (∃ (s : ByteArray) (r : Int), e = .returned (.tuple #[.string s, .int .i64 r])) ∧ Below W.heap.size W w') := Lib.hid (fun W => by
        by_cases hb : b.length = 16
        · exact (enc_yes k b W hk hb).mono fun _ _ ⟨h1, h2⟩ => ⟨⟨_, _, h1⟩, h2⟩
        · exact (enc_no k b W (fun q => hb q.2)).mono fun _ _ ⟨h1, h2⟩ => ⟨⟨_, _, h1⟩, h2⟩)
      generalize keysL k = D at H3
      generalize k.length / 4 + 7 = q at H3
      clear hn ha hk h hck hca hcb hsb
      go_enter Try.func7, Try.ntmps7
      go_wp2_with fail
      refine HC1.out.mono ?_
      rintro e w0 ⟨rfl, rfl⟩
      go_wp2_with fail
      refine HC2.out.mono ?_
      rintro e w0 ⟨rfl, rfl⟩
      go_wp2_with fail
      refine HC3.out.mono ?_
      rintro e w0 ⟨rfl, rfl⟩
      go_wp2_with fail
      refine (H1.out _).mono ?_
      rintro e w1 ⟨rfl, hb1⟩
      go_wp2_with fail
      refine (H2.out _).mono ?_
      rintro e w2 ⟨⟨s, r, rfl⟩, hb2⟩
      go_wp2_with fail
      refine (H3.out _).mono ?_
      rintro e w3 ⟨g, c, rfl, -, hb3⟩
      go_wp2_with fail
      refine (HL.out _).mono ?_
      rintro e w4 ⟨rfl, hb4⟩
      go_wp2_with fail
      go_ret
      exact ⟨rfl, bt (bt (bt hb1 hb2) hb3) hb4⟩
  · have H1 := Lib.hid (fun W => enc_no k a W (fun q => hk q.1))
    have H2 := Lib.hid (fun W => enc_no k b W (fun q => hk q.1))
    have H3 := Lib.hid (fun W => keys_no k W hk)
    obtain ⟨n, hn⟩ : ∃ n, a.length = n := ⟨_, rfl⟩
    obtain ⟨m, hm⟩ : ∃ m, b.length = m := ⟨_, rfl⟩
    rw [hn] at hsa
    rw [hm] at hsb
    clear hn hm hk h hck hca hcb
    go_enter Try.func7, Try.ntmps7
    go_wp2_with fail
    refine HC1.out.mono ?_
    rintro e w0 ⟨rfl, rfl⟩
    go_wp2_with fail
    refine HC2.out.mono ?_
    rintro e w0 ⟨rfl, rfl⟩
    go_wp2_with fail
    refine HC3.out.mono ?_
    rintro e w0 ⟨rfl, rfl⟩
    go_wp2_with fail
    refine (H1.out _).mono ?_
    rintro e w1 ⟨rfl, hb1⟩
    go_wp2_with fail
    refine (H2.out _).mono ?_
    rintro e w2 ⟨rfl, hb2⟩
    go_wp2_with fail
    refine (H3.out _).mono ?_
    rintro e w3 ⟨rfl, hb3⟩
    go_wp2_with fail
    refine (HL.out _).mono ?_
    rintro e w4 ⟨rfl, hb4⟩
    go_wp2_with fail
    all_goals
      go_ret
      exact ⟨rfl, bt (bt (bt hb1 hb2) hb3) hb4⟩

end Go.Proofs.Ytodolffolbkaaaa
