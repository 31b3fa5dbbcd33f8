/- Texts of this seat, one behind the other: WROpen, WTextsW, WAny, WOpensW. -/
import Derived.Test.YtcecjoodlmpgnaaGreatQ24
/- The contract of the reference's Open. -/
namespace Go.Proofs.YtcecjoodlmpgnaaGreat
open Go.RowKit

set_option maxRecDepth 100000 in
set_option maxHeartbeats 1000000 in
theorem rwopen_no (k s : List UInt8) (kind a : Int) (l : Nat) (w : World) (hs : (s.length : Int) ≤ 9223372036854775807) (h : ¬ (24 ≤ s.length ∧ s.length ≤ 88)) :
    Calls Tryz.prog 14 #[.string ⟨k.toArray⟩, .int .i64 kind, .int .i64 a, .int .u64 (l : Int), .string ⟨s.toArray⟩] w fun e w' => e = .returned (.agg #[.int .u64 0, .string ⟨#[]⟩, .bool false]) ∧ Below w.heap.size w w' := by
  have hz := size_of s
  obtain ⟨n, hn⟩ : ∃ n, s.length = n := ⟨_, rfl⟩
  rw [hn] at hz hs h
  clear hn
  have B0 := Blk.new w 37 #[.int .u64 0, .string ⟨#[]⟩, .bool false]
  have hb0 := ba (Below.refl w.heap.size w) (.cells #[.int .u64 0, .string ⟨#[]⟩, .bool false] 37)
  have B0 := Lib.hid B0
  have hb0 := Lib.hid hb0
  by_cases h24 : n < 24
  · have h1 : (n : Int) < 24 := by omega
    clear h hs h24
    go_enter Tryz.func14, Tryz.ntmps14
    go_wp2_with fail
    refine bodyPost_ret (v := .agg #[.int .u64 0, .string ⟨#[]⟩, .bool false]) (results_cell_row rfl _ _ _ _ _ _ _ rfl B0.out Tryz.underlying37 rfl (by kernel_rfl)) rfl ?_
    exact ⟨rfl, hb0.out⟩
  · have h1 : ¬ (n : Int) < 24 := by omega
    have h2 : 88 < (n : Int) := by omega
    clear h hs h24
    go_enter Tryz.func14, Tryz.ntmps14
    go_wp2_with fail
    refine bodyPost_ret (v := .agg #[.int .u64 0, .string ⟨#[]⟩, .bool false]) (results_cell_row rfl _ _ _ _ _ _ _ rfl B0.out Tryz.underlying37 rfl (by kernel_rfl)) rfl ?_
    exact ⟨rfl, hb0.out⟩
set_option maxRecDepth 100000 in
set_option maxHeartbeats 4000000 in
theorem rwopen_yes (k s : List UInt8) (kind a l : Nat) (w : World) (hk : k.length = 16 ∨ k.length = 32) (ha : a ≤ 63) (hi : kind ≤ 2) (hl : (l : Int) ≤ 18446744073709551615) (h : 24 ≤ s.length ∧ s.length ≤ 88) :
    Calls Tryz.prog 14 #[.string ⟨k.toArray⟩, .int .i64 (kind : Int), .int .i64 (a : Int), .int .u64 (l : Int), .string ⟨s.toArray⟩] w fun e w' => e = .returned (rwopenR (wopen (encL k) kind a l s)) ∧ Below w.heap.size w w' := by
  obtain ⟨m, hm⟩ : ∃ m, s.length = m + 24 := ⟨s.length - 24, by omega⟩
  have hm2 : s.length - 24 = m := by omega
  have l8 : (s.take 8).length = 8 := by rw [List.length_take]; omega
  have HG := Lib.hid (fun W => value_any (s.take 8) W (by omega))
  have hv := val_lt (s.take 8)
  rw [l8] at hv
  unfold wopen
  rw [if_pos h, hm2]
  generalize val (s.take 8) = v at HG hv ⊢
  have HN := Lib.hid (fun W => rwnonce_any a v W ha (by omega))
  have HH := Lib.hid (fun W => rwhead_any kind l m W hi hl (by omega))
  have HO := Lib.hid (fun W => ropen_any k (wnonce a v) (whead kind l m) (s.drop 8) W hk (wnonce_len _ _) (by rw [whead_len]; omega) (by rw [List.length_drop]; omega) (by rw [List.length_drop]; omega))
  have hx1 := kextract s 0 8
  rw [List.drop_zero] at hx1
  have hx2 := kextract s 8 (m + 24)
  rw [List.take_of_length_le (by omega)] at hx2
  have hz := size_of s
  rw [hm] at hz
  generalize openL (encL k) (wnonce a v) (whead kind l m) (s.drop 8) = o at HO ⊢
  generalize s.take 8 = S8 at HG hx1
  generalize s.drop 8 = D8 at HO hx2
  generalize wnonce a v = N at HN HO
  generalize whead kind l m = H at HH HO
  obtain ⟨n, hn⟩ : ∃ n, m + 24 = n := ⟨_, rfl⟩
  rw [hn] at hz hx2
  have n0 : (n : Int) - 24 = (m : Int) := by omega
  have n1 : (m : Int) ≤ 64 := by omega
  have n2 : (0 : Int) ≤ (m : Int) := by omega
  have n3 : (8 : Int) ≤ (n : Int) := by omega
  have n4 : 8 ≤ n := by omega
  have n5 : (n : Int) ≤ 88 := by omega
  have n6 : ¬ (n : Int) < 24 := by omega
  have n7 : ¬ 88 < (n : Int) := by omega
  have mw : IntKind.i64.wrap (m : Int) = (m : Int) := by rw [IntKind.wrap_i64]; omega
  clear h hm hm2 l8 hv hk ha hi hl hn
  have B0 := Lib.hid (Blk.new w 37 #[.int .u64 0, .string ⟨#[]⟩, .bool false])
  have hb0 := ba (Below.refl w.heap.size w) (.cells #[.int .u64 0, .string ⟨#[]⟩, .bool false] 37)
  cases o with
  | none =>
    rw [show ropenR none = .agg #[.string ⟨#[]⟩, .bool false] from rfl] at HO
    rw [show rwopenR (Option.map (fun t => (v, t)) none) = .agg #[.int .u64 0, .string ⟨#[]⟩, .bool false] from rfl]
    go_enter Tryz.func14, Tryz.ntmps14
    go_wp2_with fail
    refine (HG.out _).mono ?_
    rintro e w5 ⟨rfl, rfl⟩
    clear HG
    go_wp2_with fail
    generalize w.alloc (.cells #[.int .u64 0, .string ⟨#[]⟩, .bool false] 37) = w1 at B0 hb0 ⊢
    have hD : Below w1.heap.size w1 w1.drew := (Below.refl _ _).drew
    go_region_held3 (fun W => Below w1.heap.size w1 W) (first | assumption | exact ba (by assumption) _ | exact bs (bs (by assumption) (Nat.le_refl _) _) (Nat.le_refl _) _ | exact bs (bs (by assumption) hB6.size _) hB6.size _ | exact bs (bs (by assumption) hB7.size _) hB7.size _ | exact ba hB8 _) (first
        | (go_at_call 9; (with_reducible refine (HN.out _).mono ?_); rintro e w6 ⟨rfl, hb6⟩; have hB6 := bt (by assumption : Below w1.heap.size w1 _) hb6; try have K := Lib.hid ((Blk.newAt (w := w1.drew) (g := w1.heap.size) rfl 51 #[.string ⟨#[]⟩, .bool false]).below hb6))
        | (go_at_call 25; (with_reducible refine (HH.out _).mono ?_); rintro e w7 ⟨rfl, hb7⟩; have hB7 := bt (by assumption : Below w1.heap.size w1 _) hb7; (first | have K := Lib.hid (K.out.below hb7) | have K := Lib.hid ((Blk.new w6 51 #[.string ⟨#[]⟩, .bool false]).below hb7) | skip))
        | (go_at_call 29; (with_reducible refine (HO.out _).mono ?_); rintro e w8 ⟨rfl, hb8⟩; have hB8 := bt (by assumption : Below w1.heap.size w1 _) hb8; (first | have K := Lib.hid (K.out.below hb8) | have K := Lib.hid ((Blk.new w7 51 #[.string ⟨#[]⟩, .bool false]).below hb8) | skip); first | (have c0 := K.out.cell 0; have c1 := K.out.cell 1; have f0 := K.out.frozen 0; have f1 := K.out.frozen 1) | skip))
    all_goals rename_i hh
    all_goals first
      | (have K9 : Blk _ _ 51 #[.string ⟨#[]⟩, .bool false] := (K.out.set_ 0 (.string ⟨#[]⟩)).set_ 1 (.bool false)
         clear c0 c1 f0 f1
         generalize World.setCell (World.setCell w8 _ _) _ _ = w9 at hh K9 ⊢)
      | (have K9 : Blk _ _ 51 #[.string ⟨#[]⟩, .bool false] := Blk.new w8 _ _
         generalize World.alloc w8 _ = w9 at hh K9 ⊢)
    all_goals
      have B9 := B0.out.below hh
      have hb9 := bt hb0 hh
      have q0 := K9.cell 0
      have q1 := K9.cell 1
      have c0 := B9.cell 0
      have c1 := B9.cell 1
      have c2 := B9.cell 2
      have f0 := B9.frozen 0
      have f1 := B9.frozen 1
      have f2 := B9.frozen 2
      have B8 := Lib.hid (((B9.set_ 0 (.int .u64 0)).set_ 1 (.string ⟨#[]⟩)).set_ 2 (.bool false))
      have hbb := Lib.hid (bs (bs (bs hb9 (b := w.heap.size) (o := 0) (Nat.le_refl _) (.int .u64 0)) (b := w.heap.size) (o := 1) (Nat.le_refl _) (.string ⟨#[]⟩)) (b := w.heap.size) (o := 2) (Nat.le_refl _) (.bool false))
      clear K9 B9 hb9 hh hB6 hB7 hB8 hb6 hb7 hb8 hD HN HH HO B0 hb0
      go_wp2_with fail
      refine bodyPost_ret (v := .agg #[.int .u64 0, .string ⟨#[]⟩, .bool false]) (results_cell_row rfl _ _ _ _ _ _ _ rfl B8.out Tryz.underlying37 rfl (by kernel_rfl)) rfl ?_
      exact ⟨rfl, hbb.out⟩
  | some t =>
    rw [show ropenR (some t) = .agg #[.string ⟨t.toArray⟩, .bool true] from rfl] at HO
    rw [show rwopenR (Option.map (fun t => (v, t)) (some t)) = .agg #[.int .u64 (v : Int), .string ⟨t.toArray⟩, .bool true] from rfl]
    go_enter Tryz.func14, Tryz.ntmps14
    go_wp2_with fail
    refine (HG.out _).mono ?_
    rintro e w5 ⟨rfl, rfl⟩
    clear HG
    go_wp2_with fail
    generalize w.alloc (.cells #[.int .u64 0, .string ⟨#[]⟩, .bool false] 37) = w1 at B0 hb0 ⊢
    have hD : Below w1.heap.size w1 w1.drew := (Below.refl _ _).drew
    go_region_held3 (fun W => Below w1.heap.size w1 W) (first | assumption | exact ba (by assumption) _ | exact bs (bs (by assumption) (Nat.le_refl _) _) (Nat.le_refl _) _ | exact bs (bs (by assumption) hB6.size _) hB6.size _ | exact bs (bs (by assumption) hB7.size _) hB7.size _ | exact ba hB8 _) (first
        | (go_at_call 9; (with_reducible refine (HN.out _).mono ?_); rintro e w6 ⟨rfl, hb6⟩; have hB6 := bt (by assumption : Below w1.heap.size w1 _) hb6; try have K := Lib.hid ((Blk.newAt (w := w1.drew) (g := w1.heap.size) rfl 51 #[.string ⟨#[]⟩, .bool false]).below hb6))
        | (go_at_call 25; (with_reducible refine (HH.out _).mono ?_); rintro e w7 ⟨rfl, hb7⟩; have hB7 := bt (by assumption : Below w1.heap.size w1 _) hb7; (first | have K := Lib.hid (K.out.below hb7) | have K := Lib.hid ((Blk.new w6 51 #[.string ⟨#[]⟩, .bool false]).below hb7) | skip))
        | (go_at_call 29; (with_reducible refine (HO.out _).mono ?_); rintro e w8 ⟨rfl, hb8⟩; have hB8 := bt (by assumption : Below w1.heap.size w1 _) hb8; (first | have K := Lib.hid (K.out.below hb8) | have K := Lib.hid ((Blk.new w7 51 #[.string ⟨#[]⟩, .bool false]).below hb8) | skip); first | (have c0 := K.out.cell 0; have c1 := K.out.cell 1; have f0 := K.out.frozen 0; have f1 := K.out.frozen 1) | skip))
    all_goals rename_i hh
    all_goals first
      | (have K9 : Blk _ _ 51 #[.string ⟨t.toArray⟩, .bool true] := (K.out.set_ 0 (.string ⟨t.toArray⟩)).set_ 1 (.bool true)
         clear c0 c1 f0 f1
         generalize World.setCell (World.setCell w8 _ _) _ _ = w9 at hh K9 ⊢)
      | (have K9 : Blk _ _ 51 #[.string ⟨t.toArray⟩, .bool true] := Blk.new w8 _ _
         generalize World.alloc w8 _ = w9 at hh K9 ⊢)
    all_goals
      have B9 := B0.out.below hh
      have hb9 := bt hb0 hh
      have q0 := K9.cell 0
      have q1 := K9.cell 1
      have c0 := B9.cell 0
      have c1 := B9.cell 1
      have c2 := B9.cell 2
      have f0 := B9.frozen 0
      have f1 := B9.frozen 1
      have f2 := B9.frozen 2
      have B8 := Lib.hid (((B9.set_ 0 (.int .u64 (v : Int))).set_ 1 (.string ⟨t.toArray⟩)).set_ 2 (.bool true))
      have hbb := Lib.hid (bs (bs (bs hb9 (b := w.heap.size) (o := 0) (Nat.le_refl _) (.int .u64 (v : Int))) (b := w.heap.size) (o := 1) (Nat.le_refl _) (.string ⟨t.toArray⟩)) (b := w.heap.size) (o := 2) (Nat.le_refl _) (.bool true))
      clear K9 B9 hb9 hh hB6 hB7 hB8 hb6 hb7 hb8 hD HN HH HO B0 hb0
      go_wp2_with fail
      refine bodyPost_ret (v := .agg #[.int .u64 (v : Int), .string ⟨t.toArray⟩, .bool true]) (results_cell_row rfl _ _ _ _ _ _ _ rfl B8.out Tryz.underlying37 rfl (by kernel_rfl)) rfl ?_
      exact ⟨rfl, hbb.out⟩

set_option maxRecDepth 100000 in
theorem rwopen_any (k s : List UInt8) (kind a l : Nat) (w : World) (hk : k.length = 16 ∨ k.length = 32) (hs : (s.length : Int) ≤ 9223372036854775807) (ha : a ≤ 63) (hi : kind ≤ 2) (hl : (l : Int) ≤ 18446744073709551615) :
    Calls Tryz.prog 14 #[.string ⟨k.toArray⟩, .int .i64 (kind : Int), .int .i64 (a : Int), .int .u64 (l : Int), .string ⟨s.toArray⟩] w fun e w' => e = .returned (rwopenR (wopen (encL k) kind a l s)) ∧ Below w.heap.size w w' := by
  by_cases h : 24 ≤ s.length ∧ s.length ≤ 88
  · exact rwopen_yes k s kind a l w hk ha hi hl h
  · have e := rwopen_no k s kind a l w hs h
    unfold wopen
    rw [if_neg h]
    exact e
end Go.Proofs.YtcecjoodlmpgnaaGreat
/- The walk of SealTexts. -/
namespace Go.Proofs.YtcecjoodlmpgnaaGreat
open Go.ChangeShapes Go.WideShapes Go.ChangeAt Go.RowKit Go.Joins Go.Deep


set_option maxRecDepth 100000 in
set_option maxHeartbeats 8000000 in
theorem stexts_bad (k0 d0 k d : List UInt8) (kind a : Int) (g l : Nat) (w : World)
    (HC1 : Hid (∀ W, Calls Tryz.prog 5 #[.string ⟨k0.toArray⟩] W fun e w' => e = .returned (.string ⟨k.toArray⟩) ∧ W = w'))
    (HC2 : Hid (∀ W, Calls Tryz.prog 5 #[.string ⟨d0.toArray⟩] W fun e w' => e = .returned (.string ⟨d.toArray⟩) ∧ W = w'))
    (HN : Hid (∀ W, Calls Tryz.prog 6 #[.int .i64 a, .int .u64 (g : Int)] W fun e w' => e = .returned (.tuple #[.string ⟨#[]⟩, .int .i64 1]) ∧ Below W.heap.size W w'))
    (HS : Hid (∀ W, Calls Tryz.prog 7 #[.string ⟨k.toArray⟩, .int .i64 kind, .int .i64 a, .int .u64 (g : Int), .int .u64 (l : Int), .string ⟨d.toArray⟩] W fun e w' => e = .returned (.tuple #[.string ⟨#[]⟩, .int .i64 1]) ∧ Below W.heap.size W w'))
    (P : a < 0 ∨ (0 ≤ a ∧ 63 < a))
    :
    Calls Tryz.prog 3 #[.string ⟨k0.toArray⟩, .int .i64 kind, .int .i64 a, .int .u64 (g : Int), .int .u64 (l : Int), .string ⟨d0.toArray⟩] w fun e w' => e = .returned (.bool true) ∧ Below w.heap.size w w' := by
  have HL := Lib.hid walive_any
  have had : ∀ (W : World), (Op.stringOp .add ⟨#[]⟩ ⟨#[]⟩).run Tryz.prog W = .ok (.string ⟨#[]⟩) W := fun W => run_string_add_lists (P := Tryz.prog) W [] [] (by decide) (by decide)
  rcases P with p1 | ⟨p1, p2⟩
  all_goals
    go_enter Tryz.func3, Tryz.ntmps3
    go_wp2_with fail
    refine (HC1.out _).mono ?_
    rintro e w1 ⟨rfl, rfl⟩
    go_wp2_with fail
    refine (HC2.out _).mono ?_
    rintro e w2 ⟨rfl, rfl⟩
    go_wp2_with fail
    refine (HN.out _).mono ?_
    rintro e w3 ⟨rfl, hb3⟩
    go_wp2_with fail
    refine (HS.out _).mono ?_
    rintro e w4 ⟨rfl, hb4⟩
    have hb4 := bt hb3 hb4
    clear hb3
    go_wp2_with fail
    refine (HL.out _).mono ?_
    rintro e w5 ⟨rfl, hb5⟩
    have hb5 := bt hb4 hb5
    clear hb4
    go_wp2_with fail
    go_ret
    exact ⟨rfl, hb5⟩

set_option maxRecDepth 100000 in
set_option maxHeartbeats 8000000 in
theorem stexts_kind (k0 d0 k d N : List UInt8) (kind a : Int) (g l : Nat) (w : World)
    (HC1 : Hid (∀ W, Calls Tryz.prog 5 #[.string ⟨k0.toArray⟩] W fun e w' => e = .returned (.string ⟨k.toArray⟩) ∧ W = w'))
    (HC2 : Hid (∀ W, Calls Tryz.prog 5 #[.string ⟨d0.toArray⟩] W fun e w' => e = .returned (.string ⟨d.toArray⟩) ∧ W = w'))
    (HN : Hid (∀ W, Calls Tryz.prog 6 #[.int .i64 a, .int .u64 (g : Int)] W fun e w' => e = .returned (.tuple #[.string ⟨N.toArray⟩, .int .i64 0]) ∧ Below W.heap.size W w'))
    (HS : Hid (∀ W, Calls Tryz.prog 7 #[.string ⟨k.toArray⟩, .int .i64 kind, .int .i64 a, .int .u64 (g : Int), .int .u64 (l : Int), .string ⟨d.toArray⟩] W fun e w' => e = .returned (.tuple #[.string ⟨#[]⟩, .int .i64 1]) ∧ Below W.heap.size W w'))
    (HR : Hid (∀ W, Calls Tryz.prog 9 #[.int .i64 a, .int .u64 (g : Int)] W fun e w' => e = .returned (.string ⟨N.toArray⟩) ∧ Below W.heap.size W w'))
    (HP : Hid (∀ W, Calls Tryz.prog 10 #[.int .i64 a, .int .i64 kind] W fun e w' => e = .returned (.bool false) ∧ W = w'))
    (a0 : 0 ≤ a) (a1 : a ≤ 63)
    :
    Calls Tryz.prog 3 #[.string ⟨k0.toArray⟩, .int .i64 kind, .int .i64 a, .int .u64 (g : Int), .int .u64 (l : Int), .string ⟨d0.toArray⟩] w fun e w' => e = .returned (.bool true) ∧ Below w.heap.size w w' := by
  have HL := Lib.hid walive_any
  all_goals
    go_enter Tryz.func3, Tryz.ntmps3
    go_wp2_with fail
    refine (HC1.out _).mono ?_
    rintro e w1 ⟨rfl, rfl⟩
    go_wp2_with fail
    refine (HC2.out _).mono ?_
    rintro e w2 ⟨rfl, rfl⟩
    go_wp2_with fail
    refine (HN.out _).mono ?_
    rintro e w3 ⟨rfl, hb3⟩
    go_wp2_with fail
    refine (HS.out _).mono ?_
    rintro e w4 ⟨rfl, hb4⟩
    have hb4 := bt hb3 hb4
    clear hb3
    go_wp2_with fail
    refine (HR.out _).mono ?_
    rintro e w5 ⟨rfl, hb5⟩
    have hb5 := bt hb4 hb5
    clear hb4
    go_wp2_with fail
    refine (HL.out _).mono ?_
    rintro e w6 ⟨rfl, hb6⟩
    have hb6 := bt hb5 hb6
    clear hb5
    go_wp2_with fail
    refine (HP.out _).mono ?_
    rintro e w7 ⟨rfl, rfl⟩
    go_wp2_with fail
    go_ret
    exact ⟨rfl, hb6⟩

set_option maxRecDepth 100000 in
set_option maxHeartbeats 8000000 in
theorem stexts_key (k0 d0 k d N : List UInt8) (kind a : Int) (g l : Nat) (w : World)
    (HC1 : Hid (∀ W, Calls Tryz.prog 5 #[.string ⟨k0.toArray⟩] W fun e w' => e = .returned (.string ⟨k.toArray⟩) ∧ W = w'))
    (HC2 : Hid (∀ W, Calls Tryz.prog 5 #[.string ⟨d0.toArray⟩] W fun e w' => e = .returned (.string ⟨d.toArray⟩) ∧ W = w'))
    (HN : Hid (∀ W, Calls Tryz.prog 6 #[.int .i64 a, .int .u64 (g : Int)] W fun e w' => e = .returned (.tuple #[.string ⟨N.toArray⟩, .int .i64 0]) ∧ Below W.heap.size W w'))
    (HS : Hid (∀ W, Calls Tryz.prog 7 #[.string ⟨k.toArray⟩, .int .i64 kind, .int .i64 a, .int .u64 (g : Int), .int .u64 (l : Int), .string ⟨d.toArray⟩] W fun e w' => e = .returned (.tuple #[.string ⟨#[]⟩, .int .i64 4]) ∧ Below W.heap.size W w'))
    (HR : Hid (∀ W, Calls Tryz.prog 9 #[.int .i64 a, .int .u64 (g : Int)] W fun e w' => e = .returned (.string ⟨N.toArray⟩) ∧ Below W.heap.size W w'))
    (HP : Hid (∀ W, Calls Tryz.prog 10 #[.int .i64 a, .int .i64 kind] W fun e w' => e = .returned (.bool true) ∧ W = w'))
    (HK : Hid (∀ W, Calls Tryz.prog 11 #[.string ⟨k.toArray⟩] W fun e w' => e = .returned (.bool false) ∧ W = w'))
    (a0 : 0 ≤ a) (a1 : a ≤ 63)
    :
    Calls Tryz.prog 3 #[.string ⟨k0.toArray⟩, .int .i64 kind, .int .i64 a, .int .u64 (g : Int), .int .u64 (l : Int), .string ⟨d0.toArray⟩] w fun e w' => e = .returned (.bool true) ∧ Below w.heap.size w w' := by
  have HL := Lib.hid walive_any
  all_goals
    go_enter Tryz.func3, Tryz.ntmps3
    go_wp2_with fail
    refine (HC1.out _).mono ?_
    rintro e w1 ⟨rfl, rfl⟩
    go_wp2_with fail
    refine (HC2.out _).mono ?_
    rintro e w2 ⟨rfl, rfl⟩
    go_wp2_with fail
    refine (HN.out _).mono ?_
    rintro e w3 ⟨rfl, hb3⟩
    go_wp2_with fail
    refine (HS.out _).mono ?_
    rintro e w4 ⟨rfl, hb4⟩
    have hb4 := bt hb3 hb4
    clear hb3
    go_wp2_with fail
    refine (HR.out _).mono ?_
    rintro e w5 ⟨rfl, hb5⟩
    have hb5 := bt hb4 hb5
    clear hb4
    go_wp2_with fail
    refine (HL.out _).mono ?_
    rintro e w6 ⟨rfl, hb6⟩
    have hb6 := bt hb5 hb6
    clear hb5
    go_wp2_with fail
    refine (HP.out _).mono ?_
    rintro e w7 ⟨rfl, rfl⟩
    go_wp2_with fail
    refine (HK.out _).mono ?_
    rintro e w8 ⟨rfl, rfl⟩
    go_wp2_with fail
    go_ret
    exact ⟨rfl, hb6⟩

set_option maxRecDepth 100000 in
set_option maxHeartbeats 8000000 in
theorem stexts_long (k0 d0 k d N : List UInt8) (kind a : Int) (g l : Nat) (w : World)
    (HC1 : Hid (∀ W, Calls Tryz.prog 5 #[.string ⟨k0.toArray⟩] W fun e w' => e = .returned (.string ⟨k.toArray⟩) ∧ W = w'))
    (HC2 : Hid (∀ W, Calls Tryz.prog 5 #[.string ⟨d0.toArray⟩] W fun e w' => e = .returned (.string ⟨d.toArray⟩) ∧ W = w'))
    (HN : Hid (∀ W, Calls Tryz.prog 6 #[.int .i64 a, .int .u64 (g : Int)] W fun e w' => e = .returned (.tuple #[.string ⟨N.toArray⟩, .int .i64 0]) ∧ Below W.heap.size W w'))
    (HS : Hid (∀ W, Calls Tryz.prog 7 #[.string ⟨k.toArray⟩, .int .i64 kind, .int .i64 a, .int .u64 (g : Int), .int .u64 (l : Int), .string ⟨d.toArray⟩] W fun e w' => e = .returned (.tuple #[.string ⟨#[]⟩, .int .i64 4]) ∧ Below W.heap.size W w'))
    (HR : Hid (∀ W, Calls Tryz.prog 9 #[.int .i64 a, .int .u64 (g : Int)] W fun e w' => e = .returned (.string ⟨N.toArray⟩) ∧ Below W.heap.size W w'))
    (HP : Hid (∀ W, Calls Tryz.prog 10 #[.int .i64 a, .int .i64 kind] W fun e w' => e = .returned (.bool true) ∧ W = w'))
    (HK : Hid (∀ W, Calls Tryz.prog 11 #[.string ⟨k.toArray⟩] W fun e w' => e = .returned (.bool true) ∧ W = w'))
    (a0 : 0 ≤ a) (a1 : a ≤ 63)
    (hd : 64 < d.length)
    :
    Calls Tryz.prog 3 #[.string ⟨k0.toArray⟩, .int .i64 kind, .int .i64 a, .int .u64 (g : Int), .int .u64 (l : Int), .string ⟨d0.toArray⟩] w fun e w' => e = .returned (.bool true) ∧ Below w.heap.size w w' := by
  have HL := Lib.hid walive_any
  have hz := size_of d
  obtain ⟨n, hn⟩ : ∃ n, d.length = n := ⟨_, rfl⟩
  rw [hn] at hz hd
  have hd2 : 64 < (n : Int) := by omega
  clear hd
  all_goals
    go_enter Tryz.func3, Tryz.ntmps3
    go_wp2_with fail
    refine (HC1.out _).mono ?_
    rintro e w1 ⟨rfl, rfl⟩
    go_wp2_with fail
    refine (HC2.out _).mono ?_
    rintro e w2 ⟨rfl, rfl⟩
    go_wp2_with fail
    refine (HN.out _).mono ?_
    rintro e w3 ⟨rfl, hb3⟩
    go_wp2_with fail
    refine (HS.out _).mono ?_
    rintro e w4 ⟨rfl, hb4⟩
    have hb4 := bt hb3 hb4
    clear hb3
    go_wp2_with fail
    refine (HR.out _).mono ?_
    rintro e w5 ⟨rfl, hb5⟩
    have hb5 := bt hb4 hb5
    clear hb4
    go_wp2_with fail
    refine (HL.out _).mono ?_
    rintro e w6 ⟨rfl, hb6⟩
    have hb6 := bt hb5 hb6
    clear hb5
    go_wp2_with fail
    refine (HP.out _).mono ?_
    rintro e w7 ⟨rfl, rfl⟩
    go_wp2_with fail
    refine (HK.out _).mono ?_
    rintro e w8 ⟨rfl, rfl⟩
    go_wp2_with fail
    go_ret
    exact ⟨rfl, hb6⟩

set_option maxRecDepth 100000 in
set_option maxHeartbeats 8000000 in
theorem stexts_yes (k0 d0 k d N T : List UInt8) (kind a : Int) (g l : Nat) (w : World)
    (HC1 : Hid (∀ W, Calls Tryz.prog 5 #[.string ⟨k0.toArray⟩] W fun e w' => e = .returned (.string ⟨k.toArray⟩) ∧ W = w'))
    (HC2 : Hid (∀ W, Calls Tryz.prog 5 #[.string ⟨d0.toArray⟩] W fun e w' => e = .returned (.string ⟨d.toArray⟩) ∧ W = w'))
    (HN : Hid (∀ W, Calls Tryz.prog 6 #[.int .i64 a, .int .u64 (g : Int)] W fun e w' => e = .returned (.tuple #[.string ⟨N.toArray⟩, .int .i64 0]) ∧ Below W.heap.size W w'))
    (HS : Hid (∀ W, Calls Tryz.prog 7 #[.string ⟨k.toArray⟩, .int .i64 kind, .int .i64 a, .int .u64 (g : Int), .int .u64 (l : Int), .string ⟨d.toArray⟩] W fun e w' => e = .returned (.tuple #[.string ⟨T.toArray⟩, .int .i64 0]) ∧ Below W.heap.size W w'))
    (HR : Hid (∀ W, Calls Tryz.prog 9 #[.int .i64 a, .int .u64 (g : Int)] W fun e w' => e = .returned (.string ⟨N.toArray⟩) ∧ Below W.heap.size W w'))
    (HP : Hid (∀ W, Calls Tryz.prog 10 #[.int .i64 a, .int .i64 kind] W fun e w' => e = .returned (.bool true) ∧ W = w'))
    (HK : Hid (∀ W, Calls Tryz.prog 11 #[.string ⟨k.toArray⟩] W fun e w' => e = .returned (.bool true) ∧ W = w'))
    (HE : Hid (∀ W, Calls Tryz.prog 12 #[.string ⟨k.toArray⟩, .int .i64 kind, .int .i64 a, .int .u64 (g : Int), .int .u64 (l : Int), .string ⟨d.toArray⟩] W fun e w' => e = .returned (.string ⟨T.toArray⟩) ∧ Below W.heap.size W w'))
    (a0 : 0 ≤ a) (a1 : a ≤ 63)
    (hd : d.length ≤ 64)
    :
    Calls Tryz.prog 3 #[.string ⟨k0.toArray⟩, .int .i64 kind, .int .i64 a, .int .u64 (g : Int), .int .u64 (l : Int), .string ⟨d0.toArray⟩] w fun e w' => e = .returned (.bool true) ∧ Below w.heap.size w w' := by
  have HL := Lib.hid walive_any
  have hz := size_of d
  obtain ⟨n, hn⟩ : ∃ n, d.length = n := ⟨_, rfl⟩
  rw [hn] at hz hd
  have hd2 : (n : Int) ≤ 64 := by omega
  clear hd
  all_goals
    go_enter Tryz.func3, Tryz.ntmps3
    go_wp2_with fail
    refine (HC1.out _).mono ?_
    rintro e w1 ⟨rfl, rfl⟩
    go_wp2_with fail
    refine (HC2.out _).mono ?_
    rintro e w2 ⟨rfl, rfl⟩
    go_wp2_with fail
    refine (HN.out _).mono ?_
    rintro e w3 ⟨rfl, hb3⟩
    go_wp2_with fail
    refine (HS.out _).mono ?_
    rintro e w4 ⟨rfl, hb4⟩
    have hb4 := bt hb3 hb4
    clear hb3
    go_wp2_with fail
    refine (HR.out _).mono ?_
    rintro e w5 ⟨rfl, hb5⟩
    have hb5 := bt hb4 hb5
    clear hb4
    go_wp2_with fail
    refine (HL.out _).mono ?_
    rintro e w6 ⟨rfl, hb6⟩
    have hb6 := bt hb5 hb6
    clear hb5
    go_wp2_with fail
    refine (HP.out _).mono ?_
    rintro e w7 ⟨rfl, rfl⟩
    go_wp2_with fail
    refine (HK.out _).mono ?_
    rintro e w8 ⟨rfl, rfl⟩
    go_wp2_with fail
    refine (HE.out _).mono ?_
    rintro e w9 ⟨rfl, hb9⟩
    have hb9 := bt hb6 hb9
    clear hb6
    go_wp2_with fail
    go_ret
    exact ⟨rfl, hb9⟩
end Go.Proofs.YtcecjoodlmpgnaaGreat
/- What Nonce tells of any sector; the places and kinds that may be. -/
namespace Go.Proofs.YtcecjoodlmpgnaaGreat
open Go.RowKit

theorem atB_yes {a : Int} (h : atB a = true) : ∃ n : Nat, a = (n : Int) ∧ n ≤ 63 := by
  simp [atB] at h
  exact ⟨a.toNat, by omega, by omega⟩
theorem kindB_yes {a : Int} (h : kindB a = true) : ∃ n : Nat, a = (n : Int) ∧ n ≤ 2 := by
  simp [kindB] at h
  exact ⟨a.toNat, by omega, by omega⟩
theorem keyB_yes {k : List UInt8} (h : keyB k = true) : k.length = 16 ∨ k.length = 32 := by
  simp [keyB] at h
  exact h
/-- What Nonce tells, whatever the sector. -/
theorem wnonce_any (a : Int) (g : Nat) (hg : (g : Int) ≤ 18446744073709551615) : ∃ N e1, Hid (∀ W, Calls Tryz.prog 6 #[.int .i64 a, .int .u64 (g : Int)] W fun e w' => e = .returned (.tuple #[.string ⟨N.toArray⟩, .int .i64 e1]) ∧ Below W.heap.size W w') ∧ (atB a = false → e1 = 1) ∧ (atB a = true → e1 = 0 ∧ N = wnonce a.toNat g) := by
  cases h : atB a with
  | false => exact ⟨[], 1, Lib.hid (fun W => wnonce_no a g W h), ⟨fun _ => rfl, fun h => absurd h (by decide)⟩⟩
  | true =>
    obtain ⟨n, rfl, hn⟩ := atB_yes h
    exact ⟨wnonce n g, 0, Lib.hid (fun W => wnonce_yes n g W hn hg), ⟨fun h => absurd h (by decide), fun _ => ⟨rfl, by simp⟩⟩⟩

end Go.Proofs.YtcecjoodlmpgnaaGreat
/- The walk of SealOpens. -/
namespace Go.Proofs.YtcecjoodlmpgnaaGreat
open Go.ChangeShapes Go.WideShapes Go.ChangeAt Go.RowKit Go.Joins Go.Deep


set_option maxRecDepth 100000 in
set_option maxHeartbeats 8000000 in
theorem sopens_place (k0 s0 k s : List UInt8) (kind a : Int) (l : Nat) (w : World)
    (HC1 : Hid (∀ W, Calls Tryz.prog 5 #[.string ⟨k0.toArray⟩] W fun e w' => e = .returned (.string ⟨k.toArray⟩) ∧ W = w'))
    (HC2 : Hid (∀ W, Calls Tryz.prog 5 #[.string ⟨s0.toArray⟩] W fun e w' => e = .returned (.string ⟨s.toArray⟩) ∧ W = w'))
    (HO : Hid (∀ W, Calls Tryz.prog 13 #[.string ⟨k.toArray⟩, .int .i64 kind, .int .i64 a, .int .u64 (l : Int), .string ⟨s.toArray⟩] W fun e w' => e = .returned (.tuple #[.int .u64 0, .string ⟨#[]⟩, .int .i64 1]) ∧ Below W.heap.size W w'))
    (HP : Hid (∀ W, Calls Tryz.prog 10 #[.int .i64 a, .int .i64 kind] W fun e w' => e = .returned (.bool false) ∧ W = w'))
    :
    Calls Tryz.prog 4 #[.string ⟨k0.toArray⟩, .int .i64 kind, .int .i64 a, .int .u64 (l : Int), .string ⟨s0.toArray⟩] w fun e w' => e = .returned (.bool true) ∧ Below w.heap.size w w' := by
  have HL := Lib.hid walive_any
  all_goals
    go_enter Tryz.func4, Tryz.ntmps4
    go_wp2_with fail
    refine (HC1.out _).mono ?_
    rintro e w1 ⟨rfl, rfl⟩
    go_wp2_with fail
    refine (HC2.out _).mono ?_
    rintro e w2 ⟨rfl, rfl⟩
    go_wp2_with fail
    refine (HO.out _).mono ?_
    rintro e w3 ⟨rfl, hb3⟩
    go_wp2_with fail
    refine (HP.out _).mono ?_
    rintro e w4 ⟨rfl, rfl⟩
    go_wp2_with fail
    refine (HL.out _).mono ?_
    rintro e w5 ⟨rfl, hb5⟩
    have hb5 := bt hb3 hb5
    clear hb3
    go_wp2_with fail
    go_ret
    exact ⟨rfl, hb5⟩

set_option maxRecDepth 100000 in
set_option maxHeartbeats 8000000 in
theorem sopens_key (k0 s0 k s : List UInt8) (kind a : Int) (l : Nat) (w : World)
    (HC1 : Hid (∀ W, Calls Tryz.prog 5 #[.string ⟨k0.toArray⟩] W fun e w' => e = .returned (.string ⟨k.toArray⟩) ∧ W = w'))
    (HC2 : Hid (∀ W, Calls Tryz.prog 5 #[.string ⟨s0.toArray⟩] W fun e w' => e = .returned (.string ⟨s.toArray⟩) ∧ W = w'))
    (HO : Hid (∀ W, Calls Tryz.prog 13 #[.string ⟨k.toArray⟩, .int .i64 kind, .int .i64 a, .int .u64 (l : Int), .string ⟨s.toArray⟩] W fun e w' => e = .returned (.tuple #[.int .u64 0, .string ⟨#[]⟩, .int .i64 4]) ∧ Below W.heap.size W w'))
    (HP : Hid (∀ W, Calls Tryz.prog 10 #[.int .i64 a, .int .i64 kind] W fun e w' => e = .returned (.bool true) ∧ W = w'))
    (HK : Hid (∀ W, Calls Tryz.prog 11 #[.string ⟨k.toArray⟩] W fun e w' => e = .returned (.bool false) ∧ W = w'))
    :
    Calls Tryz.prog 4 #[.string ⟨k0.toArray⟩, .int .i64 kind, .int .i64 a, .int .u64 (l : Int), .string ⟨s0.toArray⟩] w fun e w' => e = .returned (.bool true) ∧ Below w.heap.size w w' := by
  have HL := Lib.hid walive_any
  all_goals
    go_enter Tryz.func4, Tryz.ntmps4
    go_wp2_with fail
    refine (HC1.out _).mono ?_
    rintro e w1 ⟨rfl, rfl⟩
    go_wp2_with fail
    refine (HC2.out _).mono ?_
    rintro e w2 ⟨rfl, rfl⟩
    go_wp2_with fail
    refine (HO.out _).mono ?_
    rintro e w3 ⟨rfl, hb3⟩
    go_wp2_with fail
    refine (HP.out _).mono ?_
    rintro e w4 ⟨rfl, rfl⟩
    go_wp2_with fail
    refine (HK.out _).mono ?_
    rintro e w6 ⟨rfl, rfl⟩
    go_wp2_with fail
    refine (HL.out _).mono ?_
    rintro e w5 ⟨rfl, hb5⟩
    have hb5 := bt hb3 hb5
    clear hb3
    go_wp2_with fail
    go_ret
    exact ⟨rfl, hb5⟩

set_option maxRecDepth 100000 in
set_option maxHeartbeats 8000000 in
theorem sopens_none (k0 s0 k s : List UInt8) (kind a : Int) (l : Nat) (w : World)
    (HC1 : Hid (∀ W, Calls Tryz.prog 5 #[.string ⟨k0.toArray⟩] W fun e w' => e = .returned (.string ⟨k.toArray⟩) ∧ W = w'))
    (HC2 : Hid (∀ W, Calls Tryz.prog 5 #[.string ⟨s0.toArray⟩] W fun e w' => e = .returned (.string ⟨s.toArray⟩) ∧ W = w'))
    (HO : Hid (∀ W, Calls Tryz.prog 13 #[.string ⟨k.toArray⟩, .int .i64 kind, .int .i64 a, .int .u64 (l : Int), .string ⟨s.toArray⟩] W fun e w' => e = .returned (.tuple #[.int .u64 0, .string ⟨#[]⟩, .int .i64 5]) ∧ Below W.heap.size W w'))
    (HP : Hid (∀ W, Calls Tryz.prog 10 #[.int .i64 a, .int .i64 kind] W fun e w' => e = .returned (.bool true) ∧ W = w'))
    (HK : Hid (∀ W, Calls Tryz.prog 11 #[.string ⟨k.toArray⟩] W fun e w' => e = .returned (.bool true) ∧ W = w'))
    (HR : Hid (∀ W, Calls Tryz.prog 14 #[.string ⟨k.toArray⟩, .int .i64 kind, .int .i64 a, .int .u64 (l : Int), .string ⟨s.toArray⟩] W fun e w' => e = .returned (.agg #[.int .u64 0, .string ⟨#[]⟩, .bool false]) ∧ Below W.heap.size W w'))
    :
    Calls Tryz.prog 4 #[.string ⟨k0.toArray⟩, .int .i64 kind, .int .i64 a, .int .u64 (l : Int), .string ⟨s0.toArray⟩] w fun e w' => e = .returned (.bool true) ∧ Below w.heap.size w w' := by
  have HL := Lib.hid walive_any
  all_goals
    go_enter Tryz.func4, Tryz.ntmps4
    go_wp2_with fail
    refine (HC1.out _).mono ?_
    rintro e w1 ⟨rfl, rfl⟩
    go_wp2_with fail
    refine (HC2.out _).mono ?_
    rintro e w2 ⟨rfl, rfl⟩
    go_wp2_with fail
    refine (HO.out _).mono ?_
    rintro e w3 ⟨rfl, hb3⟩
    go_wp2_with fail
    refine (HP.out _).mono ?_
    rintro e w4 ⟨rfl, rfl⟩
    go_wp2_with fail
    refine (HK.out _).mono ?_
    rintro e w6 ⟨rfl, rfl⟩
    go_wp2_with fail
    refine (HR.out _).mono ?_
    rintro e w7 ⟨rfl, hb7⟩
    have hb7 := bt hb3 hb7
    clear hb3
    have B7 := Lib.hid (Blk.new w7 37 #[.int .u64 0, .string ⟨#[]⟩, .bool false])
    have hb8 := Lib.hid (ba hb7 (.cells #[.int .u64 0, .string ⟨#[]⟩, .bool false] 37))
    go_wp2_with fail
    generalize World.alloc w7 _ = w8 at B7 hb8 ⊢
    refine (HL.out _).mono ?_
    rintro e w9 ⟨rfl, hb9⟩
    have B9 := B7.out.below hb9
    have q0 := B9.cell 0
    have q1 := B9.cell 1
    have q2 := B9.cell 2
    have hb9 := bt hb8.out hb9
    clear B7 B9 hb7 hb8
    go_wp2_with fail
    go_ret
    exact ⟨rfl, hb9⟩

set_option maxRecDepth 100000 in
set_option maxHeartbeats 8000000 in
theorem sopens_some (k0 s0 k s t : List UInt8) (kind a : Int) (l v : Nat) (w : World)
    (HC1 : Hid (∀ W, Calls Tryz.prog 5 #[.string ⟨k0.toArray⟩] W fun e w' => e = .returned (.string ⟨k.toArray⟩) ∧ W = w'))
    (HC2 : Hid (∀ W, Calls Tryz.prog 5 #[.string ⟨s0.toArray⟩] W fun e w' => e = .returned (.string ⟨s.toArray⟩) ∧ W = w'))
    (HO : Hid (∀ W, Calls Tryz.prog 13 #[.string ⟨k.toArray⟩, .int .i64 kind, .int .i64 a, .int .u64 (l : Int), .string ⟨s.toArray⟩] W fun e w' => e = .returned (.tuple #[.int .u64 (v : Int), .string ⟨t.toArray⟩, .int .i64 0]) ∧ Below W.heap.size W w'))
    (HP : Hid (∀ W, Calls Tryz.prog 10 #[.int .i64 a, .int .i64 kind] W fun e w' => e = .returned (.bool true) ∧ W = w'))
    (HK : Hid (∀ W, Calls Tryz.prog 11 #[.string ⟨k.toArray⟩] W fun e w' => e = .returned (.bool true) ∧ W = w'))
    (HR : Hid (∀ W, Calls Tryz.prog 14 #[.string ⟨k.toArray⟩, .int .i64 kind, .int .i64 a, .int .u64 (l : Int), .string ⟨s.toArray⟩] W fun e w' => e = .returned (.agg #[.int .u64 (v : Int), .string ⟨t.toArray⟩, .bool true]) ∧ Below W.heap.size W w'))
    :
    Calls Tryz.prog 4 #[.string ⟨k0.toArray⟩, .int .i64 kind, .int .i64 a, .int .u64 (l : Int), .string ⟨s0.toArray⟩] w fun e w' => e = .returned (.bool true) ∧ Below w.heap.size w w' := by
  have HL := Lib.hid walive_any
  have P : ((v : Int) == 0) = false ∨ (((v : Int) == 0) = true ∧ t = []) ∨ (((v : Int) == 0) = true ∧ ∃ x r, t = x :: r) := by
    cases (v : Int) == 0
    · exact .inl rfl
    · cases t with
      | nil => exact .inr (.inl ⟨rfl, rfl⟩)
      | cons x r => exact .inr (.inr ⟨rfl, x, r, rfl⟩)
  rcases P with p1 | ⟨p1, rfl⟩ | ⟨p1, x, r, rfl⟩
  · go_enter Tryz.func4, Tryz.ntmps4
    go_wp2_with fail
    refine (HC1.out _).mono ?_
    rintro e w1 ⟨rfl, rfl⟩
    go_wp2_with fail
    refine (HC2.out _).mono ?_
    rintro e w2 ⟨rfl, rfl⟩
    go_wp2_with fail
    refine (HO.out _).mono ?_
    rintro e w3 ⟨rfl, hb3⟩
    go_wp2_with fail
    refine (HP.out _).mono ?_
    rintro e w4 ⟨rfl, rfl⟩
    go_wp2_with fail
    refine (HK.out _).mono ?_
    rintro e w6 ⟨rfl, rfl⟩
    go_wp2_with fail
    refine (HR.out _).mono ?_
    rintro e w7 ⟨rfl, hb7⟩
    have hb7 := bt hb3 hb7
    clear hb3
    have B7 := Lib.hid (Blk.new w7 37 #[.int .u64 (v : Int), .string ⟨t.toArray⟩, .bool true])
    have hb8 := Lib.hid (ba hb7 (.cells #[.int .u64 (v : Int), .string ⟨t.toArray⟩, .bool true] 37))
    go_wp2_with fail
    generalize World.alloc w7 _ = w8 at B7 hb8 ⊢
    refine (HL.out _).mono ?_
    rintro e w9 ⟨rfl, hb9⟩
    have B9 := B7.out.below hb9
    have q0 := B9.cell 0
    have q1 := B9.cell 1
    have q2 := B9.cell 2
    have hb9 := bt hb8.out hb9
    clear B7 B9 hb7 hb8
    go_wp2_with fail
    go_ret
    exact ⟨rfl, hb9⟩
  · go_enter Tryz.func4, Tryz.ntmps4
    go_wp2_with fail
    refine (HC1.out _).mono ?_
    rintro e w1 ⟨rfl, rfl⟩
    go_wp2_with fail
    refine (HC2.out _).mono ?_
    rintro e w2 ⟨rfl, rfl⟩
    go_wp2_with fail
    refine (HO.out _).mono ?_
    rintro e w3 ⟨rfl, hb3⟩
    go_wp2_with fail
    refine (HP.out _).mono ?_
    rintro e w4 ⟨rfl, rfl⟩
    go_wp2_with fail
    refine (HK.out _).mono ?_
    rintro e w6 ⟨rfl, rfl⟩
    go_wp2_with fail
    refine (HR.out _).mono ?_
    rintro e w7 ⟨rfl, hb7⟩
    have hb7 := bt hb3 hb7
    clear hb3
    have B7 := Lib.hid (Blk.new w7 37 #[.int .u64 (v : Int), .string ⟨([] : List UInt8).toArray⟩, .bool true])
    have hb8 := Lib.hid (ba hb7 (.cells #[.int .u64 (v : Int), .string ⟨([] : List UInt8).toArray⟩, .bool true] 37))
    go_wp2_with fail
    generalize World.alloc w7 _ = w8 at B7 hb8 ⊢
    refine (HL.out _).mono ?_
    rintro e w9 ⟨rfl, hb9⟩
    have B9 := B7.out.below hb9
    have q0 := B9.cell 0
    have q1 := B9.cell 1
    have q2 := B9.cell 2
    have hb9 := bt hb8.out hb9
    clear B7 B9 hb7 hb8
    go_wp2_with fail
    go_ret
    exact ⟨rfl, hb9⟩
  · go_enter Tryz.func4, Tryz.ntmps4
    go_wp2_with fail
    refine (HC1.out _).mono ?_
    rintro e w1 ⟨rfl, rfl⟩
    go_wp2_with fail
    refine (HC2.out _).mono ?_
    rintro e w2 ⟨rfl, rfl⟩
    go_wp2_with fail
    refine (HO.out _).mono ?_
    rintro e w3 ⟨rfl, hb3⟩
    go_wp2_with fail
    refine (HP.out _).mono ?_
    rintro e w4 ⟨rfl, rfl⟩
    go_wp2_with fail
    refine (HK.out _).mono ?_
    rintro e w6 ⟨rfl, rfl⟩
    go_wp2_with fail
    refine (HR.out _).mono ?_
    rintro e w7 ⟨rfl, hb7⟩
    have hb7 := bt hb3 hb7
    clear hb3
    have B7 := Lib.hid (Blk.new w7 37 #[.int .u64 (v : Int), .string ⟨(x :: r).toArray⟩, .bool true])
    have hb8 := Lib.hid (ba hb7 (.cells #[.int .u64 (v : Int), .string ⟨(x :: r).toArray⟩, .bool true] 37))
    go_wp2_with fail
    generalize World.alloc w7 _ = w8 at B7 hb8 ⊢
    refine (HL.out _).mono ?_
    rintro e w9 ⟨rfl, hb9⟩
    have B9 := B7.out.below hb9
    have q0 := B9.cell 0
    have q1 := B9.cell 1
    have q2 := B9.cell 2
    have hb9 := bt hb8.out hb9
    clear B7 B9 hb7 hb8
    go_wp2_with fail
    go_ret
    exact ⟨rfl, hb9⟩
end Go.Proofs.YtcecjoodlmpgnaaGreat
