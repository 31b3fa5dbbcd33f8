/- ShaGoes is true of every text, and leaves it as it was. -/
import Derived.Test.YtdnndmdjnjhpaaaHCut
import Derived.Test.YtdnndmdjnjhpaaaHStart
import Derived.Test.YtdnndmdjnjhpaaaHMixB
import Derived.Test.YtdnndmdjnjhpaaaHMixE
import Derived.Deep.RegionHeld3
namespace Go.Proofs.Ytdnndmdjnjhpaaa
open Go.ChangeShapes Go.WideShapes Go.ChangeAt Go.RowKit Go.Joins Go.Deep

theorem owns_empty {W : World} {g base : Nat} {e : TypeId} {size : Nat} (h : W.heap[g]? = some (.cells #[] e (0, 0))) (hg : base ≤ g) : W.ownsRow base e size (.slice (some ⟨g, 0, none⟩) 0 0) 0 [] :=
  ⟨by simp, .inr ⟨g, 0, #[], rfl, hg, h, Nat.le_refl _, by unfold maxLen; omega, by simp, by simp⟩⟩
theorem blk_news {w : World} {g : Nat} {t : TypeId} {L : List Value} (h : Blk w g t L.toArray) (j : Nat) (u : Value) (hu : L[j]? = some u) : w.cell? ((⟨g, 0, none⟩ : Addr).add j) = some u := by
  rw [Addr.add_mid, Nat.zero_add, h.cell j]
  simpa using hu

set_option maxRecDepth 100000 in
set_option maxHeartbeats 1000000 in
theorem clone_any (g : Nat) (t : TypeId) (L : List Nat) (hl : L.length = 8) (w : World) (hk : Blk w g t (L.map wv).toArray) :
    Calls Try.prog 22 #[.slice (some ⟨g, 0, none⟩) 8 8] w fun e w' => ∃ q c, e = .returned (.slice (some ⟨q, 0, none⟩) 8 c) ∧ w'.ownsRow w.heap.size 25 1 (.slice (some ⟨q, 0, none⟩) 8 c) 8 (L.map wv) ∧ Below w.heap.size w w' := by
  obtain ⟨i1, hi, hz0, hz1, hz2⟩ := info_parts info25
  have hown : (w.alloc (.cells #[] 25)).ownsRow w.heap.size 25 1 (.slice (some ⟨w.heap.size, 0, none⟩) 0 0) 0 [] := owns_empty (heap_alloc_new _ _) (Nat.le_refl _)
  have hc : Hid (∀ j u, (L.map wv)[j]? = some u → (w.alloc (.cells #[] 25)).cell? ((⟨g, 0, none⟩ : Addr).add j) = some u) := Lib.hid fun j u h => blk_news (hk.alloc _) j u h
  have HO := Lib.hid hown
  have hln : (L.map wv).length = 8 * 1 := by rw [List.length_map, hl]
  have hone := words_one L
  clear hk hown
  go_enter Try.func22, Try.ntmps22
  have hq := fun (w : World) => Lib.run_eql_slice_nil (P := Try.prog) w 22 25 (some ⟨g, 0, none⟩) 8 8 0 0 Try.underlying22
  go_wp2_with (at_builtin; refine wpList_append_own _ rfl (.tmp 5) (.tmp 6) 22 rfl w.heap.size 25 i1 (.int .u32 0) 1 4 Try.underlying22 hi hz0 hz1 hz2 rfl (by decide) _ _ _ rfl HO.out ⟨g, 0, none⟩ 8 8 (L.map wv) rfl hln hc.out hone (by unfold maxLen; omega) (by omega) (by simp) ?_; intro v3 w3 hown3 hgrow3 _; obtain ⟨g3, c3, rfl⟩ := ownsRow_succ hown3; have HO3 := Lib.hid hown3; have HG3 := Lib.hid hgrow3; clear hown3 hgrow3)
  go_ret
  refine ⟨_, _, rfl, ?_, (ba (Below.refl _ _) _).grown HG3.out (by simp) (fun r e => (HO.out.lt r e).1)⟩
  simpa using HO3.out

theorem ownsRow_later {W W' : World} {base : Nat} {e : TypeId} {size : Nat} {v : Value} {n : Nat} {xs : List Value} (h : W.ownsRow base e size v n xs) (hb : Below W.heap.size W W') : W'.ownsRow base e size v n xs := by
  obtain ⟨h1, h2⟩ := h
  refine ⟨h1, ?_⟩
  rcases h2 with h2 | ⟨g, cap, cur, hv, hg, hh, r⟩
  · exact Or.inl h2
  · exact Or.inr ⟨g, cap, cur, hv, hg, (hb.block g (Array.getElem?_eq_some_iff.1 hh).1).trans hh, r⟩
/-- Words in a block that holds no bytes. -/
def WB (W : World) (g : Nat) (L : List Nat) : Prop := WR W (some ⟨g, 0, none⟩) L ∧ ∃ cs t, t ≠ 5 ∧ Blk W g t cs
theorem WB.later {w w' : World} {g : Nat} {L : List Nat} (h : WB w g L) (hb : Below w.heap.size w w') : WB w' g L := by
  obtain ⟨h1, cs, t, ht, hk⟩ := h
  exact ⟨h1.later hb, cs, t, ht, hk.below hb⟩
theorem WB.grown {w w' : World} {g : Nat} {L : List Nat} (h : WB w g L) {base n : Nat} {v : Value} {xs : List Value} (ho : w.ownsRow base 5 1 v n xs) (hg : w.grownBy w' v.ownBlock) : WB w' g L := by
  obtain ⟨h1, cs, t, ht, hk⟩ := h
  have hne : some g ≠ v.ownBlock := by
    rcases ho.2 with ⟨rfl, _⟩ | ⟨g', cap, cur, rfl, _, hh, _⟩
    · intro e; cases e
    · intro e
      cases e
      have hk' := hk
      unfold Blk at hk'
      rw [hk'] at hh
      cases hh
      exact ht rfl
  refine ⟨fun j hj => ?_, cs, t, ht, hk.grown hg hne⟩
  obtain ⟨g', off, e, hc⟩ := h1 j hj
  cases e
  exact ⟨g, 0, rfl, (World.cell?_of_block (a := ⟨g, 0 + j, none⟩) (hg.block g hk.lt hne)).trans hc⟩
theorem WB.blk {w : World} {g : Nat} {t : TypeId} {L : List Nat} (h : Blk w g t (L.map wv).toArray) (ht : t ≠ 5) : WB w g L := ⟨WR.blk h, _, t, ht, h⟩
theorem WB.own {W : World} {base g c n : Nat} {L : List Nat} (h : W.ownsRow base 25 1 (.slice (some ⟨g, 0, none⟩) n c) n (L.map wv)) (hl : L.length = n) : WB W g L := by
  refine ⟨own_WR h hl, ?_⟩
  rcases h.2 with ⟨hv, _⟩ | ⟨g', cap, cur, hv, _, hh, _⟩
  · cases hv
  · cases hv
    exact ⟨cur, _, by decide, hh⟩

set_option maxRecDepth 100000 in
set_option maxHeartbeats 4000000 in
theorem goes_any (s : List UInt8) (w : World) (hs : (s.length : Int) ≤ 9223372036854775807) :
    Calls Try.prog 7 #[.string ⟨s.toArray⟩] w fun e w' => e = .returned (.bool true) ∧ Below w.heap.size w w' := by
  obtain ⟨i0, hi, hz0, hz1, hz2⟩ := info_parts info5
  have HA := Lib.hid (cut_any s w hs)
  have hl1 : (s.take 400).length ≤ 400 := by rw [List.length_take]; omega
  generalize s.take 400 = S at HA hl1
  have HP := Lib.hid (fun W => pad_any S W (by omega))
  have HSUM := Lib.hid (fun W => sum_any S W (by omega))
  have hPl := padL_len S
  have hPm := padL_mod S
  have hZl := padZ_lt S.length
  obtain ⟨nb, hnb⟩ : ∃ nb, (padL S).length / 64 = nb := ⟨_, rfl⟩
  have hPn : (padL S).length = 64 * nb := by omega
  have hnb2 : nb ≤ 10 := by omega
  have hsum : sumL S = bytesW (sumN (padL S) nb) := by rw [← hnb]; rfl
  rw [hsum] at HSUM
  generalize padL S = P at HP HSUM hPn
  have hzP := size_of P
  rw [hPn] at hzP
  have HPN := Lib.hid hPn
  obtain ⟨m, hm⟩ : ∃ m, 64 * nb = m := ⟨_, rfl⟩
  rw [hm] at hzP
  have HM := Lib.hid hm
  have HZP := Lib.hid hzP
  clear hs hPl hPm hZl hnb hsum hPn hzP hl1 hm
  go_enter Try.func7, Try.ntmps7
  go_wp2_with fail
  refine HA.out.mono ?_
  rintro e w1 ⟨rfl, rfl⟩
  go_wp2_with fail
  refine (cstart_any _).mono ?_
  rintro e w1 ⟨g, rfl, _, hk1, hb1⟩
  have HK1 := Lib.hid hk1
  clear hk1
  go_wp2_with fail
  refine (clone_any g _ startL rfl _ HK1.out).mono ?_
  rintro e w2 ⟨g2, c2, rfl, hown2, hb2⟩
  have hB2 := bt hb1 hb2
  have R2 : Hid (WB w2 g2 startL) := Lib.hid (WB.own hown2 rfl)
  clear hown2 hb1 hb2 HK1
  go_wp2_with fail
  refine (HP.out _).mono ?_
  rintro e w3 ⟨rfl, hb3⟩
  have hB3 := bt hB2 hb3
  have R3 : Hid (WB w3 g2 startL) := Lib.hid (R2.out.later hb3)
  clear R2 hB2 hb3
  go_wp2_with fail
  go_loopw [3, 5] (fun nv iv wr => ∃ k q g c : Nat, k ≤ nb ∧ iv = .int .i64 (q : Int) ∧ Hid (q = 64 * k) ∧ nv = .slice (some ⟨g, 0, none⟩) 8 c ∧ Hid (WB wr g (sumN P k)) ∧ Below w.heap.size w wr) (fun _ iv _ => 10000 - (intOf iv).toNat)
  case atStart => exact ⟨0, 0, g2, c2, Nat.zero_le _, rfl, Lib.hid rfl, rfl, R3, hB3⟩
  case round =>
    clear R3 hB3
    obtain ⟨k, q, g, c, hk, rfl, HQ, rfl, HR, hb⟩ := hrel
    have hq := HQ.out
    have hz := HZP.out
    by_cases hlt : k < nb
    · have HEX := Lib.hid (extract_block P k)
      have hex := HEX.out
      rw [← hq] at hex
      have hm := HM.out
      have j1 : (q : Int) + 64 ≤ (m : Int) := by omega
      have j2 : q + 64 ≤ m := by omega
      have HB := Lib.hid (mix_any (some ⟨g, 0, none⟩) c (sumN P k) (blockAt P k) wr HR.out.1 (sumN_len P k) (sumN_lt P k) (by rw [blockAt, List.length_take, List.length_drop, HPN.out]; omega))
      have j3 : (q : Int) ≤ 1000 := by omega
      clear hq hm
      go_wp2_with fail
      refine HB.out.mono ?_
      rintro e w4 ⟨g4, rfl, _, hk4, hb4⟩
      have R4 : Hid (WB w4 g4 (sumN P (k + 1))) := Lib.hid (WB.blk hk4 (by decide))
      have hB4 := bt hb hb4
      clear hk4 hb4
      go_wp2_with fail
      exact ⟨⟨k + 1, q + 64, g4, 8, by omega, by go_num, Lib.hid (by have := HQ.out; omega), rfl, R4, hB4⟩, by simp [intOf]; omega⟩
    · have hkn : k = nb := by omega
      rw [hkn] at HR
      have hm := HM.out
      have j1 : (m : Int) < (q : Int) + 64 := by omega
      have j3 : (q : Int) ≤ 1000 := by omega
      have hLl := sumN_len P nb
      have hLt := sumN_lt P nb
      generalize sumN P nb = L at HR hLl hLt HSUM
      have HLL := Lib.hid hLl
      have HLT := Lib.hid hLt
      clear hkn hq hLl hLt hm
      go_wp2_with fail
      clear hz j1
      go_loopw [8, 39] (fun ov iv wr => ∃ (k : Nat) (A : Option Addr) (cap : Nat), k ≤ 8 ∧ iv = .int .i64 k ∧ ov = .slice A (4 * k) cap ∧ wr.ownsRow w.heap.size 5 1 (.slice A (4 * k) cap) (4 * k) (Lib.byteCells (bytesW (L.take k))) ∧ Hid (WB wr g L) ∧ Below w.heap.size w wr) (fun _ iv _ => 8 - (intOf iv).toNat)
      case atStart => exact ⟨0, none, 0, Nat.zero_le _, rfl, rfl, World.ownsRow_nil _ _ _ _, HR, hb⟩
      case round =>
        clear HR hb
        obtain ⟨k, A, cap, hk, rfl, rfl, hown, HR, hb⟩ := hrel
        by_cases hlt2 : k < 8
        · obtain ⟨g', off', hA', hcell⟩ := HR.out.1 k (by rw [HLL.out]; exact hlt2)
          cases hA'
          rw [Nat.zero_add] at hcell
          have HT := Lib.hid (bytesW_take L k (by rw [HLL.out]; exact hlt2))
          have hx1 := wn_lt HLT.out k
          generalize wn L k = x at hcell HT hx1
          rw [highB_four] at HT
          obtain ⟨b3, h3⟩ : ∃ b3, UInt8.ofNat (x / 16777216 % 256) = b3 := ⟨_, rfl⟩
          obtain ⟨b2, h2⟩ : ∃ b2, UInt8.ofNat (x / 65536 % 256) = b2 := ⟨_, rfl⟩
          obtain ⟨b1, h1⟩ : ∃ b1, UInt8.ofNat (x / 256 % 256) = b1 := ⟨_, rfl⟩
          obtain ⟨b0, h0⟩ : ∃ b0, UInt8.ofNat (x % 256) = b0 := ⟨_, rfl⟩
          rw [h3, h2, h1, h0] at HT
          have e3 : (x : Int) / 16777216 = (b3.toNat : Int) := by rw [← h3]; simp; omega
          have e2 : ((x : Int) / 65536) % 256 = (b2.toNat : Int) := by rw [← h2]; simp
          have e1 : ((x : Int) / 256) % 256 = (b1.toNat : Int) := by rw [← h1]; simp
          have e0 : (x : Int) % 256 = (b0.toNat : Int) := by rw [← h0]; simp
          have z := hb.size
          have HO := Lib.hid hown
          have hnews := news_new wr [.int .u8 (b3.toNat : Int), .int .u8 (b2.toNat : Int), .int .u8 (b1.toNat : Int), .int .u8 (b0.toNat : Int)] 5
          clear h3 h2 h1 h0 hown
          go_wp2_with (at_builtin; refine wpList_append_own _ rfl _ _ 37 rfl w.heap.size 5 i0 (.int .u8 0) 1 1 Try.underlying37 hi hz0 hz1 hz2 rfl (by decide) _ _ _ rfl (own_alloc HO.out _) ⟨wr.heap.size, 0, none⟩ 4 4 [.int .u8 (b3.toNat : Int), .int .u8 (b2.toNat : Int), .int .u8 (b1.toNat : Int), .int .u8 (b0.toNat : Int)] rfl rfl hnews (by simp [Value.oneCell']) (by unfold maxLen; omega) (by omega) (by simp; omega) ?_; intro v' w1 hown' hgrow _; obtain ⟨g1, c1, rfl⟩ := ownsRow_succ hown'; have HO1 := Lib.hid hown'; clear hown' hnews)
          have hb1 : Below w.heap.size w w1 := (hb.alloc hb.size _).grown hgrow (by simp; omega) (fun r e => (HO.out.lt r e).1)
          have HO2 : w1.ownsRow w.heap.size 5 1 (.slice (some ⟨g1, 0, none⟩) (4 * (k + 1)) c1) (4 * (k + 1)) (Lib.byteCells (bytesW (L.take (k + 1)))) := by
            rw [HT.out, Lib.byteCells_append]
            exact HO1.out
          have HR1 : Hid (WB w1 g L) := Lib.hid ((HR.out.later (ba (Below.refl _ _) _)).grown (own_alloc HO.out _) hgrow)
          exact ⟨⟨k + 1, some ⟨g1, 0, none⟩, c1, by omega, by go_num, rfl, HO2, HR1, hb1⟩, by simp [intOf]; omega⟩
        · have hk8 : k = 8 := by omega
          rw [hk8] at hown ⊢
          have htk : L.take 8 = L := List.take_of_length_le (by rw [HLL.out]; exact Nat.le_refl _)
          rw [htk] at hown
          have hbl : (bytesW L).length = 32 := by rw [bytesW_len, HLL.out]
          generalize bytesW L = O at hown hbl HSUM
          obtain ⟨gA, cA, hAA, hcc⟩ : ∃ gA cA, A = some ⟨gA, 0, none⟩ ∧ cap = cA := by
            rcases hown.2 with ⟨_, h0⟩ | ⟨gA, cA, cur, hv, _⟩
            · omega
            · cases hv
              exact ⟨gA, cap, rfl, rfl⟩
          subst hAA hcc
          have hown2 : wr.ownsRow w.heap.size 5 1 (.slice (some ⟨gA, 0, none⟩) 32 cap) 32 (Lib.byteCells O) := hown
          have hcv0 : (convert 37 9 (.slice (some ⟨gA, 0, none⟩) 32 cap)).run Try.prog wr.drew = .ok (.string ⟨O.toArray⟩) wr.drew := own_text (W := wr.drew) hown2 hbl
          have HO : Hid (wr.drew.ownsRow w.heap.size 5 1 (.slice (some ⟨gA, 0, none⟩) 32 cap) 32 (Lib.byteCells O)) := Lib.hid hown2
          have HBL := Lib.hid hbl
          clear hk8 htk hown hown2 hbl HR
          change Code.wp _ _ _ _ _
          go_wp2_with fail
          go_region_held3 (fun W => (convert 37 9 (.slice (some ⟨gA, 0, none⟩) 32 cap)).run Try.prog W = .ok (.string ⟨O.toArray⟩) W) (first | assumption | exact hcv0) (first | (go_at_call 10; refine (alive_any _).mono ?_; rintro e w4 ⟨rfl, hb4⟩; have hcv4 : (convert 37 9 (.slice (some ⟨gA, 0, none⟩) 32 cap)).run Try.prog w4 = .ok (.string ⟨O.toArray⟩) w4 := own_text (ownsRow_later HO.out hb4) HBL.out) | (go_at_call 19; refine (HSUM.out _).mono ?_; rintro e w5 ⟨rfl, hb5⟩; have hcv5 : (convert 37 9 (.slice (some ⟨gA, 0, none⟩) 32 cap)).run Try.prog w5 = .ok (.string ⟨O.toArray⟩) w5 := own_text (ownsRow_later (ownsRow_later HO.out hb4) hb5) HBL.out))
          have hB5 : Below w.heap.size w w5 := bt (hb.drew.trans (hb4.mono hb.size)) hb5
          go_wp2_with fail
          go_ret
          exact ⟨rfl, hB5⟩

set_option maxHeartbeats 1000000 in
set_option maxRecDepth 100000 in
theorem goes_lifted (os : Os) (started : os.Started) (H : Type) (enc : TypeId × Value → H) :
    ReturnsInHanded {} Try.checked os 7 .any (Rows.shaGoesSpec.pre6 enc Try.prog Try.f7 Rows.shaGoesRow.domain false) (Rows.shaGoesSpec.post enc Try.prog Try.f7 false true false false) := by
  refine returnsInHanded_of_change (C := Try.checked) Try.own started (by kernel_rfl) Try.func7
    (ChangeSpec.witness6 (enc := enc) (C := Try.checked) false ⟨#[], #[.string ⟨#[]⟩], []⟩ 8 (by kernel_rfl) (by kernel_rfl) (by kernel_rfl) (by kernel_rfl)) ?_
  intro W base args ds gs before hval0 hW _ _
  have hval : ∀ (j : Nat) t v, Try.f7.params[j]? = some t → args[j]? = some v → Value.okWide Try.prog W .any base t v := hval0
  have hW' := hW
  obtain ⟨p, q, hA0, hV, rfl, _, _⟩ := hW
  have hA : DataW.TrodAll enc Try.prog W 0 (fun _ => true) true Try.f7.params.toList args.toList ds p := hA0
  rw [Try.params7] at hA hval
  obtain ⟨v0, d0, rfl, rfl, h0⟩ := trodAll_one hA
  obtain ⟨rfl, rfl⟩ := trodVars_none hV
  obtain ⟨s0, rfl, rfl, rfl, ws0⟩ := ChangeMaps.open_string Try.underlying9 (hval 0 9 v0 rfl rfl) h0
  clear hA0 hval0
  simp only [List.append_nil] at hW'
  obtain ⟨l0, rfl, hl0⟩ := str_list s0
  have ws0' := ws0
  unfold maxLen at ws0'
  refine (goes_any l0 W (by omega)).mono fun e W' ⟨he, hn⟩ => ?_
  subst he
  refine ⟨_, rfl, ?_⟩
  refine ⟨_, _, _, [], [], [], hW', ?_, trodAll_mk1 (ChangeMaps.shut_string Try.underlying9 ws0), rfl, hn.frame _, fun h => by cases h⟩
  exact trodAll_mk1 (shut_bool Try.underlying4 true)

/-- ShaGoes, for every input. -/
theorem goes_holds : Rows.ShaGoesSaid :=
  OpenClaim.holds_of_wide 7 Try.f7 rfl rfl rfl rfl rfl rfl rfl ⟨rfl, rfl, rfl, rfl, rfl⟩ rfl rfl rfl rfl rfl (by kernel_rfl) Try.func7 (by kernel_rfl)
    (of_decide_eq_true (by kernel_rfl)) (by unfold Func.isWrapper; rw [if_neg (of_decide_eq_false (by kernel_rfl))]; exact ⟨rfl, rfl⟩)
    (fun os started H enc _ => goes_lifted os started H enc)
#print axioms goes_holds
end Go.Proofs.Ytdnndmdjnjhpaaa
