/- Texts of this seat, one behind the other: IRefH, IRHops, ILawF. -/
import Derived.BigQuiet
import Derived.Test.YtegojdblaanclaaDoorQ02
import Derived.Test.YtegojdblaanclaaDoorQ03
import Derived.Test.YtegojdblaanclaaDoorQ12
import Derived.Test.YtegojdblaanclaaDoorQ13
import Derived.Test.YtegojdblaanclaaDoorQ14
/- The contracts of the reference's Keys, next, Hops and HopsSame. -/
namespace Go.Proofs.YtegojdblaanclaaDoor
open Go.RowKit

set_option maxRecDepth 100000 in
set_option maxHeartbeats 4000000 in
theorem irkeys_any (A : Option Addr) (n c : Nat) (L : List ItL) (w : World) (hA : IR w A L) (hl : L.length = n) (hn : n ≤ 65536) :
    Calls Tryd.prog 31 #[.slice A n c] w fun e w' => ∃ g c', e = .returned (.slice (some ⟨g, 0, none⟩) n c') ∧ w'.ownsRow w.heap.size 23 1 (.slice (some ⟨g, 0, none⟩) n c') n ((ikeys L).map vu) ∧ Below w.heap.size w w' := by
  obtain ⟨ti, hti, hz0, hz1, hz2⟩ := info_parts infoVU
  have HR := Lib.hid (fun j W (hj : j < n) (hb : Below w.heap.size w W) => (hA.later hb) j (by omega))
  have HTl : Hid ((ikeys L).length = n) := Lib.hid (by rw [ikeys_len, hl])
  have HX : Hid (∀ j, j < n → (ikeys L).getD j 0 = (L.getD j (0, [])).1) := Lib.hid (fun j hj => ikeys_at L j (by omega))
  clear hA hl
  generalize ikeys L = T at *
  have HTS : Hid (∀ j, j < n → (T.take (j + 1)).map vu = (T.take j).map vu ++ [vu (T.getD j 0)]) := Lib.hid (fun j hj => by
    rw [List.take_add_one, List.map_append]
    have : j < T.length := by rw [HTl.out]; exact hj
    simp [List.getD, this])
  have HO : Hid ((w.alloc (.cells #[] 23)).ownsRow w.heap.size 23 1 (.slice (some ⟨w.heap.size, 0, none⟩) 0 0) 0 ((T.take 0).map vu)) := Lib.hid (own_nil (Blk.new w _ _) (Nat.le_refl _))
  have HB : Hid (Below w.heap.size w (w.alloc (.cells #[] 23))) := Lib.hid (ba (Below.refl _ _) _)
  go_enter Tryd.func31, Tryd.ntmps31
  go_upto_region 2 with fail
  generalize w.alloc (.cells #[] 23) = w1 at *
  go_wp2_with fail
  go_loopw [3, 9] (fun ov iv wr => ∃ (j g5 c5 : Nat), j ≤ n ∧ iv = .int .i64 (j : Int) ∧ ov = .slice (some ⟨g5, 0, none⟩) j c5 ∧ Hid (wr.ownsRow w.heap.size 23 1 (.slice (some ⟨g5, 0, none⟩) j c5) j ((T.take j).map vu)) ∧ Hid (Below w.heap.size w wr)) (fun _ i _ => n - (intOf i).toNat)
  case atStart => exact ⟨0, w.heap.size, 0, Nat.zero_le _, rfl, rfl, HO, HB⟩
  case round =>
    clear HB HO
    obtain ⟨j, g5, c5, hj, rfl, rfl, HO, HB⟩ := hrel
    by_cases hlt : j < n
    · obtain ⟨g, off, rfl, c0, c1⟩ := HR.out j wr hlt HB.out
      have HTj := Lib.hid (HTS.out j hlt)
      rw [HX.out j hlt] at HTj
      generalize L.getD j (0, []) = x at c0 c1 HTj
      obtain ⟨xk, xs⟩ := x
      simp only at c0 c1 HTj
      have i0 : (0 : Int) ≤ (j : Int) := by omega
      have i1 : (j : Int) < (n : Int) := by omega
      have hO1 := HO.out.alloc (.cells #[.int .u64 (xk : Int), sv xs] 25)
      have hB1 := ba HB.out (.cells #[.int .u64 (xk : Int), sv xs] 25)
      have hownA := hO1.alloc (.cells #[vu xk] 23)
      have hnews := World.news_of_block (heap_alloc_new (wr.alloc (.cells #[.int .u64 (xk : Int), sv xs] 25)) (.cells #[vu xk] 23))
      have B3 := Lib.hid (ba hB1 (.cells #[vu xk] 23))
      rw [World.size_alloc] at hnews
      clear hO1 hB1
      go_wp2_with (at_builtin; refine wpList_append_own _ rfl _ _ 54 rfl w.heap.size 23 ti _ 1 8 Tryd.underlying54 hti hz0 hz1 hz2 rfl (by decide) _ _ _ rfl hownA ⟨wr.heap.size + 1, 0, none⟩ 1 1 [vu xk] rfl rfl hnews (by simp [Value.oneCell']) (by unfold maxLen; omega) (by omega) (by have := B3.out.size; exact this) ?_; intro v4 w5 hown5 hgrow5 _; obtain ⟨g6, c6, rfl⟩ := ownsRow_succ hown5)
      have B5 := Lib.hid (B3.out.grown hgrow5 B3.out.size (fun k e => by have := (hownA.lt k e).1; omega))
      rw [← HTj.out] at hown5
      have W5 := Lib.hid hown5
      clear hown5 hgrow5 hnews hownA
      go_wp2_with fail
      exact ⟨⟨j + 1, g6, c6, by omega, by go_num, rfl, W5, B5⟩, by simp [intOf]; omega⟩
    · obtain rfl : j = n := by omega
      have HTA : Hid (T.take j = T) := Lib.hid (by rw [← HTl.out, List.take_length])
      rw [HTA.out] at HO
      go_wp2
      go_ret
      exact ⟨_, _, rfl, HO.out, HB.out⟩

/-- The first item from a place on that is above a level; how many there are, if there is none. -/
def INx (H : List Nat) (lev b i : Nat) : Prop := b ≤ i ∧ i ≤ H.length ∧ (∀ j, b ≤ j → j < i → ¬ lev < H.getD j 0) ∧ (i < H.length → lev < H.getD i 0)
theorem inx_is (H : List Nat) (lev : Nat) : ∀ d b, b + d = H.length → ∃ i, INx H lev b i := by
  intro d
  induction d with
  | zero => intro b hb; exact ⟨b, Nat.le_refl _, by omega, fun j h1 h2 => by omega, fun h => by omega⟩
  | succ d ih =>
    intro b hb
    by_cases h : lev < H.getD b 0
    · exact ⟨b, Nat.le_refl _, by omega, fun j h1 h2 => by omega, fun _ => h⟩
    · obtain ⟨i, h1, h2, h3, h4⟩ := ih (b + 1) (by omega)
      refine ⟨i, by omega, h2, fun j h5 h6 => ?_, h4⟩
      rcases Nat.lt_or_ge b j with h7 | h7
      · exact h3 j h7 h6
      · obtain rfl : j = b := by omega
        exact h

set_option maxRecDepth 100000 in
set_option maxHeartbeats 2000000 in
theorem inext_any (A : Option Addr) (n c lev b i : Nat) (H : List Nat) (w : World) (hA : VR vi w A H) (hl : H.length = n) (hi : INx H lev b i) (hn : n ≤ 1024) :
    Calls Tryd.prog 32 #[.slice A n c, .int .i64 ((b : Int) - 1), .int .i64 (lev : Int)] w fun e w' => e = .returned (.int .i64 (i : Int)) ∧ w = w' := by
  obtain ⟨h1, h2, h3, h4⟩ := hi
  have HR := Lib.hid (fun j (hj : j < n) => hA j (by omega))
  have HQ := Lib.hid h3
  have HY : Hid (i < n → lev < H.getD i 0) := Lib.hid fun h => h4 (by omega)
  have h5 : i ≤ n := by omega
  have h6 : (b : Int) - 1 + 1 = (b : Int) := by omega
  have h7 : IntKind.i64.wrap ((b : Int) - 1 + 1) = (b : Int) := by rw [IntKind.wrap_i64]; omega
  clear hA hl h3 h4 h2
  go_enter Tryd.func32, Tryd.ntmps32
  go_wp2_with fail
  go_loopw [7] (fun iv wr => ∃ j : Nat, b ≤ j ∧ j ≤ i ∧ iv = .int .i64 (j : Int) ∧ w = wr) (fun v _ => i - (intOf v).toNat)
  case atStart => exact ⟨b, Nat.le_refl _, h1, by first | rfl | (go_num; done) | (simp; done), rfl⟩
  case round =>
    obtain ⟨j, hbj, hji, rfl, rfl⟩ := hrel
    by_cases hlt : j < n
    · obtain ⟨g, off, rfl, c0⟩ := HR.out j hlt
      have i0 : (0 : Int) ≤ (j : Int) := by omega
      have i1 : (j : Int) < (n : Int) := by omega
      by_cases hji2 : j < i
      · have hx := HQ.out j hbj hji2
        have hx1 : ¬ (lev : Int) < ((H.getD j 0 : Nat) : Int) := by omega
        generalize H.getD j 0 = x at c0 hx1
        clear hx
        go_wp2_with fail
        exact ⟨⟨j + 1, by omega, by omega, by go_num, trivial⟩, by simp [intOf]; omega⟩
      · obtain rfl : j = i := by omega
        have hx := HY.out hlt
        have hx1 : (lev : Int) < ((H.getD j 0 : Nat) : Int) := by omega
        generalize H.getD j 0 = x at c0 hx1
        clear hx
        go_wp2_with fail
        go_ret
        exact ⟨rfl, rfl⟩
    · obtain rfl : j = n := by omega
      obtain rfl : j = i := by omega
      go_wp2
      go_ret
      exact ⟨rfl, rfl⟩

set_option maxRecDepth 100000 in
set_option maxHeartbeats 4000000 in
theorem ihopsame_any (A B : Option Addr) (c d n m : Nat) (L M : List HopL) (w : World) (hA : OR w A L) (hB : OR w B M) (hl : L.length = n) (hm : M.length = m) (hn : n ≤ 65536) (hn2 : m ≤ 65536) :
    Calls Tryd.prog 20 #[.slice A n c, .slice B m d] w fun e w' => e = .returned (.bool (decide (L = M))) ∧ Below w.heap.size w w' := by
  have HA := Lib.hid hA
  have HB := Lib.hid hB
  have HL := Lib.hid hl
  have HM := Lib.hid hm
  clear hA hB hl hm
  by_cases hnm : n = m
  · subst hnm
    clear hn2
    go_enter Tryd.func20, Tryd.ntmps20
    go_wp2_with fail
    go_loopw [13] (fun iv wr => ∃ k : Nat, k ≤ n ∧ iv = .int .i64 k ∧ Hid (∀ j, j < k → L.getD j (0, 0) = M.getD j (0, 0)) ∧ Below w.heap.size w wr) (fun i _ => n - (intOf i).toNat)
    case atStart => exact ⟨0, Nat.zero_le _, rfl, Lib.hid (fun j hj => absurd hj (Nat.not_lt_zero j)), Below.refl _ _⟩
    case round =>
      obtain ⟨k, hk, rfl, HE, hb⟩ := hrel
      by_cases hlt : k < n
      · obtain ⟨g, off, rfl, p0, p1⟩ := (HA.out.later hb) k (by rw [HL.out]; exact hlt)
        obtain ⟨g', off', rfl, q0, q1⟩ := (HB.out.later hb) k (by rw [HM.out]; exact hlt)
        have i0 : (0 : Int) ≤ (k : Int) := by omega
        have i1 : (k : Int) < (n : Int) := by omega
        by_cases hxy : L.getD k (0, 0) = M.getD k (0, 0)
        · have HE2 : Hid (∀ j, j < k + 1 → L.getD j (0, 0) = M.getD j (0, 0)) := Lib.hid (fun j hj => by
            by_cases e : j = k
            · rw [e]; exact hxy
            · exact HE.out j (by omega))
          rw [← hxy] at q0 q1
          clear hxy
          generalize L.getD k (0, 0) = x at p0 p1 q0 q1
          obtain ⟨xk, xs⟩ := x
          simp only at p0 p1 q0 q1
          go_wp2_with fail
          go_quiet (fail)
          go_wp2
          exact ⟨⟨k + 1, by omega, by go_num, HE2, below_drewN hb _⟩, by simp [intOf]; omega⟩
        · have HN : Hid (decide (L = M) = false) := Lib.hid (by simp; intro e; exact hxy (by rw [e]))
          have hx : (L.getD k (0, 0) == M.getD k (0, 0)) = false := by simp only [beq_eq_false_iff_ne]; exact hxy
          clear hxy
          generalize L.getD k (0, 0) = x at p0 p1 hx
          generalize M.getD k (0, 0) = y at q0 q1 hx
          obtain ⟨xk, xs⟩ := x
          obtain ⟨yk, ys⟩ := y
          simp only at p0 p1 q0 q1
          by_cases hk2 : xk = yk
          · subst hk2
            have hx2 : (xs == ys) = false := by simpa using hx
            have hx3 : (xs != ys) = true := by simp [bne, hx2]
            have hx6 : ¬ xs = ys := by simpa using hx2
            have hx4 : ((xs : Int) == (ys : Int)) = false := by simp; omega
            have hx5 : ((xs : Int) != (ys : Int)) = true := by simp [bne, hx4]
            clear hx6
            clear hx
            go_wp2_with fail
            go_quiet (fail)
            go_wp2
            go_ret
            rw [HN.out]
            exact ⟨rfl, below_drewN hb _⟩
          · have hx2 : (xk == yk) = false := by simpa using hk2
            have hx3 : (xk != yk) = true := by simp [bne, hx2]
            have hx4 : ((xk : Int) == (yk : Int)) = false := by simp; omega
            have hx5 : ((xk : Int) != (yk : Int)) = true := by simp [bne, hx4]
            clear hx hk2
            go_wp2_with fail
            go_quiet (fail)
            go_wp2
            go_ret
            rw [HN.out]
            exact ⟨rfl, below_drewN hb _⟩
      · obtain rfl : k = n := by omega
        have HY : Hid (decide (L = M) = true) := Lib.hid (by simp; exact igetD_same (0, 0) HL.out HM.out HE.out)
        go_wp2
        go_ret
        rw [HY.out]
        exact ⟨rfl, hb⟩
  · have HN : Hid (decide (L = M) = false) := Lib.hid (by simp; intro e; exact hnm (by rw [← HL.out, ← HM.out, e]))
    have h1 : (n == m) = false := by simp; exact hnm
    have h2 : ((n : Int) == (m : Int)) = false := by simp; omega
    have h3 : ((n : Int) != (m : Int)) = true := by simp; omega
    clear hnm
    go_enter Tryd.func20, Tryd.ntmps20
    go_wp2_with fail
    go_ret
    rw [HN.out]
    exact ⟨rfl, Below.refl _ _⟩
end Go.Proofs.YtegojdblaanclaaDoor
/- The contract of the reference's Hops. -/
namespace Go.Proofs.YtegojdblaanclaaDoor
open Go.RowKit

theorem own_ty_ne {W : World} {base : Nat} {e : TypeId} {size : Nat} {v : Value} {n : Nat} {xs : List Value} {g : Nat} {t : TypeId} {cs : Array Value} (h : W.ownsRow base e size v n xs) (hk : Blk W g t cs) (hne : t ≠ e) : some g ≠ v.ownBlock := by
  intro e1
  rcases h.2 with ⟨rfl, _⟩ | ⟨g', cap, cur, rfl, _, hg, _⟩
  · cases e1
  · have e2 : some g = some g' := e1
    obtain rfl := Option.some.inj e2
    have e3 := hk.symm.trans hg
    injection e3 with e3
    injection e3 with _ e4
    exact hne e4
theorem own_blk_is {W : World} {base : Nat} {e : TypeId} {size : Nat} {n c g : Nat} {xs : List Value} (h : W.ownsRow base e size (.slice (some ⟨g, 0, none⟩) n c) n xs) : ∃ cs, Blk W g e cs := by
  rcases h.2 with ⟨e1, _⟩ | ⟨g', cap, cur, e1, _, hg, _⟩
  · cases e1
  · injection e1 with e2
    injection e2 with e2
    injection e2 with e2
    subst e2
    exact ⟨cur, hg⟩
theorem VR.by_blk {q : Nat → Value} {W W' : World} {g : Nat} {t : TypeId} {cs : Array Value} {L : List Nat} (h : VR q W (some ⟨g, 0, none⟩) L) (hk : Blk W g t cs) (hk2 : Blk W' g t cs) : VR q W' (some ⟨g, 0, none⟩) L := fun j hj => by
  obtain ⟨g', off, e, h0⟩ := h j hj
  obtain ⟨rfl, rfl⟩ : g = g' ∧ 0 = off := by injection e with e; injection e with e1 e2; exact ⟨e1, e2⟩
  exact ⟨g, 0, rfl, by rw [hk2.cell, ← hk.cell]; exact h0⟩

set_option maxRecDepth 100000 in
set_option maxHeartbeats 8000000 in
theorem irhops_any (key : List UInt8) (A : Option Addr) (n c k : Nat) (L : List ItL) (w : World) (hkey : key.length ≤ 60000) (hA : IR w A L) (hl : L.length = n) (hu : IUp L) (hx : ∀ x ∈ L, x.1 < 18446744073709551616) (hn : n ≤ 1024) :
    Calls Tryd.prog 21 #[.string ⟨key.toArray⟩, .slice A n c, vu k] w fun e w' => ∃ B d, e = .returned (.slice B (ihops (ihts key L k)).length d) ∧ OR w' B (ihops (ihts key L k)) ∧ Below w.heap.size w w' := by
  obtain ⟨ti, hti, hz0, hz1, hz2⟩ := info_parts infoO
  have hb0 := ba (Below.refl w.heap.size w) (.cells #[] 45)
  have HK := Lib.hid (irkeys_any A n c L (w.alloc (.cells #[] 45)) (hA.later hb0) hl (by omega))
  have HH := Lib.hid (fun g c' W (hG : W.ownsRow (w.alloc (.cells #[] 45)).heap.size 23 1 (.slice (some ⟨g, 0, none⟩) n c') n ((ikeys L).map vu)) => vrheights_any key (some ⟨g, 0, none⟩) n c' (ikeys L) W hkey (own_VR hG (by rw [ikeys_len, hl])) (by rw [ikeys_len, hl]) (fun x hx9 => by
    obtain ⟨y, hy, rfl⟩ := List.mem_map.1 hx9
    exact hx y hy) (by omega))
  have HR := Lib.hid (fun j W (hj : j < n) (hb : Below w.heap.size w W) => (hA.later hb) j (by omega))
  have HLE : Hid (ileq L k ≤ n) := Lib.hid (by have := ileq_len L k; omega)
  have HIN : Hid (∀ j, j < n → (j < ileq L k ↔ (L.getD j (0, [])).1 ≤ k)) := Lib.hid fun j hj => ileq_in hu j (by omega)
  have HGL : Hid ((hsL key (ikeys L)).length = n) := Lib.hid (by rw [hsL_len, ikeys_len, hl])
  have HGT : Hid (∀ j, j < ileq L k → (ihts key L k).getD j 0 = (hsL key (ikeys L)).getD j 0) := Lib.hid fun j hj => by
    have h1 := ileq_len L k
    rw [ihts, hsL_at _ _ _ (by rw [ikeys_len, List.length_take]; omega), hsL_at _ _ _ (by rw [ikeys_len]; omega), ikeys_at _ _ (by rw [List.length_take]; omega), ikeys_at _ _ (by omega), getD_take _ _ _ _ hj]
  have HQL := Lib.hid (ihts_len key L k)
  generalize hsL key (ikeys L) = G at *
  generalize ihts key L k = Q at *
  generalize ileq L k = q at *
  have HG : Hid (∀ j b o, j ≤ 8 → ilv Q j = (b, o) → o.length ≤ b ∧ b ≤ q) := Lib.hid fun j b o hj h => by
    have h1 := ilv_good Q j hj
    have h2 := h1.1.len
    rw [h] at h1 h2
    have := HQL.out
    exact ⟨h2, by have := h1.2; omega⟩
  have HNX : Hid (∀ lev b, b ≤ n → ∃ i, INx G lev b i) := Lib.hid fun lev b hb => inx_is G lev (n - b) b (by rw [HGL.out]; omega)
  have HS0 : Hid (∀ lev s, ilev Q lev s = ilev Q lev s) := Lib.hid fun _ _ => rfl
  have HQY : Hid (∀ lev s i, s.1 ≤ q → INx G lev s.1 i → i < q → ilev Q lev s = ilev Q lev (i + 1, s.2 ++ [(lev, i)])) := Lib.hid fun lev s i hs hi hq => by
    obtain ⟨h1, h2, h3, h4⟩ := hi
    refine ilev_hop (by rw [HQL.out]; exact hq) h1 (fun j a b => ?_) ?_
    · rw [HGT.out j (by omega)]; exact h3 j a b
    · rw [HGT.out i hq]; exact h4 (by have := HGL.out; have := HLE.out; omega)
  have HQN : Hid (∀ lev s i, INx G lev s.1 i → q ≤ i → ilev Q lev s = s) := Lib.hid fun lev s i hi hq => by
    obtain ⟨h1, h2, h3, h4⟩ := hi
    refine ilev_quiet fun j a b => ?_
    rw [HQL.out] at b
    rw [HGT.out j b]
    exact h3 j a (by omega)
  have HLV : Hid (∀ j lev, lev + j = 7 → ilv Q (j + 1) = ilev Q lev (ilv Q j)) := Lib.hid fun j lev h => by rw [ilv, show 7 - j = lev by omega]
  have HGD : Hid (∀ lev b o i, lev ≤ 7 → IGood lev (b, o) → b ≤ i → IGood lev (i + 1, o ++ [(lev, i)])) := Lib.hid fun lev b o i h7 h hi => IGood.hop h h7 hi
  have HGL0 : Hid (∀ j lev, lev + j = 7 → IGood lev (ilv Q j)) := Lib.hid fun j lev h => (ilv_good Q j (by omega)).1.low (by omega)
  have HE : Hid (∀ b o, ilv Q 8 = (b, o) → ihops Q = o) := Lib.hid fun b o h => by rw [ihops, h]
  have H0 : Hid (ilv Q 0 = (0, [])) := Lib.hid rfl
  have HN9 := Lib.hid (fun A' c' lev b i W (hG : VR vi W A' G) (hi : INx G lev b i) => inext_any A' n c' lev b i G W hG HGL.out hi hn)
  generalize ihops Q = R at *
  generalize ilv Q = F at *
  have HO0 : Hid ((w.alloc (.cells #[] 45)).ownsRow w.heap.size 45 2 (.slice (some ⟨w.heap.size, 0, none⟩) 0 0) 0 (hcells [])) := Lib.hid (own_nil (Blk.new w _ _) (Nat.le_refl _))
  clear hA hl hu hx hkey
  have HB0 := Lib.hid hb0
  clear hb0
  go_enter Tryd.func21, Tryd.ntmps21
  go_wp2_with fail
  refine HK.out.mono ?_
  rintro e w1 ⟨g1, c1, rfl, hO1, hb1⟩
  have HH1 := Lib.hid (HH.out g1 c1 w1 hO1)
  have HB1 := Lib.hid (bt HB0.out hb1)
  have HO1 := Lib.hid (own_later HO0.out hb1)
  clear hO1 hb1 HH HK HB0 HO0
  go_wp2_with fail
  refine HH1.out.mono ?_
  rintro e w2 ⟨g2, c2, rfl, hO2, hb2⟩
  have HV2 := Lib.hid (own_VR hO2 HGL.out)
  obtain ⟨cs, hcs⟩ := own_blk_is hO2
  have HB3 := Lib.hid hcs
  have HB2 := Lib.hid (bt HB1.out hb2)
  have HO2 := Lib.hid (own_later HO1.out hb2)
  clear hO2 hb2 HH1 HB1 HO1 hcs
  have HG9 := Lib.hid (fun W (hb : Blk W g2 3 cs) => HV2.out.by_blk HB3.out hb)
  have HN8 : Hid (G.length = n) := HGL
  clear HGL HGT HQL
  go_wp2_with fail
  go_loopw [7, 8, 10] (fun ov bv lv wr => ∃ (j b m c5 : Nat) (z zb : Int) (B : Option Addr) (o : List HopL), j ≤ 8 ∧ z + (j : Int) = 7 ∧ b ≤ q ∧ zb = (b : Int) - 1 ∧ m ≤ 1024 ∧ lv = .int .i64 z ∧ bv = .int .i64 zb ∧ ov = .slice B m c5 ∧ Hid (F j = (b, o)) ∧ Hid (m = o.length) ∧ Hid (wr.ownsRow w.heap.size 45 2 (.slice B m c5) m (hcells o)) ∧ Hid (Below w.heap.size w wr) ∧ Hid (Blk wr g2 3 cs)) (fun _ _ l _ => (intOf l + 1).toNat)
  case atStart => exact ⟨0, 0, 0, 0, 7, -1, some ⟨w.heap.size, 0, none⟩, [], by omega, by omega, Nat.zero_le _, by omega, by omega, rfl, rfl, rfl, H0, Lib.hid rfl, HO2, HB2, HB3⟩
  case round =>
    clear H0 HO2 HB2 HB3
    obtain ⟨j, b, m, c5, z, zb, B, o, hj8, hz, hbq, rfl, hm, rfl, rfl, rfl, HF, HM, HO, HB, HBB⟩ := hrel
    by_cases hz1 : 0 ≤ z
    · obtain ⟨lev, rfl⟩ : ∃ lev : Nat, z = (lev : Int) := ⟨z.toNat, by omega⟩
      have hlev : lev ≤ 7 := by omega
      have HT0 : Hid (ilev Q lev (b, o) = F (j + 1)) := Lib.hid (by rw [HLV.out j lev (by omega), HF.out])
      have HD0 : Hid (IGood lev (b, o)) := Lib.hid (by have := HGL0.out j lev (by omega); rwa [HF.out] at this)
      clear HF
      go_wp2_with fail
      go_loopw [7, 8] (fun ov bv wr => ∃ (b m c5 : Nat) (zb : Int) (B : Option Addr) (o : List HopL), b ≤ q ∧ zb = (b : Int) - 1 ∧ m ≤ 1024 ∧ bv = .int .i64 zb ∧ ov = .slice B m c5 ∧ Hid (ilev Q lev (b, o) = F (j + 1)) ∧ Hid (IGood lev (b, o)) ∧ Hid (m = o.length) ∧ Hid (wr.ownsRow w.heap.size 45 2 (.slice B m c5) m (hcells o)) ∧ Hid (Below w.heap.size w wr) ∧ Hid (Blk wr g2 3 cs)) (fun _ b _ => n - (intOf b + 1).toNat)
      case atStart => exact ⟨b, m, c5, (b : Int) - 1, B, o, hbq, rfl, hm, rfl, rfl, HT0, HD0, HM, HO, HB, HBB⟩
      case round =>
        clear HT0 HD0 HM HO HB HBB hm hz1 hbq
        obtain ⟨b, m, c5, zb, B, o, hbq, rfl, hm, rfl, rfl, HT, HD, HM, HO, HB, HBB⟩ := hrel
        have hqn := HLE.out
        obtain ⟨i, hi⟩ := HNX.out lev b (by omega)
        have hbi : b ≤ i := hi.1
        have hin : i ≤ n := by have := hi.2.1; have := HN8.out; omega
        have HNC := Lib.hid (fun W (hb : Blk W g2 3 cs) => HN9.out (some ⟨g2, 0, none⟩) c2 lev b i W (HG9.out W hb) hi)
        by_cases hiq : i < q
        · have hlt : i < n := by omega
          have HT2 : Hid (ilev Q lev (i + 1, o ++ [(lev, i)]) = F (j + 1)) := Lib.hid (by rw [← HQY.out lev (b, o) i (by omega) hi hiq, HT.out])
          have HD2 : Hid (IGood lev (i + 1, o ++ [(lev, i)])) := Lib.hid (HGD.out lev b o i hlev HD.out hbi)
          have HM2 : Hid (m + 1 = (o ++ [(lev, i)]).length) := Lib.hid (by rw [List.length_append, ← HM.out]; rfl)
          have hm2 : m + 1 ≤ 1024 := by have h9 : (o ++ [(lev, i)]).length ≤ i + 1 := HD2.out.len; have := HM2.out; omega
          obtain ⟨g, off, rfl, k0, k1⟩ := HR.out i wr hlt HB.out
          have hle := (HIN.out i hlt).1 hiq
          generalize L.getD i (0, []) = x at *
          obtain ⟨xk, xs⟩ := x
          simp only at k0 k1 hle
          have e1 : (xk : Int) ≤ (k : Int) := by omega
          have e2 : (i : Int) < (n : Int) := by omega
          have e3 : (0 : Int) ≤ (i : Int) := by omega
          clear hi hle hqn
          have hownA := HO.out.alloc (.cells #[vi lev, vi i] 45)
          have hnews := World.news_of_block (heap_alloc_new wr (.cells #[vi lev, vi i] 45))
          have B3 := Lib.hid (ba HB.out (.cells #[vi lev, vi i] 45))
          have BB3 := Lib.hid (HBB.out.alloc (.cells #[vi lev, vi i] 45))
          go_wp2_with fail
          refine (HNC.out _ HBB.out).mono ?_
          rintro e w3 ⟨rfl, rfl⟩
          go_wp2_with fail
          refine (HNC.out _ HBB.out).mono ?_
          rintro e w3 ⟨rfl, rfl⟩
          go_wp2_with fail
          refine (HNC.out _ HBB.out).mono ?_
          rintro e w3 ⟨rfl, rfl⟩
          go_wp2_with (at_builtin; refine wpList_append_own _ rfl _ _ 38 rfl w.heap.size 45 ti _ 2 16 Tryd.underlying38 hti hz0 hz1 hz2 rfl (by decide) _ _ _ rfl hownA ⟨wr.heap.size, 0, none⟩ 1 1 [vi lev, vi i] rfl rfl hnews (by simp [Value.oneCell']) (by unfold maxLen; omega) (by omega) (by have := B3.out.size; exact this) ?_; intro v4 w5 hown5 hgrow5 _; obtain ⟨g6, c6, rfl⟩ := ownsRow_succ hown5)
          have B5 := Lib.hid (B3.out.grown hgrow5 B3.out.size (fun k e => by have := (hownA.lt k e).1; omega))
          have BB5 := Lib.hid (BB3.out.grown hgrow5 (own_ty_ne hownA BB3.out (by decide)))
          have W5 : Hid (w5.ownsRow w.heap.size 45 2 (.slice (some ⟨g6, 0, none⟩) (m + 1) c6) (m + 1) (hcells (o ++ [(lev, i)]))) := Lib.hid (by rw [hcells_more]; exact hown5)
          clear hown5 hgrow5 hnews hownA
          go_wp2_with fail
          exact ⟨⟨i + 1, m + 1, c6, (i : Int), _, _, by omega, by omega, hm2, rfl, rfl, HT2, HD2, HM2, W5, B5, BB5⟩, by simp [intOf]; omega⟩
        · have HF2 : Hid (F (j + 1) = (b, o)) := Lib.hid (by rw [← HT.out, HQN.out lev (b, o) i hi (by omega)])
          clear hi hqn
          by_cases hlt : i < n
          · obtain ⟨g, off, rfl, k0, k1⟩ := HR.out i wr hlt HB.out
            have hle : ¬ (L.getD i (0, [])).1 ≤ k := fun h => hiq ((HIN.out i hlt).2 h)
            generalize L.getD i (0, []) = x at *
            obtain ⟨xk, xs⟩ := x
            simp only at k0 k1 hle
            have e1 : ¬ (xk : Int) ≤ (k : Int) := by omega
            have e2 : (i : Int) < (n : Int) := by omega
            have e3 : (0 : Int) ≤ (i : Int) := by omega
            clear hle
            go_wp2_with fail
            refine (HNC.out _ HBB.out).mono ?_
            rintro e w3 ⟨rfl, rfl⟩
            go_wp2_with fail
            refine (HNC.out _ HBB.out).mono ?_
            rintro e w3 ⟨rfl, rfl⟩
            go_wp2_with fail
            exact ⟨⟨j + 1, b, m, c5, (lev : Int) - 1, (b : Int) - 1, B, o, by omega, by omega, hbq, rfl, hm, by go_num, rfl, rfl, HF2, HM, HO, HB, HBB⟩, by simp [intOf]⟩
          · obtain rfl : i = n := by omega
            go_wp2_with fail
            refine (HNC.out _ HBB.out).mono ?_
            rintro e w3 ⟨rfl, rfl⟩
            go_wp2_with fail
            exact ⟨⟨j + 1, b, m, c5, (lev : Int) - 1, (b : Int) - 1, B, o, by omega, by omega, hbq, rfl, hm, by go_num, rfl, rfl, HF2, HM, HO, HB, HBB⟩, by simp [intOf]⟩
    · obtain rfl : j = 8 := by omega
      have HE2 := Lib.hid (HE.out b o HF.out)
      have HOR := Lib.hid (own_OR HO.out HM.out.symm)
      go_wp2
      go_ret
      exact ⟨B, ⟨c5, by rw [HE2.out, ← HM.out]; rfl⟩, by rw [HE2.out]; exact HOR.out, HB.out⟩
end Go.Proofs.YtegojdblaanclaaDoor
/- The walk of SkipFinds. -/
namespace Go.Proofs.YtegojdblaanclaaDoor
open Go.RowKit

theorem ihopsame_same (A B : Option Addr) (c d : Nat) (P : List HopL) (w : World) (hA : OR w A P) (hB : OR w B P) (hn : P.length ≤ 65536) :
    Calls Tryd.prog 20 #[.slice A P.length c, .slice B P.length d] w fun e w' => e = .returned (.bool true) ∧ Below w.heap.size w w' := by
  have h := ihopsame_any A B c d P.length P.length P P w hA hB rfl rfl hn hn
  rwa [show decide (P = P) = true from decide_eq_true rfl] at h

set_option maxRecDepth 100000 in
set_option maxHeartbeats 16000000 in
theorem ilawF_any (k0 : List UInt8) (A : Option Addr) (c k : Nat) (L0 : List ItL) (w : World) (hk0 : (k0.length : Int) ≤ 9223372036854775807) (hA0 : IR w A L0) (hc0 : L0.length ≤ c) (hx0 : ∀ x ∈ L0, x.1 < 18446744073709551616) (hT : VTab w) :
    Calls Tryd.prog 4 #[.string ⟨k0.toArray⟩, .slice A L0.length c, .int .u64 (k : Int)] w fun e w' => e = .returned (.bool true) ∧ Below w.heap.size w w' := by
  have hz0 := size_mk k0
  obtain ⟨N, hN⟩ : ∃ N, k0.length = N := ⟨_, rfl⟩
  obtain ⟨M, hM⟩ : ∃ M, L0.length = M := ⟨_, rfl⟩
  rw [hN] at hz0 hk0
  rw [hM] at hc0 ⊢
  obtain ⟨a, ha⟩ : ∃ a, min N 80 = a := ⟨_, rfl⟩
  obtain ⟨n, hn⟩ : ∃ n, min M 20 = n := ⟨_, rfl⟩
  have hex := extract_take k0 a
  have hkl : (k0.take a).length ≤ 60000 := by rw [List.length_take]; omega
  have hl9 : (L0.take n).length = n := by rw [List.length_take]; omega
  have hA : IR w A (L0.take n) := hA0.take n
  have hx9 : ∀ x ∈ L0.take n, x.1 < 18446744073709551616 := fun x hx => hx0 x (List.mem_of_mem_take hx)
  have h1 : (a : Int) ≤ (N : Int) := by omega
  have h2 : min (N : Int) 80 = (a : Int) := by omega
  have h3 : a ≤ N := by omega
  have h4 : min (M : Int) 20 = (n : Int) := by omega
  have hsl := icut_run A M c n (by omega)
  have hn20 : n ≤ 20 := by omega
  have hc : n ≤ c := by omega
  clear hA0 ha hn hN hM hx0
  generalize L0.take n = L at *
  generalize k0.take a = key at *
  have HAL := Lib.hid (fun W (hb : Below w.heap.size w W) => ialive_any W (hT.later hb))
  have HFI := Lib.hid (fun W (hb : Below w.heap.size w W) => ifind_any key A n c k L W hkl (hA.later hb) hl9 hc hx9 (by omega) (hT.later hb))
  have HRR := Lib.hid (fun W (hb : Below w.heap.size w W) => irright_ref A n c L W (hA.later hb) hl9 hc (by omega))
  by_cases hr : IRt L
  · rw [decide_eq_true hr] at HRR
    have HFL := Lib.hid (fun W (hb : Below w.heap.size w W) => irfloor_any A n c k L W (hA.later hb) hl9 hr.up (by omega))
    by_cases hq : ileq L k = 0
    · obtain ⟨e1, e2, e3⟩ := ifind_none key hr hq
      rw [e1, e2, e3] at HFI
      rw [hq] at HFL
      clear hA hl9 hx9 hkl hT e1 e2 e3 hq hr
      go_enter Tryd.func4, Tryd.ntmps4
      go_wp2_with fail
      go_quiet (fail)
      have hb0 : Below w.heap.size w (w.drewN nq) := below_drewN (Below.refl _ _) _
      generalize w.drewN nq = w0 at hb0 ⊢
      have B0 := Lib.hid hb0
      clear hsl hex hz0 h1 h2 h3 h4 hk0 hc0 hb0
      go_wp2_with fail
      refine (HFI.out _ B0.out).mono ?_
      rintro e w1 ⟨C1, d1, rfl, _, hb⟩
      have B1 := Lib.hid (bt B0.out hb)
      clear hb B0
      go_wp2_with fail
      refine (HRR.out _ B1.out).mono ?_
      rintro e w2 ⟨rfl, hb⟩
      have B2 := Lib.hid (bt B1.out hb)
      clear hb B1
      go_wp2_with fail
      refine (HFL.out _ B2.out).mono ?_
      rintro e w3 ⟨rfl, hb⟩
      have B3 := Lib.hid (bt B2.out hb)
      clear hb B2
      go_wp2_with fail
      refine (HAL.out _ B3.out).mono ?_
      rintro e w4 ⟨rfl, hb⟩
      have B4 := Lib.hid (bt B3.out hb)
      clear hb B3
      go_wp2
      go_ret
      exact ⟨rfl, B4.out⟩
    · obtain ⟨e1, e2, e3⟩ := ifind_yes key hr hq
      rw [e1, e2, e3] at HFI
      have HHO := Lib.hid (fun W (hb : Below w.heap.size w W) => irhops_any key A n c k L W hkl (hA.later hb) hl9 hr.up hx9 (by omega))
      have HOL : Hid ((ihops (ihts key L k)).length ≤ 65536) := Lib.hid (by have h8 := ihops_len (ihts key L k); have h9 := ihts_len key L k; have := ileq_len L k; omega)
      obtain ⟨r, hr9⟩ : ∃ r, ileq L k = r + 1 := ⟨ileq L k - 1, by omega⟩
      rw [hr9, show ((r + 1 : Nat) : Int) - 1 = (r : Int) by omega] at HFL
      rw [hr9, Nat.add_sub_cancel] at HFI
      generalize ihops (ihts key L k) = O at *
      have HSO := Lib.hid (fun C1 C2 d1 d2 W (h1 : OR W C1 O) (h2 : OR W C2 O) => ihopsame_same C1 C2 d1 d2 O W h1 h2 HOL.out)
      clear hA hl9 hx9 hkl hT e1 e2 e3 hq hr hr9 HOL
      rcases Nat.eq_zero_or_pos r with rfl | hr8
      · go_enter Tryd.func4, Tryd.ntmps4
        go_wp2_with fail
        go_quiet (fail)
        have hb0 : Below w.heap.size w (w.drewN nq) := below_drewN (Below.refl _ _) _
        generalize w.drewN nq = w0 at hb0 ⊢
        have B0 := Lib.hid hb0
        clear hsl hex hz0 h1 h2 h3 h4 hk0 hc0 hb0
        go_wp2_with fail
        refine (HFI.out _ B0.out).mono ?_
        rintro e w1 ⟨C1, d1, rfl, hO1, hb⟩
        have B1 := Lib.hid (bt B0.out hb)
        clear hb B0
        have HO1 := Lib.hid hO1
        clear hO1
        go_wp2_with fail
        refine (HRR.out _ B1.out).mono ?_
        rintro e w2 ⟨rfl, hb⟩
        have B2 := Lib.hid (bt B1.out hb)
        replace HO1 := Lib.hid (HO1.out.later hb)
        clear hb B1
        go_wp2_with fail
        refine (HFL.out _ B2.out).mono ?_
        rintro e w3 ⟨rfl, hb⟩
        have B3 := Lib.hid (bt B2.out hb)
        replace HO1 := Lib.hid (HO1.out.later hb)
        clear hb B2
        go_wp2_with fail
        refine (HAL.out _ B3.out).mono ?_
        rintro e w4 ⟨rfl, hb⟩
        have B4 := Lib.hid (bt B3.out hb)
        replace HO1 := Lib.hid (HO1.out.later hb)
        clear hb B3
        go_wp2_with fail
        refine (HFL.out _ B4.out).mono ?_
        rintro e w5 ⟨rfl, hb⟩
        have B5 := Lib.hid (bt B4.out hb)
        replace HO1 := Lib.hid (HO1.out.later hb)
        clear hb B4
        go_wp2_with fail
        refine (HHO.out _ B5.out).mono ?_
        rintro e w6 ⟨C2, d2, rfl, hO2, hb⟩
        have B6 := Lib.hid (bt B5.out hb)
        replace HO1 := Lib.hid (HO1.out.later hb)
        clear hb B5
        have HSS := Lib.hid (HSO.out C1 C2 d1 d2 w6 HO1.out hO2)
        clear hO2 HO1 HSO
        go_wp2_with fail
        refine (HSS.out).mono ?_
        rintro e w7 ⟨rfl, hb⟩
        have B7 := Lib.hid (bt B6.out hb)
        clear hb B6
        go_wp2
        go_ret
        exact ⟨rfl, B7.out⟩
      · have hr0 : ¬ (r : Int) < 0 := by omega
        have hr1 : ((r : Int) == 0) = false := by simp; omega
        go_enter Tryd.func4, Tryd.ntmps4
        go_wp2_with fail
        go_quiet (fail)
        have hb0 : Below w.heap.size w (w.drewN nq) := below_drewN (Below.refl _ _) _
        generalize w.drewN nq = w0 at hb0 ⊢
        have B0 := Lib.hid hb0
        clear hsl hex hz0 h1 h2 h3 h4 hk0 hc0 hb0
        go_wp2_with fail
        refine (HFI.out _ B0.out).mono ?_
        rintro e w1 ⟨C1, d1, rfl, hO1, hb⟩
        have B1 := Lib.hid (bt B0.out hb)
        clear hb B0
        have HO1 := Lib.hid hO1
        clear hO1
        go_wp2_with fail
        refine (HRR.out _ B1.out).mono ?_
        rintro e w2 ⟨rfl, hb⟩
        have B2 := Lib.hid (bt B1.out hb)
        replace HO1 := Lib.hid (HO1.out.later hb)
        clear hb B1
        go_wp2_with fail
        refine (HFL.out _ B2.out).mono ?_
        rintro e w3 ⟨rfl, hb⟩
        have B3 := Lib.hid (bt B2.out hb)
        replace HO1 := Lib.hid (HO1.out.later hb)
        clear hb B2
        go_wp2_with fail
        refine (HAL.out _ B3.out).mono ?_
        rintro e w4 ⟨rfl, hb⟩
        have B4 := Lib.hid (bt B3.out hb)
        replace HO1 := Lib.hid (HO1.out.later hb)
        clear hb B3
        go_wp2_with fail
        refine (HFL.out _ B4.out).mono ?_
        rintro e w5 ⟨rfl, hb⟩
        have B5 := Lib.hid (bt B4.out hb)
        replace HO1 := Lib.hid (HO1.out.later hb)
        clear hb B4
        go_wp2_with fail
        refine (HHO.out _ B5.out).mono ?_
        rintro e w6 ⟨C2, d2, rfl, hO2, hb⟩
        have B6 := Lib.hid (bt B5.out hb)
        replace HO1 := Lib.hid (HO1.out.later hb)
        clear hb B5
        have HSS := Lib.hid (HSO.out C1 C2 d1 d2 w6 HO1.out hO2)
        clear hO2 HO1 HSO
        go_wp2_with fail
        refine (HSS.out).mono ?_
        rintro e w7 ⟨rfl, hb⟩
        have B7 := Lib.hid (bt B6.out hb)
        clear hb B6
        go_wp2
        go_ret
        exact ⟨rfl, B7.out⟩
  · rw [decide_eq_false hr] at HRR
    obtain ⟨e1, e2, e3⟩ := ifind_bad key k hr
    rw [e1, e2, e3] at HFI
    clear hA hl9 hx9 hkl hT e1 e2 e3 hr
    go_enter Tryd.func4, Tryd.ntmps4
    go_wp2_with fail
    go_quiet (fail)
    have hb0 : Below w.heap.size w (w.drewN nq) := below_drewN (Below.refl _ _) _
    generalize w.drewN nq = w0 at hb0 ⊢
    have B0 := Lib.hid hb0
    clear hsl hex hz0 h1 h2 h3 h4 hk0 hc0 hb0
    go_wp2_with fail
    refine (HFI.out _ B0.out).mono ?_
    rintro e w1 ⟨C1, d1, rfl, _, hb⟩
    have B1 := Lib.hid (bt B0.out hb)
    clear hb B0
    go_wp2_with fail
    refine (HRR.out _ B1.out).mono ?_
    rintro e w2 ⟨rfl, hb⟩
    have B2 := Lib.hid (bt B1.out hb)
    clear hb B1
    go_wp2_with fail
    refine (HAL.out _ B2.out).mono ?_
    rintro e w3 ⟨rfl, hb⟩
    have B3 := Lib.hid (bt B2.out hb)
    clear hb B2
    go_wp2
    go_ret
    exact ⟨rfl, B3.out⟩
end Go.Proofs.YtegojdblaanclaaDoor
