/- Texts of this seat, one behind the other: JRWhole, JSameG, JGroupsW. -/
import Derived.Lib.AppendZeros
import Derived.Test.YtfmlpomnhkjolaaQ16
import Derived.Test.YtfmlpomnhkjolaaQ17
import Derived.Test.YtfmlpomnhkjolaaQ19
/- The contract of the reference's Whole. -/
namespace Go.Proofs.Ytfmlpomnhkjolaa
open Go.RowKit

theorem jcells2 {W : World} {g : Nat} {t : TypeId} {x y : Value} (h : Blk W g t #[x, y]) :
    W.cell? ⟨g, 0, none⟩ = some x ∧ W.cell? ⟨g, 1, none⟩ = some y ∧ W.frozen? ⟨g, 0, none⟩ = false ∧ W.frozen? ⟨g, 1, none⟩ = false :=
  ⟨h.cell 0, h.cell 1, h.frozen 0, h.frozen 1⟩
theorem jown_none {W : World} {g base : Nat} (h : Blk W g 9 #[]) (hb : base ≤ g) : W.ownsRow base 9 1 (.slice (some ⟨g, 0, none⟩) 0 0) 0 (([] : List (List UInt8)).map sv) :=
  ⟨rfl, .inr ⟨g, 0, #[], rfl, hb, h, Nat.le_refl _, Nat.zero_le _, rfl, rfl⟩⟩
theorem str_ne {W : World} {g p : Nat} {t : TypeId} {cs cur : Array Value} (hp : Blk W p t cs) (ht : 9 ≠ t) (hc : W.heap[g]? = some (.cells cur 9 (0, 0))) : g ≠ p := fun e => by
  subst e
  rw [show W.heap[g]? = _ from hp] at hc
  injection hc with hc
  injection hc with _ h
  exact ht h.symm
theorem far9 (W : World) (p : Nat) (v1 v2 : Value) (o : Obj) (g : Nat) (hne : g ≠ p) (hlt : g < W.heap.size) : (((W.setCell ⟨p, 0, none⟩ v1).alloc o).setCell ⟨p, 1, none⟩ v2).heap[g]? = W.heap[g]? :=
  (Below.heap_setCell _ ⟨p, 1, none⟩ v2 g hne).trans ((Below.heap_alloc _ o g (by simpa [World.setCell] using hlt)).trans (Below.heap_setCell W ⟨p, 0, none⟩ v1 g hne))
/-- What the reference's groups are handed back as. -/
theorem w_result {fn : Func} {p : Tmp} {tmps : Array Value} {W : World} {g : Nat} {x y : Value} (h : fn.results = #[.cell p 49]) (hb : Blk W g 49 #[x, y]) (hp : tmps.getD p undef = .pointer (some ⟨g, 0, none⟩) := by rfl) :
    (results fn tmps).run Try.prog W = .ok (.agg #[x, y]) W := by
  obtain ⟨q0, q1, _, _⟩ := jcells2 hb
  simp only [Array.getD_eq_getD_getElem?] at hp
  simp [results, h, go_sem, hp, q0, q1]

set_option maxRecDepth 100000 in
set_option maxHeartbeats 8000000 in
theorem rwhole_any (L : List (List UInt8)) (A : Option Addr) (c n : Nat) (w : World) (hn : L.length = n) (hA : SR w A L) (hN : n ≤ 4096) :
    Calls Try.prog 22 #[.slice A n c] w fun e w' => ∃ A' c' B' d', e = .returned (.agg #[.slice A' (wholeL L).1.length c', .slice B' (wholeL L).2.length d']) ∧ GR w' A' (wholeL L).1 ∧ SR w' B' (wholeL L).2 ∧ Below w.heap.size w w' := by
  obtain ⟨ti, hi0, hz0, hz1, hz2⟩ := info_parts infoS
  obtain ⟨si, hj0, hy0, hy1, hy2⟩ := info_parts infoSS
  have HA := Lib.hid hA
  have HN := Lib.hid hn
  have HT := Lib.hid (fun j (h : j < n) => wholeL_take L j (by omega))
  have HLE := Lib.hid (fun j (h : j ≤ n) => wholeL_le L j (by omega))
  have HW : Hid (wholeL (L.take n) = wholeL L) := Lib.hid (by rw [← hn, List.take_length])
  have H0 : Hid (wholeL (L.take 0) = ([], [])) := Lib.hid rfl
  have B0 := Lib.hid ((Blk.new w 49 #[.slice none 0 0, .slice none 0 0]).alloc (.cells #[.slice none 0 0, .slice none 0 0] 49))
  have B1 : Hid (Blk ((w.alloc (.cells #[.slice none 0 0, .slice none 0 0] 49)).alloc (.cells #[.slice none 0 0, .slice none 0 0] 49)) (w.heap.size + 1) 49 #[.slice none 0 0, .slice none 0 0]) := Lib.hid (Blk.newAt (by simp) _ _)
  have HB0 := Lib.hid (ba (ba (Below.refl w.heap.size w) (.cells #[.slice none 0 0, .slice none 0 0] 49)) (.cells #[.slice none 0 0, .slice none 0 0] 49))
  clear hA hn
  go_enter Try.func22, Try.ntmps22
  go_wp2_with fail
  go_loopw [9] (fun iv wr => ∃ (j : Nat) (G : List (List (List UInt8))) (O : List (List UInt8)) (A1 B1 : Option Addr) (c1 d1 b : Nat) (Vs : List Value), j ≤ n ∧ iv = .int .i64 j ∧ Blk wr (w.heap.size + 1) 49 #[.slice A1 G.length c1, .slice B1 O.length d1] ∧ Blk wr w.heap.size 49 #[.slice none 0 0, .slice none 0 0] ∧ Hid (wholeL (L.take j) = (G, O)) ∧ wr.ownsRow w.heap.size 23 1 (.slice A1 G.length c1) G.length Vs ∧ GO wr w.heap.size b Vs G ∧ wr.ownsRow b 9 1 (.slice B1 O.length d1) O.length (O.map sv) ∧ w.heap.size ≤ b ∧ b ≤ wr.heap.size ∧ Below w.heap.size w wr) (fun i _ => n - (intOf i).toNat)
  case atStart => exact ⟨0, [], [], none, none, 0, 0, w.heap.size, [], Nat.zero_le _, rfl, B1.out, B0.out, H0, World.ownsRow_nil _ _ _ _, GO.nil _ _ _, World.ownsRow_nil _ _ _ _, Nat.le_refl _, by simp; omega, HB0.out⟩
  case round =>
    clear H0 B0 B1 HB0
    obtain ⟨j, G, O, A1, B1, c1, d1, b, Vs, hj, rfl, hp, hg, HGO, hgr, hgo, hor, hb0, hb1, hb⟩ := hrel
    have hle := HLE.out j hj
    rw [HGO.out] at hle
    have hle1 : G.length ≤ j := hle.1
    have hle2 : O.length ≤ j := hle.2
    clear hle
    have HP := Lib.hid hp
    have HG := Lib.hid hg
    have HGR := Lib.hid hgr
    have HGOO := Lib.hid hgo
    have HOR := Lib.hid hor
    obtain ⟨p0, p1, _, _⟩ := jcells2 hp
    have z := hb.size
    by_cases hlt : j < n
    · obtain ⟨g, off, rfl, c0⟩ := (HA.out.later hb) j (by rw [HN.out]; exact hlt)
      have HT1 := Lib.hid (HT.out j hlt)
      rw [HGO.out] at HT1
      have i0 : (0 : Int) ≤ (j : Int) := by omega
      have i1 : (j : Int) < (n : Int) := by omega
      by_cases hs : L.getD j [] = []
      · have HT2 : Hid (wholeL (L.take (j + 1)) = (G ++ [O], [])) := Lib.hid (by rw [HT1.out]; unfold stepG; rw [if_pos hs])
        rw [hs] at c0
        clear hs hgr hgo hor HT1 hp hg
        have hownA := own_later HGR.out (ba (Below.refl wr.heap.size wr) (.cells #[.slice B1 O.length d1] 23))
        have hnews := World.news_of_block (heap_alloc_new wr (.cells #[.slice B1 O.length d1] 23))
        have HPA := Lib.hid (HP.out.alloc (.cells #[.slice B1 O.length d1] 23))
        have HGA := Lib.hid (HG.out.alloc (.cells #[.slice B1 O.length d1] 23))
        go_wp2_with (at_builtin; refine wpList_append_own _ rfl _ _ 45 rfl w.heap.size 23 si (.slice none 0 0) 1 24 Try.underlying45 hj0 hy0 hy1 hy2 rfl (by decide) _ _ _ rfl hownA ⟨wr.heap.size, 0, none⟩ 1 1 [.slice B1 O.length d1] rfl rfl hnews (by simp [Value.oneCell']) (by unfold maxLen; omega) (by omega) (by simp; omega) ?_; intro v3 w3 hown3 hgrow3 _; obtain ⟨g3, c3, rfl⟩ := ownsRow_succ hown3; have HP3 := Lib.hid (HPA.out.grown hgrow3 (fun e => own_blk_ne hownA HPA.out (by decide) e.symm)); have d0 := (jcells2 HP3.out).1; have f0 := (jcells2 HP3.out).2.2.1; have HP4 : Hid (Blk ((w3.setCell ⟨w.heap.size + 1, 0, none⟩ (.slice (some ⟨g3, 0, none⟩) (G.length + 1) c3)).alloc (.cells #[] 9)) (w.heap.size + 1) 49 #[.slice (some ⟨g3, 0, none⟩) (G.length + 1) c3, .slice B1 O.length d1]) := Lib.hid ((HP3.out.set_ 0 _).alloc _); have d1' := (jcells2 HP4.out).2.1; have f1 := (jcells2 HP4.out).2.2.2)
        have hz1' := hgrow3.size
        rw [World.size_alloc] at hz1'
        have hsz : (w3.setCell ⟨w.heap.size + 1, 0, none⟩ (.slice (some ⟨g3, 0, none⟩) (G.length + 1) c3)).heap.size = w3.heap.size := by simp [World.setCell]
        have HO3 := own_rows HOR.out hownA hgrow3
        have HG3 := (GO.rows HGOO.out hownA hgrow3).more (b' := w3.heap.size) (jown_base HO3 hb0) (by omega) (fun g hg => (HO3.lt g hg).2)
        have HG9 : GO (((w3.setCell ⟨w.heap.size + 1, 0, none⟩ (.slice (some ⟨g3, 0, none⟩) (G.length + 1) c3)).alloc (.cells #[] 9)).setCell ⟨w.heap.size + 1, 1, none⟩ (.slice (some ⟨w3.heap.size, 0, none⟩) 0 0)) w.heap.size w3.heap.size (Vs ++ [.slice B1 O.length d1]) (G ++ [O]) := HG3.kept fun g hlt hc => by
          obtain ⟨cur, hc⟩ := hc
          exact far9 _ _ _ _ _ _ (str_ne HP3.out (by decide) hc) hlt
        have HR9 : ((((w3.setCell ⟨w.heap.size + 1, 0, none⟩ (.slice (some ⟨g3, 0, none⟩) (G.length + 1) c3)).alloc (.cells #[] 9)).setCell ⟨w.heap.size + 1, 1, none⟩ (.slice (some ⟨w3.heap.size, 0, none⟩) 0 0))).ownsRow w.heap.size 23 1 (.slice (some ⟨g3, 0, none⟩) (G.length + 1) c3) (G.length + 1) (Vs ++ [.slice B1 O.length d1]) := jown_kept hown3 fun g hg => far9 _ _ _ _ _ _ (fun e => own_blk_ne hown3 HP3.out (by decide) (by rw [hg, e])) (hown3.lt g hg).2
        have hlt3 := HP3.out.lt
        have HL9 := jown_none ((Blk.newAt (g := w3.heap.size) hsz 9 #[]).far (p := ⟨w.heap.size + 1, 1, none⟩) (show w3.heap.size ≠ w.heap.size + 1 by omega) (.slice (some ⟨w3.heap.size, 0, none⟩) 0 0)) (Nat.le_refl w3.heap.size)
        have HP9 : Blk (((w3.setCell ⟨w.heap.size + 1, 0, none⟩ (.slice (some ⟨g3, 0, none⟩) (G.length + 1) c3)).alloc (.cells #[] 9)).setCell ⟨w.heap.size + 1, 1, none⟩ (.slice (some ⟨w3.heap.size, 0, none⟩) 0 0)) (w.heap.size + 1) 49 #[.slice (some ⟨g3, 0, none⟩) (G.length + 1) c3, .slice (some ⟨w3.heap.size, 0, none⟩) 0 0] := HP4.out.set_ 1 _
        have HGG : Blk (((w3.setCell ⟨w.heap.size + 1, 0, none⟩ (.slice (some ⟨g3, 0, none⟩) (G.length + 1) c3)).alloc (.cells #[] 9)).setCell ⟨w.heap.size + 1, 1, none⟩ (.slice (some ⟨w3.heap.size, 0, none⟩) 0 0)) w.heap.size 49 #[.slice none 0 0, .slice none 0 0] := by
          have h1 := HGA.out.grown hgrow3 (fun e => own_blk_ne hownA HGA.out (by decide) e.symm)
          exact ((h1.far (p := ⟨w.heap.size + 1, 0, none⟩) (by simp) _).alloc _).far (p := ⟨w.heap.size + 1, 1, none⟩) (by simp) _
        have hb3 : Below w.heap.size w w3 := (ba hb _).grown hgrow3 (by simp; omega) (fun k e => (hownA.lt k e).1)
        have hb9 : Below w.heap.size w (((w3.setCell ⟨w.heap.size + 1, 0, none⟩ (.slice (some ⟨g3, 0, none⟩) (G.length + 1) c3)).alloc (.cells #[] 9)).setCell ⟨w.heap.size + 1, 1, none⟩ (.slice (some ⟨w3.heap.size, 0, none⟩) 0 0)) := bs (ba (bs hb3 (by omega) _) _) (by omega) _
        have hs9 : w3.heap.size ≤ ((((w3.setCell ⟨w.heap.size + 1, 0, none⟩ (.slice (some ⟨g3, 0, none⟩) (G.length + 1) c3)).alloc (.cells #[] 9)).setCell ⟨w.heap.size + 1, 1, none⟩ (.slice (some ⟨w3.heap.size, 0, none⟩) 0 0))).heap.size := by simp [World.setCell, World.alloc]
        exact ⟨⟨j + 1, G ++ [O], [], some ⟨g3, 0, none⟩, some ⟨w3.heap.size, 0, none⟩, c3, 0, w3.heap.size, _, by omega, by go_num, by rw [List.length_append]; exact HP9, HGG, HT2, by rw [List.length_append]; exact HR9, HG9, HL9, by omega, hs9, hb9⟩, by simp [intOf]; omega⟩
      · have HT2 : Hid (wholeL (L.take (j + 1)) = (G, O ++ [L.getD j []])) := Lib.hid (by rw [HT1.out]; unfold stepG; rw [if_neg hs])
        clear hgr hgo hor HT1 hp hg
        generalize L.getD j [] = x at *
        have hs1 : (x == []) = false := by simp only [beq_eq_false_iff_ne]; exact hs
        clear hs
        have hownA := own_later HOR.out (ba (Below.refl wr.heap.size wr) (.cells #[sv x] 9))
        have hnews := World.news_of_block (heap_alloc_new wr (.cells #[sv x] 9))
        have HPA := Lib.hid (HP.out.alloc (.cells #[sv x] 9))
        have HGA := Lib.hid (HG.out.alloc (.cells #[sv x] 9))
        go_wp2_with (at_builtin; refine wpList_append_own _ rfl _ _ 23 rfl b 9 ti _ 1 16 Try.underlying23 hi0 hz0 hz1 hz2 rfl (by decide) _ _ _ rfl hownA ⟨wr.heap.size, 0, none⟩ 1 1 [sv x] rfl rfl hnews (by simp [Value.oneCell']) (by unfold maxLen; omega) (by omega) (by simp; omega) ?_; intro v3 w3 hown3 hgrow3 _; obtain ⟨g3, c3, rfl⟩ := ownsRow_succ hown3; have HP3 := Lib.hid (HPA.out.grown hgrow3 (fun e => own_blk_ne hownA HPA.out (by decide) e.symm)); have d1' := (jcells2 HP3.out).2.1; have f1 := (jcells2 HP3.out).2.2.2)
        have hz1' := hgrow3.size
        rw [World.size_alloc] at hz1'
        have HR3 := own_texts HGR.out hownA hgrow3
        have HR9 : ((w3.setCell ⟨w.heap.size + 1, 1, none⟩ (.slice (some ⟨g3, 0, none⟩) (O.length + 1) c3))).ownsRow w.heap.size 23 1 (.slice A1 G.length c1) G.length Vs := jown_kept HR3 fun g hg => Below.heap_setCell w3 ⟨w.heap.size + 1, 1, none⟩ _ g (fun e => own_blk_ne HR3 HP3.out (by decide) (by rw [hg, e]))
        have HG9 : GO (w3.setCell ⟨w.heap.size + 1, 1, none⟩ (.slice (some ⟨g3, 0, none⟩) (O.length + 1) c3)) w.heap.size b Vs G := (GO.texts HGOO.out hownA hgrow3).kept fun g _ hc => by
          obtain ⟨cur, hc⟩ := hc
          exact Below.heap_setCell w3 ⟨w.heap.size + 1, 1, none⟩ _ g (str_ne HP3.out (by decide) hc)
        have HO9 : ((w3.setCell ⟨w.heap.size + 1, 1, none⟩ (.slice (some ⟨g3, 0, none⟩) (O.length + 1) c3))).ownsRow b 9 1 (.slice (some ⟨g3, 0, none⟩) (O.length + 1) c3) (O.length + 1) (O.map sv ++ [sv x]) := jown_kept hown3 fun g hg => Below.heap_setCell w3 ⟨w.heap.size + 1, 1, none⟩ _ g (fun e => own_blk_ne hown3 HP3.out (by decide) (by rw [hg, e]))
        have HP9 : Blk (w3.setCell ⟨w.heap.size + 1, 1, none⟩ (.slice (some ⟨g3, 0, none⟩) (O.length + 1) c3)) (w.heap.size + 1) 49 #[.slice A1 G.length c1, .slice (some ⟨g3, 0, none⟩) (O.length + 1) c3] := HP3.out.set_ 1 _
        have HGG : Blk (w3.setCell ⟨w.heap.size + 1, 1, none⟩ (.slice (some ⟨g3, 0, none⟩) (O.length + 1) c3)) w.heap.size 49 #[.slice none 0 0, .slice none 0 0] := (HGA.out.grown hgrow3 (fun e => own_blk_ne hownA HGA.out (by decide) e.symm)).far (p := ⟨w.heap.size + 1, 1, none⟩) (by simp) _
        have hb3 : Below w.heap.size w w3 := (ba hb _).grown hgrow3 (by simp; omega) (fun k e => by have := (hownA.lt k e).1; omega)
        have hb9 : Below w.heap.size w (w3.setCell ⟨w.heap.size + 1, 1, none⟩ (.slice (some ⟨g3, 0, none⟩) (O.length + 1) c3)) := bs hb3 (by omega) _
        have hs9 : w3.heap.size ≤ ((w3.setCell ⟨w.heap.size + 1, 1, none⟩ (.slice (some ⟨g3, 0, none⟩) (O.length + 1) c3))).heap.size := by simp [World.setCell]
        exact ⟨⟨j + 1, G, O ++ [x], A1, some ⟨g3, 0, none⟩, c1, c3, b, Vs, by omega, by go_num, by rw [List.length_append]; exact HP9, HGG, HT2, HR9, HG9, by rw [List.length_append, List.map_append]; exact HO9, hb0, by omega, hb9⟩, by simp [intOf]; omega⟩
    · obtain rfl : j = n := by omega
      have e := HW.out
      rw [HGO.out] at e
      obtain ⟨q0, q1, f0, f1⟩ := jcells2 hg
      have HRG : Hid (Blk ((wr.setCell ⟨w.heap.size, 0, none⟩ (.slice A1 G.length c1)).setCell ⟨w.heap.size, 1, none⟩ (.slice B1 O.length d1)) w.heap.size 49 #[.slice A1 G.length c1, .slice B1 O.length d1]) := Lib.hid ((HG.out.set_ 0 _).set_ 1 _)
      have far2 : ∀ i, i ≠ w.heap.size → ((wr.setCell ⟨w.heap.size, 0, none⟩ (.slice A1 G.length c1)).setCell ⟨w.heap.size, 1, none⟩ (.slice B1 O.length d1)).heap[i]? = wr.heap[i]? := fun i hi => (Below.heap_setCell _ ⟨w.heap.size, 1, none⟩ _ i hi).trans (Below.heap_setCell wr ⟨w.heap.size, 0, none⟩ _ i hi)
      have HGF := Lib.hid (GO.read (HGOO.out.kept (W' := (wr.setCell ⟨w.heap.size, 0, none⟩ (.slice A1 G.length c1)).setCell ⟨w.heap.size, 1, none⟩ (.slice B1 O.length d1)) fun i _ hc => by
        obtain ⟨cur, hc⟩ := hc
        exact far2 i (str_ne HG.out (by decide) hc)) (jown_kept HGR.out fun i hi => far2 i (fun e => own_blk_ne HGR.out HG.out (by decide) (by rw [hi, e]))))
      have HOF := Lib.hid (own_SR' (jown_kept (W' := (wr.setCell ⟨w.heap.size, 0, none⟩ (.slice A1 G.length c1)).setCell ⟨w.heap.size, 1, none⟩ (.slice B1 O.length d1)) HOR.out fun i hi => far2 i (fun e => own_blk_ne HOR.out HG.out (by decide) (by rw [hi, e]))) rfl)
      have HBF : Hid (Below w.heap.size w ((wr.setCell ⟨w.heap.size, 0, none⟩ (.slice A1 G.length c1)).setCell ⟨w.heap.size, 1, none⟩ (.slice B1 O.length d1))) := Lib.hid (bs (bs hb (Nat.le_refl _) _) (Nat.le_refl _) _)
      have HE := Lib.hid e
      clear hgr hgo hor hp hg far2 e HP HG HGR HGOO HOR hb
      go_wp2
      refine bodyPost_ret (w_result rfl HRG.out) rfl ?_
      rw [← HE.out]
      exact ⟨_, _, _, _, rfl, HGF.out, HOF.out, HBF.out⟩
end Go.Proofs.Ytfmlpomnhkjolaa
/- The contract of the law's same, at two rows of the same rows. -/
namespace Go.Proofs.Ytfmlpomnhkjolaa
open Go.RowKit

theorem cells_of {w0 W : World} {p1 p2 : Addr} {x y : Value} (h1 : w0.cell? p1 = some x) (h2 : w0.cell? p2 = some y) (hB : Below w0.heap.size w0 W) : W.cell? p1 = some x ∧ W.cell? p2 = some y ∧ Below w0.heap.size w0 W :=
  ⟨cell_later hB h1, cell_later hB h2, hB⟩

set_option maxRecDepth 100000 in
set_option maxHeartbeats 4000000 in
theorem sameG_any (A B : Option Addr) (c d n : Nat) (G : List (List (List UInt8))) (w : World) (hA : GR w A G) (hB : GR w B G) (hl : G.length = n) (hn : n ≤ 4096) (hm : ∀ i, (G.getD i []).length ≤ 65536) :
    Calls Try.prog 23 #[.slice A n c, .slice B n d] w fun e w' => e = .returned (.bool true) ∧ Below w.heap.size w w' := by
  have HA := Lib.hid hA
  have HB := Lib.hid hB
  have HL := Lib.hid hl
  have HM := Lib.hid hm
  clear hA hB hl hm
  go_enter Try.func23, Try.ntmps23
  go_wp2_with fail
  go_loopw [13] (fun iv wr => ∃ j : Nat, j ≤ n ∧ iv = .int .i64 j ∧ Below w.heap.size w wr) (fun i _ => n - (intOf i).toNat)
  case atStart => exact ⟨0, Nat.zero_le _, rfl, Below.refl _ _⟩
  case round =>
    obtain ⟨j, hj, rfl, hb⟩ := hrel
    by_cases hlt : j < n
    · obtain ⟨g1, o1, B1, d1, rfl, c1, s1⟩ := (HA.out.later hb) j (by rw [HL.out]; exact hlt)
      obtain ⟨g2, o2, B2, d2, rfl, c2, s2⟩ := (HB.out.later hb) j (by rw [HL.out]; exact hlt)
      have hx := HM.out j
      generalize G.getD j [] = X at *
      have HS1 : Hid (SR wr.drew B1 X) := Lib.hid s1
      have HS2 : Hid (SR wr.drew B2 X) := Lib.hid s2
      have M1 : Hid (∀ W, SR W B1 X → SR W B2 X → Calls Try.prog 20 #[.slice B1 X.length d1, .slice B2 X.length d2] W fun e w' => e = .returned (.bool true) ∧ Below W.heap.size W w') := Lib.hid (fun W h1 h2 => by
        have h := jsame_any B1 B2 d1 d2 X.length X.length X X W h1 h2 rfl rfl hx hx
        rwa [show decide (X = X) = true by simp] at h)
      clear s1 s2 hx
      generalize X.length = m at *
      have i0 : (0 : Int) ≤ (j : Int) := by omega
      have i1 : (j : Int) < (n : Int) := by omega
      have hS1 := cells_of c1 c2 (Below.refl _ wr).drew
      go_wp2_with fail
      go_region_held3 (fun W => W.cell? ⟨g1, o1 + j, none⟩ = some (.slice B1 m d1) ∧ W.cell? ⟨g2, o2 + j, none⟩ = some (.slice B2 m d2) ∧ Below wr.heap.size wr W) (first | assumption | exact hS1) (first
        | (go_at_call 20; (with_reducible refine (M1.out _ HS1.out HS2.out).mono ?_); rintro e w6 ⟨rfl, hb6⟩; have hS6 := cells_of c1 c2 (bt (by assumption : _ ∧ _ ∧ Below wr.heap.size wr _).2.2 hb6)))
      all_goals
        have hb7 := bt hb hS6.2.2
        go_wp2
        exact ⟨⟨j + 1, by omega, by go_num, hb7⟩, by simp [intOf]; omega⟩
    · obtain rfl : j = n := by omega
      go_wp2
      go_ret
      exact ⟨rfl, hb⟩
end Go.Proofs.Ytfmlpomnhkjolaa
/- The walk of JournalGroups. -/
namespace Go.Proofs.Ytfmlpomnhkjolaa
open Go.RowKit

/-- Nothing is appended. -/
theorem jappend_none (W : World) (ty : TypeId) (A B : Option Addr) (n c d : Nat) (h : n ≤ c) :
    (Builtin.append_ #[23, 23] ty #[.slice A n c, .slice B 0 d]).run Try.prog W = .ok (.slice A n c) W := by
  obtain ⟨ti, hi0, hz0, hz1, hz2⟩ := info_parts infoS
  cases A <;> cases B <;> simp [Builtin.append_, run_underlying Try.underlying23, sizeOf, typeInfo, hi0, h, Builtin.lenOf, Builtin.firstCells, loadCells, loadCellsFrom, storeCells]
/-- A row that can be read, appended to one that the call made. -/
theorem jappend_row {W : World} {base n c d m : Nat} {A B : Option Addr} {xs : List Value} {X : List (List UInt8)} (ho : W.ownsRow base 9 1 (.slice A n c) n xs) (hs : SR W B X) (hm : X.length = m) (hn : n + m ≤ 65536) (hb : base ≤ W.heap.size) :
    ∃ A' c' W', (Builtin.append_ #[23, 23] 23 #[.slice A n c, .slice B m d]).run Try.prog W = .ok (.slice A' (n + m) c') W' ∧ W'.ownsRow base 9 1 (.slice A' (n + m) c') (n + m) (xs ++ X.map sv) ∧ W.grownBy W' (Value.slice A n c).ownBlock := by
  obtain ⟨ti, hi0, hz0, hz1, hz2⟩ := info_parts infoS
  by_cases h0 : X = []
  · subst h0
    obtain rfl : m = 0 := by rw [← hm]; rfl
    have hnc : n ≤ c := by
      obtain ⟨A', c', e, hh⟩ := own_form ho
      injection e with _ _ e3
      subst e3
      rcases hh with ⟨_, h1, h2⟩ | ⟨_, _, h1, _⟩ <;> omega
    exact ⟨A, c, W, jappend_none W _ A B n c d hnc, by simpa using ho, ⟨rfl, rfl, rfl, Nat.le_refl _, fun _ _ _ => rfl⟩⟩
  · have hpos : 0 < X.length := List.length_pos_iff.2 h0
    obtain ⟨g, off, rfl, _⟩ := hs 0 hpos
    have hnews : ∀ (i : Nat) (u : Value), (X.map sv)[i]? = some u → W.cell? ((⟨g, off, none⟩ : Addr).add i) = some u := fun i u hu => by
      have hi : i < X.length := by
        have := (List.getElem?_eq_some_iff.1 hu).1
        simpa using this
      obtain ⟨g', off', e, hc⟩ := hs i hi
      obtain ⟨rfl, rfl⟩ : g = g' ∧ off = off' := by injection e with e; injection e with e1 e2; exact ⟨e1, e2⟩
      rw [svs_at X i hi] at hu
      cases hu
      have e9 : (⟨g, off, none⟩ : Addr).add i = ⟨g, off + i, none⟩ := by cases i <;> simp [Addr.add]
      rw [e9]
      exact hc
    obtain ⟨v', w', hr, h2, h3, h4⟩ := run_append_own (P := Try.prog) W base 23 23 9 ti (.string ⟨#[]⟩) 1 16 Try.underlying23 hi0 hz0 hz1 hz2 rfl (by decide) (.slice A n c) n xs ho ⟨g, off, none⟩ m d (X.map sv) (by simp [hm]) hnews (by simp [Value.oneCell']) (by unfold maxLen; omega) (by omega) hb
    obtain ⟨A', c', rfl, _⟩ := own_form h2
    exact ⟨A', c', w', hr, h2, h3⟩
/-- An append whose run is known, behind a guard that says yes. -/
theorem jlist_append_run {P : Program} (w : World) {ops : Array Oper} {rest : List Oper} {o : Oper} {a : Act} {Q : Exit → Act → World → Prop} (hw : Region.wanted o (yielded ops a.tmps) = true) (s x : Operand) (t tn : TypeId)
    (ho : o.op = .call { callee := .builtin .append, args := #[s, x], argTypes := #[t, tn] }) (vs vx : Value) (hs : a.eval s = vs) (hx : a.eval x = vx)
    (v' : Value) (w' : World) (hr : (Builtin.append_ #[t, tn] o.type #[vs, vx]).run P w = .ok v' w') (h : wpList P ops Q rest (a.put o.dst v') w') : wpList P ops Q (o :: rest) a w :=
  BigFrame.wpList_want hw fun _ hK => Lib.wp_append_run w s x t tn ho vs vx hs hx v' w' hr (hK _ _ h)
theorem joinG_take (G : List (List (List UInt8))) (i : Nat) (h : i < G.length) : joinG (G.take (i + 1)) = joinG (G.take i) ++ G.getD i [] ++ [[]] := by
  have e : G.take (i + 1) = G.take i ++ [G.getD i []] := by
    rw [List.take_succ_eq_append_getElem h]
    simp [List.getD, h]
  rw [e, joinG_more]
theorem joinG_len (G : List (List (List UInt8))) (i : Nat) : (joinG (G.take i)).length ≤ (joinG G).length ∧ (G.getD i []).length ≤ (joinG G).length := by
  constructor
  · conv => rhs; rw [← List.take_append_drop i G]
    unfold joinG
    rw [List.flatMap_append, List.length_append]
    omega
  · by_cases h : i < G.length
    · have h1 := joinG_take G i h
      have h2 : (joinG (G.take (i + 1))).length ≤ (joinG G).length := by
        conv => rhs; rw [← List.take_append_drop (i + 1) G]
        unfold joinG
        rw [List.flatMap_append, List.length_append]
        omega
      rw [h1, List.length_append, List.length_append] at h2
      omega
    · simp [List.getD, List.getElem?_eq_none (by omega : G.length ≤ i)]

set_option maxRecDepth 100000 in
set_option maxHeartbeats 8000000 in
theorem groups_any (A0 : Option Addr) (c0 : Nat) (L0 : List (List UInt8)) (w : World) (hA0 : SR w A0 L0) (hL0 : (L0.length : Int) ≤ 9223372036854775807) (hc0 : L0.length ≤ c0) (hS0 : ∀ j, ((L0.getD j []).length : Int) ≤ 9223372036854775807) :
    Calls Try.prog 5 #[.slice A0 L0.length c0] w fun e w' => e = .returned (.bool true) ∧ Below w.heap.size w w' := by
  obtain ⟨ti, hi0, hz0, hz1, hz2⟩ := info_parts infoS
  have FW := Lib.hid (fun W (h : SR W A0 L0) => jfew_any L0 A0 c0 W h hL0 hc0 hS0)
  have hn8 := fewJ_len L0
  generalize fewJ L0 = L at *
  have HA0 := Lib.hid hA0
  obtain ⟨n, hn⟩ : ∃ n, L.length = n := ⟨_, rfl⟩
  obtain ⟨N0, hN0⟩ : ∃ N0, L0.length = N0 := ⟨_, rfl⟩
  rw [hn] at FW hn8
  rw [hN0] at FW ⊢
  have W1 := Lib.hid (fun W A c (h : SR W A L) => whole_any L A c n W hn h (by omega))
  have R1 := Lib.hid (fun W A c (h : SR W A L) => rwhole_any L A c n W hn h (by omega))
  have hjo := wholeL_join L
  obtain ⟨G, hG⟩ : ∃ G, (wholeL L).1 = G := ⟨_, rfl⟩
  obtain ⟨O, hO⟩ : ∃ O, (wholeL L).2 = O := ⟨_, rfl⟩
  rw [hG, hO] at W1 R1 hjo
  have hjl : (joinG G).length + O.length ≤ 8 := by rw [← List.length_append, hjo, hn]; exact hn8
  have hGl : G.length ≤ 8 := by
    have h := (wholeL_le L L.length (Nat.le_refl _)).1
    rw [List.take_length, hG] at h
    omega
  obtain ⟨m, hm⟩ : ∃ m, G.length = m := ⟨_, rfl⟩
  have SG := Lib.hid (fun W A B c d (h1 : GR W A G) (h2 : GR W B G) => sameG_any A B c d m G W h1 h2 hm (by omega) (fun i => by have := (joinG_len G i).2; omega))
  have SO : Hid (∀ W A B c d, SR W A O → SR W B O → Calls Try.prog 20 #[.slice A O.length c, .slice B O.length d] W fun e w' => e = .returned (.bool true) ∧ Below W.heap.size W w') := Lib.hid (fun W A B c d h1 h2 => by
    have h := jsame_any A B c d O.length O.length O O W h1 h2 rfl rfl (by omega) (by omega)
    rwa [show decide (O = O) = true by simp] at h)
  have SL : Hid (∀ W A B c d, SR W A L → SR W B L → Calls Try.prog 20 #[.slice A n c, .slice B n d] W fun e w' => e = .returned (.bool true) ∧ Below W.heap.size W w') := Lib.hid (fun W A B c d h1 h2 => by
    have h := jsame_any A B c d n n L L W h1 h2 hn hn (by omega) (by omega)
    rwa [show decide (L = L) = true by simp] at h)
  have HJT := Lib.hid (fun i (h : i < m) => joinG_take G i (by omega))
  have HJL := Lib.hid (fun i => joinG_len G i)
  have HJO := Lib.hid hjo
  have HN := Lib.hid hn
  have HM := Lib.hid hm
  have HJW : Hid (G.take m = G) := Lib.hid (List.take_of_length_le (by omega))
  have hm8 : m ≤ 8 := by omega
  rw [hm] at W1 R1
  clear hjo hn hm hN0 hG hO hA0 hL0 hc0 hS0
  go_enter Try.func5, Try.ntmps5
  go_wp2_with fail
  refine (FW.out _ HA0.out).mono ?_
  rintro e w1 ⟨A, c, rfl, hown, hb1⟩
  have HA1 := Lib.hid (own_SR' hown HN.out)
  clear hown FW
  go_wp2_with fail
  refine (W1.out _ _ _ HA1.out).mono ?_
  rintro e w2 ⟨A2, c2, B2, d2, rfl, hg2, ho2, hb2⟩
  have hB2 := bt hb1 hb2
  have HA2 := Lib.hid (HA1.out.later hb2)
  have HG2 := Lib.hid hg2
  have HO2 := Lib.hid (own_SR' ho2 rfl)
  clear hb1 hb2 HA1 W1 hg2 ho2
  go_wp2_with fail
  refine (R1.out _ _ _ HA2.out).mono ?_
  rintro e w3 ⟨A3, c3, B3, d3, rfl, hg3, ho3, hb3⟩
  have k3 := Blk.new w3 49 #[.slice A3 m c3, .slice B3 O.length d3]
  have hbx := bt hb3 (ba (Below.refl w3.heap.size w3) (.cells #[.slice A3 m c3, .slice B3 O.length d3] 49))
  have hB3 := bt hB2 hbx
  have HA3 := HA2.out.later hbx
  have HG3 := HG2.out.later hbx
  have HO3 := HO2.out.later hbx
  have HH3 := hg3.later (ba (Below.refl w3.heap.size w3) (.cells #[.slice A3 m c3, .slice B3 O.length d3] 49))
  have HQ3 := ho3.later (ba (Below.refl w3.heap.size w3) (.cells #[.slice A3 m c3, .slice B3 O.length d3] 49))
  obtain ⟨w5, hw5⟩ : ∃ w5, w3.alloc (.cells #[.slice A3 m c3, .slice B3 O.length d3] 49) = w5 := ⟨_, rfl⟩
  rw [hw5] at k3 hB3 HA3 HG3 HO3 HH3 HQ3
  have H5 := Lib.hid (And.intro HA3 (And.intro HG3 (And.intro HO3 (And.intro HH3 HQ3))))
  have K5 := Lib.hid k3
  clear hbx hB2 HA2 HG2 HO2 hg3 ho3 hb3 HA3 HG3 HO3 HH3 HQ3 R1 k3
  go_wp2_with fail
  clear hw5
  go_loopw [6, 20] (fun av iv wr => ∃ (i : Nat) (A1 : Option Addr) (c1 : Nat), i ≤ m ∧ iv = .int .i64 i ∧ av = .slice A1 (joinG (G.take i)).length c1 ∧ wr.ownsRow w5.heap.size 9 1 (.slice A1 (joinG (G.take i)).length c1) (joinG (G.take i)).length ((joinG (G.take i)).map sv) ∧ Below w5.heap.size w5 wr) (fun _ i _ => m - (intOf i).toNat)
  case atStart => exact ⟨0, none, 0, Nat.zero_le _, rfl, rfl, World.ownsRow_nil _ _ _ _, Below.refl _ _⟩
  case round =>
    obtain ⟨i, A1, c1, hi, rfl, rfl, hown, hb⟩ := hrel
    have HO := Lib.hid hown
    have hjl1 := (HJL.out i).1
    have hjl2 := (HJL.out i).2
    by_cases hlt : i < m
    · obtain ⟨g, off, B, d, rfl, q0, hx⟩ := (H5.out.2.1.later hb) i (by rw [HM.out]; exact hlt)
      have HT1 := HJT.out i hlt
      have z := hb.size
      obtain ⟨P, hP⟩ : ∃ P, joinG (G.take (i + 1)) = P := ⟨_, rfl⟩
      rw [hP] at HT1
      have HPP := Lib.hid hP
      clear hP hown
      generalize joinG (G.take i) = Q at *
      generalize G.getD i [] = X at *
      obtain ⟨k, hk⟩ : ∃ k, Q.length = k := ⟨_, rfl⟩
      obtain ⟨e, he⟩ : ∃ e, X.length = e := ⟨_, rfl⟩
      rw [hk] at HO hjl1 ⊢
      rw [he] at q0 hjl2
      have HPL : Hid (P.length = k + e + 1 ∧ P.map sv = Q.map sv ++ X.map sv ++ [sv []]) := Lib.hid (by rw [HT1]; simp [hk, he]; omega)
      obtain ⟨A6, c6, w6, hrun, hown6, hgr6⟩ := jappend_row (d := d) HO.out hx he (by omega) z
      have hownA := own_later hown6 (ba (Below.refl w6.heap.size w6) (.cells #[sv []] 9))
      have hnews := World.news_of_block (heap_alloc_new w6 (.cells #[sv []] 9))
      have hb6 : Below w5.heap.size w5 w6 := hb.grown hgr6 z (fun i e => (HO.out.lt i e).1)
      have z6 := hb6.size
      have i0 : (0 : Int) ≤ (i : Int) := by omega
      have i1 : (i : Int) < (m : Int) := by omega
      clear HT1 hk he hx hown6 hgr6 HO
      go_wp2_with (first
        | (at_builtin; have hrun2 := hrun; clear hrun; refine Lib.wpList_append_run _ rfl _ _ 23 23 rfl (.slice A1 k c1) (.slice B e d) rfl rfl _ _ hrun2 ?_; clear hrun2)
        | (at_builtin; refine wpList_append_own _ rfl _ _ 23 rfl w5.heap.size 9 ti _ 1 16 Try.underlying23 hi0 hz0 hz1 hz2 rfl (by decide) _ _ _ rfl hownA ⟨w6.heap.size, 0, none⟩ 1 1 [sv []] rfl rfl hnews (by simp [Value.oneCell']) (by unfold maxLen; omega) (by omega) (by simp; omega) ?_; intro v7 w7 hown7 hgr7 _; obtain ⟨g7, c7, rfl⟩ := ownsRow_succ hown7))
      have hb7 : Below w5.heap.size w5 w7 := (ba hb6 _).grown hgr7 (by simp; omega) (fun k e => (hownA.lt k e).1)
      exact ⟨⟨i + 1, some ⟨g7, 0, none⟩, c7, by omega, by go_num, by rw [HPP.out, HPL.out.1], by rw [HPP.out, HPL.out.1, HPL.out.2]; exact hown7, hb7⟩, by simp [intOf]; omega⟩
    · obtain rfl : i = m := by omega
      have hjw := HJW.out
      rw [hjw] at hown
      rw [hjw] at ⊢
      clear HO hjl1 hjl2
      obtain ⟨h1, h2, h3, h4, h5⟩ := H5.out
      have HA5 := Lib.hid h1
      have HB5z := Lib.hid hB3.size
      have A5 := Lib.hid (h1.later hb)
      have G5 := Lib.hid (h2.later hb)
      have O5 := Lib.hid (h3.later hb)
      have X5 := Lib.hid (h4.later hb)
      have Y5 := Lib.hid (h5.later hb)
      have K6 := K5.out.below hb
      have hB5 : Below w.heap.size w wr := bt hB3 hb
      have z5 := hb.size
      clear h1 h2 h3 h4 h5 H5 K5 hjw hB3
      obtain ⟨k, hk⟩ : ∃ k, (joinG G).length = k := ⟨_, rfl⟩
      rw [hk] at hown hjl ⊢
      have HKK := Lib.hid hk
      have HO := Lib.hid hown
      clear hown hk
      go_wp2_with fail
      refine (jalive_any _).mono ?_
      rintro e w6 ⟨rfl, hb6⟩
      have K7 := K6.below hb6
      obtain ⟨k0, k1, _, _⟩ := jcells2 K7
      have A6 := Lib.hid (A5.out.later hb6)
      have G6 := Lib.hid (G5.out.later hb6)
      have O6 := Lib.hid (O5.out.later hb6)
      have X6 := Lib.hid (X5.out.later hb6)
      have Y6 := Lib.hid (Y5.out.later hb6)
      have HO6 := Lib.hid (own_later HO.out hb6)
      have hB6 := bt hB5 hb6
      have hb6' := bt hb hb6
      clear K6 hb6 hB5 hb A5 G5 O5 X5 Y5 HO
      go_wp2_with fail
      refine (SG.out _ _ _ _ _ G6.out X6.out).mono ?_
      rintro e w7 ⟨rfl, hb7⟩
      have K8 := K7.below hb7
      clear k0 k1
      obtain ⟨k0, k1, _, _⟩ := jcells2 K8
      have A7 := Lib.hid (A6.out.later hb7)
      have O7 := Lib.hid (O6.out.later hb7)
      have Y7 := Lib.hid (Y6.out.later hb7)
      have HO7 := Lib.hid (own_later HO6.out hb7)
      have hB7 := bt hB6 hb7
      have hb7' := bt hb6' hb7
      clear K7 hb7 hB6 hb6' A6 G6 O6 X6 Y6 HO6
      go_wp2_with fail
      refine (SO.out _ _ _ _ _ O7.out Y7.out).mono ?_
      rintro e w8 ⟨rfl, hb8⟩
      have A8 := Lib.hid (A7.out.later hb8)
      have O8 := Lib.hid (O7.out.later hb8)
      have HO8 := Lib.hid (own_later HO7.out hb8)
      have hB8 := bt hB7 hb8
      have hb8' := bt hb7' hb8
      clear K8 k0 k1 hb8 hB7 hb7' A7 O7 Y7 HO7
      obtain ⟨A9, c9, w9, hrun, hown9, hgr9⟩ := jappend_row (d := d2) HO8.out O8.out rfl (by omega) (hb8'.size)
      have HL9 : Hid (SR w9 A9 L) := Lib.hid (by
        have h := own_SR' (L := joinG G ++ O) (by rw [List.map_append]; exact hown9) (by rw [List.length_append, HKK.out])
        rwa [HJO.out] at h)
      have hb9 : Below w5.heap.size w5 w9 := hb8'.grown hgr9 hb8'.size (fun i e => (HO8.out.lt i e).1)
      have A9' : Hid (SR w9 A L) := Lib.hid (HA5.out.later hb9)
      have hB9 : Below w.heap.size w w9 := hB8.grown hgr9 hB8.size (fun i e => by have := (HO8.out.lt i e).1; have := HB5z.out; omega)
      have hkn : k + O.length = n := by rw [← HKK.out, ← List.length_append, HJO.out, HN.out]
      rw [hkn] at hrun
      clear hown9 hgr9 HO8 A8 O8 hb8' hb9 hkn hB8
      go_wp2_with (at_builtin; refine jlist_append_run _ (by kernel_rfl) _ _ 23 23 rfl (.slice A1 k c1) (.slice B2 O.length d2) rfl rfl _ _ hrun ?_; clear hrun)
      refine (SL.out _ _ _ _ _ HL9.out A9'.out).mono ?_
      rintro e w10 ⟨rfl, hb10⟩
      go_wp2
      go_ret
      exact ⟨rfl, bt hB9 hb10⟩
end Go.Proofs.Ytfmlpomnhkjolaa
