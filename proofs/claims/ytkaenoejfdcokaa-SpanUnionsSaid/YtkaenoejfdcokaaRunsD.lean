/- The reference's Runs. -/
import Derived.Test.YtkaenoejfdcokaaRunsC
import Derived.Deep.DeepCutAuto
import Derived.Deep.CutRange
namespace Go.Proofs.Ytkaenoejfdcokaa
open Go.RowKit Go.Shelf

theorem info49 : (Try.prog.info? 49).map (fun i => (i.zero, i.size, i.bytes)) = some (some (.agg #[.int .u64 0, .int .u64 0]), 2, 16) := by kernel_rfl
/-- grown of a span of a row, told by the ends that hold it. -/
theorem grown_z (L : List (Int × Int)) (hl : L.length ≤ maxLen) (g off c : Nat) (w W : World) (hg : g < w.heap.size) (hW : Below w.heap.size w W)
    (Hh : Hid (∀ j (hj : j < L.length), w.cell? ⟨g, off + j * 2, none⟩ = some (.int .u64 L[j].1) ∧ w.cell? ⟨g, off + j * 2 + 1, none⟩ = some (.int .u64 L[j].2)))
    (Ho : Hid (∀ p ∈ L, OkP p)) (p : Int × Int) (hp : OkP p) (z : E64) (hz : growR L L.length (endsP p) = z.1) :
    Calls Try.prog 40 #[.slice (some ⟨g, off, none⟩) L.length c, .agg #[.int .u64 p.1, .int .u64 (p.1 + (p.2 - 1))]] W fun e w' => e = .returned (.agg #[.int .u64 z.1.1, .int .u64 z.1.2]) ∧ Below W.heap.size W w' := by
  have h := grown_is L hl g off c W (Nat.lt_of_lt_of_le hg hW.size) (fun j hj => ⟨(hW.cell (p := ⟨g, off + j * 2, none⟩) hg).trans (Hh.out j hj).1, (hW.cell (p := ⟨g, off + j * 2 + 1, none⟩) hg).trans (Hh.out j hj).2⟩) Ho (endsP p) (rng_ends hp)
  rw [hz] at h
  exact h

theorem held_later {wr W W' : World} {b : Nat} {x y : Value} (h : W.cell? ⟨b, 0, none⟩ = some x ∧ W.cell? ⟨b, 1, none⟩ = some y ∧ Below wr.heap.size wr W) (hb : Below W.heap.size W W') : W'.cell? ⟨b, 0, none⟩ = some x ∧ W'.cell? ⟨b, 1, none⟩ = some y ∧ Below wr.heap.size wr W' :=
  ⟨cell_later hb h.1, cell_later hb h.2.1, bt h.2.2 hb⟩
theorem held_alloc {wr W : World} {b : Nat} {x y : Value} (h : W.cell? ⟨b, 0, none⟩ = some x ∧ W.cell? ⟨b, 1, none⟩ = some y ∧ Below wr.heap.size wr W) (o : Obj) : (W.alloc o).cell? ⟨b, 0, none⟩ = some x ∧ (W.alloc o).cell? ⟨b, 1, none⟩ = some y ∧ Below wr.heap.size wr (W.alloc o) :=
  held_later h ((Below.refl _ _).alloc (Nat.le_refl _) o)

theorem held_sets {wr W : World} {b b2 : Nat} {x y u v : Value} (h : W.cell? ⟨b, 0, none⟩ = some x ∧ W.cell? ⟨b, 1, none⟩ = some y ∧ Below wr.heap.size wr W) (h1 : b < b2) (h2 : wr.heap.size ≤ b2) : ((W.setCell ⟨b2, 0, none⟩ u).setCell ⟨b2, 1, none⟩ v).cell? ⟨b, 0, none⟩ = some x ∧ ((W.setCell ⟨b2, 0, none⟩ u).setCell ⟨b2, 1, none⟩ v).cell? ⟨b, 1, none⟩ = some y ∧ Below wr.heap.size wr ((W.setCell ⟨b2, 0, none⟩ u).setCell ⟨b2, 1, none⟩ v) := by
  have e : ∀ o, ((W.setCell ⟨b2, 0, none⟩ u).setCell ⟨b2, 1, none⟩ v).cell? ⟨b, o, none⟩ = W.cell? ⟨b, o, none⟩ := fun o => by
    have h0 : ((W.setCell ⟨b2, 0, none⟩ u).setCell ⟨b2, 1, none⟩ v).heap[b]? = W.heap[b]? := (Below.heap_setCell _ ⟨b2, 1, none⟩ v b (by show b ≠ b2; omega)).trans (Below.heap_setCell W ⟨b2, 0, none⟩ u b (by show b ≠ b2; omega))
    exact World.cell?_of_block (a := ⟨b, o, none⟩) h0
  exact ⟨(e 0).trans h.1, (e 1).trans h.2.1, bs (bs h.2.2 h2 _) h2 _⟩


theorem own_row {W : World} {base : Nat} {e : TypeId} {g1 c1 : Nat} {O : List E64} (h : W.ownsRow base e 2 (.slice (some ⟨g1, 0, none⟩) O.length c1) O.length (rowCells (endPairs O))) :
    base ≤ g1 ∧ g1 < W.heap.size ∧ O.length ≤ c1 ∧ c1 ≤ maxLen ∧ (∀ j (hj : j < O.length), W.cell? ⟨g1, j * 2, none⟩ = some (.int .u64 (O[j]).1.1) ∧ W.cell? ⟨g1, j * 2 + 1, none⟩ = some (.int .u64 (O[j]).1.2)) ∧
    ∀ j u, (rowCells (endPairs O))[j]? = some u → W.cell? ⟨g1, j, none⟩ = some u := by
  obtain ⟨hx, ⟨e, _⟩ | ⟨g, cap, cur, e, hg, hh, hle, hcap, hsz, htk⟩⟩ := h
  · cases e
  · cases e
    have hall : ∀ j u, (rowCells (endPairs O))[j]? = some u → W.cell? ⟨g1, j, none⟩ = some u := fun j u hu => by
      have hj : j < (rowCells (endPairs O)).length := (List.getElem?_eq_some_iff.1 hu).1
      rw [← htk, List.getElem?_take] at hu
      rw [if_pos (by rw [hx] at hj; exact hj)] at hu
      simp only [Array.getElem?_toList] at hu
      simpa [World.cell?, hh] using hu
    refine ⟨hg, (Array.getElem?_eq_some_iff.1 hh).1, hle, hcap, fun j hj => ?_, hall⟩
    have hj' : j < (endPairs O).length := by simpa [endPairs] using hj
    obtain ⟨r0, r1⟩ := rowCells_at (endPairs O) j hj'
    have he : (endPairs O)[j] = (O[j]).1 := by simp [endPairs]
    rw [he] at r0 r1
    exact ⟨hall _ _ r0, hall _ _ r1⟩
theorem own_some {W : World} {base : Nat} {e : TypeId} {size n : Nat} {v : Value} {xs : List Value} (h : W.ownsRow base e size v n xs) (hn : n ≠ 0) : ∃ g c, v = .slice (some ⟨g, 0, none⟩) n c := by
  cases n with
  | zero => exact absurd rfl hn
  | succ n => exact ownsRow_succ h
theorem take_len (O : List E64) (pl : Nat) (h : pl ≤ O.length) : (rowCells ((endPairs O).take pl)).length = pl * 2 := by rw [rowCells_length]; simp [endPairs]; omega
theorem drop_len (O : List E64) (pl : Nat) : (rowCells ((endPairs O).drop pl)).length = (O.length - pl) * 2 := by rw [rowCells_length]; simp [endPairs]
theorem rowCells_append (A B : List (Int × Int)) : rowCells (A ++ B) = rowCells A ++ rowCells B := by simp [rowCells]
theorem cells_take' {W : World} {g1 : Nat} {A : List (Int × Int)} (h : ∀ j u, (rowCells A)[j]? = some u → W.cell? ⟨g1, j, none⟩ = some u) (pl : Nat) : ∀ j u, (rowCells (A.take pl))[j]? = some u → W.cell? ((⟨g1, 0, none⟩ : Addr).add j) = some u := fun j u hu => by
  rw [Go.WideShapes.add_plain, Nat.zero_add]
  refine h j u ?_
  have : rowCells A = rowCells (A.take pl) ++ rowCells (A.drop pl) := by rw [← rowCells_append, List.take_append_drop]
  rw [this, List.getElem?_append_left (List.getElem?_eq_some_iff.1 hu).1]
  exact hu
theorem cells_drop' {W : World} {g1 : Nat} {A : List (Int × Int)} (h : ∀ j u, (rowCells A)[j]? = some u → W.cell? ⟨g1, j, none⟩ = some u) (pl : Nat) (hpl : pl ≤ A.length) : ∀ j u, (rowCells (A.drop pl))[j]? = some u → W.cell? ((⟨g1, pl * 2, none⟩ : Addr).add j) = some u := fun j u hu => by
  rw [Go.WideShapes.add_plain]
  refine h _ u ?_
  have e : rowCells A = rowCells (A.take pl) ++ rowCells (A.drop pl) := by rw [← rowCells_append, List.take_append_drop]
  have hl : (rowCells (A.take pl)).length = pl * 2 := by rw [rowCells_length, List.length_take]; omega
  rw [e, List.getElem?_append_right (by omega), hl, Nat.add_sub_cancel_left]
  exact hu
theorem put_cells {O V : List E64} {z : E64} {pl : Nat} (h : O.take pl ++ z :: O.drop pl = V) : rowCells (endPairs V) = rowCells ((endPairs O).take pl) ++ [.int .u64 z.1.1, .int .u64 z.1.2] ++ rowCells ((endPairs O).drop pl) := by
  rw [← h, endPairs_put, rowCells_append, List.append_assoc]
  rfl
theorem put_len {O V : List E64} {z : E64} {pl : Nat} (h : O.take pl ++ z :: O.drop pl = V) (hpl : pl ≤ O.length) : V.length = 0 + pl + 1 + (O.length - pl) := by
  rw [← h]; simp; omega

set_option maxRecDepth 100000 in
set_option maxHeartbeats 8000000 in
theorem runs_is (L : List (Int × Int)) (zs : List E64) (hl : L.length ≤ 4096) (g off c : Nat) (w : World) (hg : g < w.heap.size) (hzl : zs.length ≤ 4096)
    (Hh : Hid (∀ j (hj : j < L.length), w.cell? ⟨g, off + j * 2, none⟩ = some (.int .u64 L[j].1) ∧ w.cell? ⟨g, off + j * 2 + 1, none⟩ = some (.int .u64 L[j].2)))
    (Ho : Hid (∀ p ∈ L, OkP p)) (HG : Hid (Gaps zs)) (HC : Hid (∀ x, cov zs x ↔ covP L x)) :
    Calls Try.prog 24 #[.slice (some ⟨g, off, none⟩) L.length c] w fun e w' => ∃ v, e = .returned v ∧ w'.ownsRow w.heap.size 49 2 v zs.length (rowCells (endPairs zs)) ∧ Below w.heap.size w w' := by
  obtain ⟨i1, hi, hz0, hz1, hz2⟩ := info_parts info49
  go_enter Try.func24, Try.ntmps24
  go_wp2
  go_loopw [3, 15] (fun sv i wr => ∃ k : Nat, k ≤ L.length ∧ i = .int .i64 k ∧ (∃ g1 c1, sv = .slice (some ⟨g1, 0, none⟩) (outK zs L k).length c1) ∧ wr.ownsRow w.heap.size 49 2 sv (outK zs L k).length (rowCells (endPairs (outK zs L k))) ∧ Below w.heap.size w wr) (fun _ i _ => L.length - (intOf i).toNat)
  case atStart => exact ⟨0, Nat.zero_le _, rfl, by rw [outK_zero]; exact ⟨_, _, rfl⟩, by rw [outK_zero]; exact owns_empty (World.alloc_heap_new _ _) (Nat.le_refl _), ba (Below.refl _ _) _⟩
  case round =>
    obtain ⟨k, hk, rfl, ⟨g1, c1, rfl⟩, hown, hb⟩ := hrel
    by_cases hlt : k < L.length
    · obtain ⟨z, hz, hgz, hin⟩ := grow_is HG.out HC.out Ho.out (List.getElem_mem hlt)
      have HP : Hid (OkP L[k]) := Ho.out _ (List.getElem_mem hlt)
      have p0 := (hb.cell (p := ⟨g, off + k * 2, none⟩) hg).trans (Hh.out k hlt).1
      have p1 := (hb.cell (p := ⟨g, off + k * 2 + 1, none⟩) hg).trans (Hh.out k hlt).2
      have HI := Lib.hid hin
      have HZ := Lib.hid hgz
      clear hin hgz
      obtain ⟨p, hp⟩ : ∃ p, p = L[k] := ⟨_, rfl⟩
      rw [← hp] at p0 p1 HP HZ
      have HE := Lib.hid hp
      clear hp
      obtain ⟨O, hO⟩ : ∃ O, O = outK zs L k := ⟨_, rfl⟩
      rw [← hO] at hown
      have HO := Lib.hid hO
      have hOl : (outK zs L k).length = O.length := by rw [hO]
      rw [hOl]
      clear hO hOl
      obtain ⟨o0, o1, o2⟩ := HP.out
      go_upto_region 5 with (fail)
      have bS := Box2.new wr 24 (.int .u64 p.1) (.int .u64 p.2)
      have hbS : Below wr.heap.size wr (wr.alloc (.cells #[.int .u64 p.1, .int .u64 p.2] 24)) := (Below.refl _ _).alloc (Nat.le_refl _) (.cells #[.int .u64 p.1, .int .u64 p.2] 24)
      go_cut [6] from 19 to 25 (fun s6 wx => ∃ B6, s6 = .pointer (some ⟨B6, 0, none⟩) ∧ wr.heap.size < B6 ∧ Box2 wx B6 49 (.int .u64 z.1.1) (.int .u64 z.1.2) ∧ Below wr.heap.size wr wx)
      case first =>
        go_region_held3 (fun W => W.cell? ⟨wr.heap.size, 0, none⟩ = some (.int .u64 p.1) ∧ W.cell? ⟨wr.heap.size, 1, none⟩ = some (.int .u64 p.2) ∧ Below wr.heap.size wr W) (first | assumption | exact ⟨bS.cell0, bS.cell1, hbS.drew⟩ | exact held_alloc (by assumption) _ | exact held_sets (by assumption) (by first | omega | (simp only [World.size_alloc]; omega)) (by first | omega | (simp only [World.size_alloc]; omega)) | go_keep) (first
          | (go_at_call 13; refine (rlast_ok p.1 p.2 _ o0 o1 o2).mono ?_; rintro e wL ⟨rfl, hbL⟩; have hSL := held_later (by assumption) hbL; have zL := World.block_lt_of_cell? _ _ hSL.1; (first | (have bN := (Box2.new _ 49 (.int .u64 0) (.int .u64 0)).below hbL) | (have bN := (Box2.new _ 49 (.int .u64 0) (.int .u64 0)).drew.below hbL) | skip))
          | (go_at_call 40; refine (grown_z L (by unfold maxLen; omega) g off c w _ hg (hb.trans ((by assumption : _ ∧ _ ∧ Below wr.heap.size wr _).2.2.mono hb.size)) Hh Ho p HP.out z HZ.out).mono ?_; rintro e wG ⟨rfl, hbG⟩; have hSG := held_later (by assumption) hbG; have zG := World.block_lt_of_cell? _ _ hSG.1; (first | (have bM := bN.below hbG) | (have bM := (Box2.new _ 49 (.int .u64 0) (.int .u64 0)).below hbG) | skip); (try simp only [World.size_alloc] at bM); try (have m0 := bM.cell0; have m1 := bM.cell1; have m2 := bM.frozen 0; have m3 := bM.frozen 1; have m4 := bM.lt)))
        · go_wp2_with fail
          go_meet
          exact ⟨_, rfl, zG, Box2.new wG _ _ _, ba hSG.2.2 _⟩
        · go_wp2_with fail
          go_meet
          exact ⟨_, rfl, zL, (bM.set0 _).set1 _, bs (bs hSG.2.2 (Nat.le_of_lt zL) _) (Nat.le_of_lt zL) _⟩
        · go_wp2_with fail
          go_meet
          exact ⟨_, rfl, Nat.lt_succ_self _, (bM.set0 _).set1 _, bs (bs hSG.2.2 (Nat.le_succ _) _) (Nat.le_succ _) _⟩
      case rest =>
        obtain ⟨B6, rfl, hB6, bZ, hbZ⟩ := hcut
        clear bS hbS
        obtain ⟨hg1, hgl, hOc, hcm, hcells, hall⟩ := own_row hown
        have HA : Hid (∀ j u, (rowCells (endPairs O))[j]? = some u → wc.cell? ⟨g1, j, none⟩ = some u) := fun j u hu => cell_later hbZ (hall j u hu)
        have HCl := Lib.hid hcells
        have HO' : Hid (∀ o ∈ O, o ∈ zs) := fun o ho => by rw [HO.out] at ho; exact (mem_outK.1 ho).1
        have HGO : Hid (Gaps O) := by show Gaps O; rw [HO.out]; exact outK_gaps HG.out L k
        have hOl : O.length ≤ 4096 := by rw [HO.out]; exact Nat.le_trans (outK_len zs L k) hzl
        unfold maxLen at hcm
        clear hcells hall
        have hbc := bt hb hbZ
        have hgc : g1 < wc.heap.size := Nat.lt_of_lt_of_le hgl hbZ.size
        have hownc := ownsRow_below hown hbZ
        go_wp2
        go_loopw [7, 8, 28] (fun sp st j wi => ∃ t pl : Nat, t ≤ O.length ∧ j = .int .i64 t ∧ sp = .int .i64 pl ∧ st = .bool (thereB O z t) ∧ PlaceOk O z t pl ∧ Below wc.heap.size wc wi) (fun _ _ j _ => O.length - (intOf j).toNat)
        case atStart => exact ⟨0, 0, Nat.zero_le _, rfl, rfl, by rw [there_zero], place_zero _ _, Below.refl _ _⟩
        case round =>
          obtain ⟨t, pl, ht, rfl, rfl, rfl, hpl, hbi⟩ := hrel
          have HPl := Lib.hid hpl
          have hplt := hpl.1
          clear hpl
          have bZi := bZ.below hbi
          have zi0 := bZi.cell0
          have zi1 := bZi.cell1
          have ziz : B6 < wr.heap.size := bZi.lt
          by_cases htl : t < O.length
          · have q0 := ((hbZ.cell (p := ⟨g1, t * 2, none⟩) hgl).trans (HCl.out t htl).1)
            have q1 := ((hbZ.cell (p := ⟨g1, t * 2 + 1, none⟩) hgl).trans (HCl.out t htl).2)
            have q0 := (hbi.cell (p := ⟨g1, t * 2, none⟩) hgc).trans q0
            have q1 := (hbi.cell (p := ⟨g1, t * 2 + 1, none⟩) hgc).trans q1
            have hgi : g1 < wr.heap.size := Nat.lt_of_lt_of_le hgc hbi.size
            have HT := Lib.hid (there_succ (z := z) htl)
            have HM := HO'.out _ (List.getElem_mem htl)
            have HLt := Lib.hid (place_lt HGO.out HPl.out htl)
            have HGe := Lib.hid (place_ge HPl.out htl)
            obtain ⟨o, ho⟩ : ∃ o, o = O[t] := ⟨_, rfl⟩
            rw [← ho] at q0 q1 HT HM HLt HGe
            have HM' := Lib.hid HM
            clear ho HM
            obtain ⟨bb, hbb⟩ : ∃ bb, bb = thereB O z t := ⟨_, rfl⟩
            rw [← hbb] at HT ⊢
            clear hbb
            have hbi2 := ba hbi (.cells #[.int .u64 o.1.1, .int .u64 o.1.2] 49)
            cases bb with
            | true =>
              by_cases hc : o.1.1 < z.1.1
              · go_wp2
                exact ⟨⟨t + 1, t + 1, by omega, by go_num, by go_num, by rw [HT.out]; simp, HLt.out hc, hbi2⟩, by simp [intOf]; omega⟩
              · have hd : decide (o.1.1 < z.1.1) = false := by simpa using hc
                have HD := Lib.hid hc
                clear hc
                go_wp2
                exact ⟨⟨t + 1, pl, by omega, by go_num, rfl, by rw [HT.out]; simp, HGe.out HD.out, hbi2⟩, by simp [intOf]; omega⟩
            | false =>
              by_cases he : o = z
              · have HE2 := Lib.hid he
                rw [he] at q0 q1 hbi2
                clear he
                go_wp2
                exact ⟨⟨t + 1, pl, by omega, by go_num, rfl, by rw [HT.out, HE2.out]; simp, HGe.out (by rw [HE2.out]; omega), hbi2⟩, by simp [intOf]; omega⟩
              · have hne := first_ne HG.out HM'.out hz he
                have HE2 := Lib.hid he
                have hq : (o.1.1 == z.1.1) = false := by simpa using hne
                clear he hne
                by_cases hc : o.1.1 < z.1.1
                · go_wp2
                  exact ⟨⟨t + 1, t + 1, by omega, by go_num, by go_num, by rw [HT.out, decide_eq_false HE2.out]; simp, HLt.out hc, hbi2⟩, by simp [intOf]; omega⟩
                · have hd : decide (o.1.1 < z.1.1) = false := by simpa using hc
                  have HD := Lib.hid hc
                  clear hc
                  go_wp2
                  exact ⟨⟨t + 1, pl, by omega, by go_num, rfl, by rw [HT.out, decide_eq_false HE2.out]; simp, HGe.out HD.out, hbi2⟩, by simp [intOf]; omega⟩
          · obtain rfl : t = O.length := by omega
            have HTA : Hid (thereB O z O.length = true ↔ z ∈ O) := there_all
            obtain ⟨bb, hbb⟩ : ∃ bb, bb = thereB O z O.length := ⟨_, rfl⟩
            rw [← hbb] at HTA ⊢
            clear hbb
            have hbiw := bt hbc hbi
            have howni := ownsRow_below hownc hbi
            have HIn : Hid (InR z.1 L[k]) := HI.out
            cases bb with
            | true =>
              have HK1 : Hid (outK zs L (k + 1) = O) := by
                have hm := HTA.out.1 rfl
                rw [HO.out] at hm
                exact (outK_there HG.out Ho.out hlt hz HIn.out hm).trans HO.out.symm
              go_wp2
              exact ⟨⟨k + 1, by omega, by go_num, by rw [HK1.out]; exact ⟨_, _, rfl⟩, by rw [HK1.out]; exact howni, hbiw⟩, by simp [intOf]; omega⟩
            | false =>
              have HK1 : Hid (O.take pl ++ z :: O.drop pl = outK zs L (k + 1)) := by
                have hm : z ∉ outK zs L k := fun h => by rw [← HO.out] at h; exact absurd (HTA.out.2 h) (by decide)
                have hp := HPl.out
                rw [HO.out] at hp
                have := outK_put HG.out Ho.out hlt hz HIn.out hm hp
                rw [← HO.out] at this
                exact this
              have hpO := hplt
              have hownM : (wr.alloc (.cells #[] 49)).ownsRow wr.heap.size 49 2 (.slice (some ⟨wr.heap.size, 0, none⟩) 0 0) 0 [] := owns_empty (World.alloc_heap_new _ _) (Nat.le_refl _)
              have hbM : Below wc.heap.size wc (wr.alloc (.cells #[] 49)) := ba hbi _
              have hbM' : Below wr.heap.size wr (wr.alloc (.cells #[] 49)) := (Below.refl _ _).alloc (Nat.le_refl _) _
              have i0 : (0 : Int) ≤ (pl : Int) := by omega
              have i1' : (pl : Int) ≤ (O.length : Int) := by omega
              have i2 : (pl : Int) ≤ (c1 : Int) := by omega
              have i3 : (O.length : Int) ≤ (c1 : Int) := by omega
              by_cases hpc : pl = c1
              · have hOe : O.length = pl := by omega
                have HOe := Lib.hid hOe
                obtain rfl : pl = c1 := hpc
                by_cases hp0 : pl = 0
                · subst hp0
                  have hO0 : O = [] := List.length_eq_zero_iff.1 hOe
                  clear hOe i0 i1' i2 i3
                  subst hO0
                  have HK2 : Hid (outK zs L (k + 1) = [z]) := by show outK zs L (k + 1) = [z]; rw [← HK1.out]; rfl
                  go_wp2_with (first | (at_builtin; refine wpList_append_own _ rfl (.tmp 50) (.tmp 53) 46 rfl wr.heap.size 49 i1 (.agg #[.int .u64 0, .int .u64 0]) 2 16 Try.underlying46 hi hz0 hz1 hz2 rfl (by decide) _ _ _ rfl hownM _ _ _ [] rfl (by first | rfl | (simp; done)) (fun j u h => by cases h) (fun u h => by cases h) (by unfold maxLen; omega) (by omega) (by simp) ?_; intro v7 w7 hown7 hgrow7 _; have hb7 : Below wr.heap.size wr w7 := hbM'.grown hgrow7 hbM'.size (ownsRow_from hownM); obtain ⟨va7, vn7, vc7, rfl⟩ := ownsRow_slice hown7; have bZ7 := bZi.below hb7; have z70 := bZ7.cell0; have z71 := bZ7.cell1; have z7z : B6 < w7.heap.size := bZ7.lt; have hown7a := ownsRow_below hown7 ((Below.refl _ _).alloc (Nat.le_refl _) (.cells #[.int .u64 z.1.1, .int .u64 z.1.2] 49)); have hb7a := ba hb7 (.cells #[.int .u64 z.1.1, .int .u64 z.1.2] 49)) | (at_builtin; refine wpList_append_own _ rfl (.tmp 55) (.tmp 57) 46 rfl wr.heap.size 49 i1 (.agg #[.int .u64 0, .int .u64 0]) 2 16 Try.underlying46 hi hz0 hz1 hz2 rfl (by decide) _ _ _ rfl hown7a ⟨w7.heap.size, 0, none⟩ 1 1 [.int .u64 z.1.1, .int .u64 z.1.2] rfl (rfl) (cell_two_new _ _ _ _) (by simp [Value.oneCell']) (by unfold maxLen; omega) (by omega) hb7a.size ?_; intro v8 w8 hown8 hgrow8 _; have hb8 : Below wr.heap.size wr w8 := hb7a.grown hgrow8 hb7a.size (ownsRow_from hown7a); obtain ⟨va8, vn8, vc8, rfl⟩ := ownsRow_slice hown8; have hb8c := bt hbi hb8) | (at_builtin; refine wpList_append_own _ rfl (.tmp 59) (.tmp 62) 46 rfl wr.heap.size 49 i1 (.agg #[.int .u64 0, .int .u64 0]) 2 16 Try.underlying46 hi hz0 hz1 hz2 rfl (by decide) _ _ _ rfl hown8 _ _ _ [] rfl (by first | (simp; done) | (simp; omega)) (fun j u h => by cases h) (fun u h => by cases h) (by unfold maxLen; omega) (by omega) hb8.size ?_; intro v9 w9 hown9 hgrow9 _; have hb9 : Below wr.heap.size wr w9 := hb8.grown hgrow9 hb8.size (ownsRow_from hown8); have hfin : w9.ownsRow w.heap.size 49 2 v9 (outK zs L (k + 1)).length (rowCells (endPairs (outK zs L (k + 1)))) := by rw [HK2.out]; exact ownsRow_mono hown9 hbiw.size))
                  exact ⟨⟨k + 1, by omega, by go_num, own_some hfin (by rw [HK2.out]; simp), hfin, bt hbiw hb9⟩, by simp [intOf]; omega⟩
                · have hp0' : ¬ 0 = pl := fun e => hp0 e.symm
                  clear hOe
                  go_wp2_with (first | (at_builtin; refine wpList_append_own _ rfl (.tmp 50) (.tmp 53) 46 rfl wr.heap.size 49 i1 (.agg #[.int .u64 0, .int .u64 0]) 2 16 Try.underlying46 hi hz0 hz1 hz2 rfl (by decide) _ _ _ rfl hownM _ _ _ (rowCells ((endPairs O).take pl)) rfl (take_len O pl hpO) (fun j u h => cell_later hbM (cells_take' HA.out pl j u h)) (rowCells_one _) (by unfold maxLen; omega) (by omega) (by simp) ?_; intro v7 w7 hown7 hgrow7 _; have hb7 : Below wr.heap.size wr w7 := hbM'.grown hgrow7 hbM'.size (ownsRow_from hownM); obtain ⟨va7, vn7, vc7, rfl⟩ := ownsRow_slice hown7; have bZ7 := bZi.below hb7; have z70 := bZ7.cell0; have z71 := bZ7.cell1; have z7z : B6 < w7.heap.size := bZ7.lt; have hown7a := ownsRow_below hown7 ((Below.refl _ _).alloc (Nat.le_refl _) (.cells #[.int .u64 z.1.1, .int .u64 z.1.2] 49)); have hb7a := ba hb7 (.cells #[.int .u64 z.1.1, .int .u64 z.1.2] 49)) | (at_builtin; refine wpList_append_own _ rfl (.tmp 55) (.tmp 57) 46 rfl wr.heap.size 49 i1 (.agg #[.int .u64 0, .int .u64 0]) 2 16 Try.underlying46 hi hz0 hz1 hz2 rfl (by decide) _ _ _ rfl hown7a ⟨w7.heap.size, 0, none⟩ 1 1 [.int .u64 z.1.1, .int .u64 z.1.2] rfl (rfl) (cell_two_new _ _ _ _) (by simp [Value.oneCell']) (by unfold maxLen; omega) (by omega) hb7a.size ?_; intro v8 w8 hown8 hgrow8 _; have hb8 : Below wr.heap.size wr w8 := hb7a.grown hgrow8 hb7a.size (ownsRow_from hown7a); obtain ⟨va8, vn8, vc8, rfl⟩ := ownsRow_slice hown8; have hb8c := bt hbi hb8) | (at_builtin; refine wpList_append_own _ rfl (.tmp 59) (.tmp 62) 46 rfl wr.heap.size 49 i1 (.agg #[.int .u64 0, .int .u64 0]) 2 16 Try.underlying46 hi hz0 hz1 hz2 rfl (by decide) _ _ _ rfl hown8 _ _ _ [] rfl (by first | (simp; done) | (simp; omega)) (fun j u h => by cases h) (fun u h => by cases h) (by unfold maxLen; omega) (by omega) hb8.size ?_; intro v9 w9 hown9 hgrow9 _; have hb9 : Below wr.heap.size wr w9 := hb8.grown hgrow9 hb8.size (ownsRow_from hown8); have hfin : w9.ownsRow w.heap.size 49 2 v9 (outK zs L (k + 1)).length (rowCells (endPairs (outK zs L (k + 1)))) := by rw [put_len HK1.out hpO, put_cells HK1.out, List.drop_eq_nil_of_le (show (endPairs O).length ≤ pl by rw [endPairs, List.length_map]; omega)]; first | exact ownsRow_mono hown9 hbiw.size | (rw [show O.length - pl = 0 by omega]; exact ownsRow_mono hown9 hbiw.size)))
                  exact ⟨⟨k + 1, by omega, by go_num, own_some hfin (by rw [put_len HK1.out hpO]; omega), hfin, bt hbiw hb9⟩, by simp [intOf]; omega⟩
              · have hk1 : ¬ c1 = pl := fun e => hpc e.symm
                go_wp2_with (first | (at_builtin; refine wpList_append_own _ rfl (.tmp 50) (.tmp 53) 46 rfl wr.heap.size 49 i1 (.agg #[.int .u64 0, .int .u64 0]) 2 16 Try.underlying46 hi hz0 hz1 hz2 rfl (by decide) _ _ _ rfl hownM ⟨g1, 0, none⟩ pl c1 (rowCells ((endPairs O).take pl)) rfl (take_len O pl hpO) (fun j u h => cell_later hbM (cells_take' HA.out pl j u h)) (rowCells_one _) (by unfold maxLen; omega) (by omega) (by simp) ?_; intro v7 w7 hown7 hgrow7 _; have hb7 : Below wr.heap.size wr w7 := hbM'.grown hgrow7 hbM'.size (ownsRow_from hownM); obtain ⟨va7, vn7, vc7, rfl⟩ := ownsRow_slice hown7; have bZ7 := bZi.below hb7; have z70 := bZ7.cell0; have z71 := bZ7.cell1; have z7z : B6 < w7.heap.size := bZ7.lt; have hown7a := ownsRow_below hown7 ((Below.refl _ _).alloc (Nat.le_refl _) (.cells #[.int .u64 z.1.1, .int .u64 z.1.2] 49)); have hb7a := ba hb7 (.cells #[.int .u64 z.1.1, .int .u64 z.1.2] 49)) | (at_builtin; refine wpList_append_own _ rfl (.tmp 55) (.tmp 57) 46 rfl wr.heap.size 49 i1 (.agg #[.int .u64 0, .int .u64 0]) 2 16 Try.underlying46 hi hz0 hz1 hz2 rfl (by decide) _ _ _ rfl hown7a ⟨w7.heap.size, 0, none⟩ 1 1 [.int .u64 z.1.1, .int .u64 z.1.2] rfl (rfl) (cell_two_new _ _ _ _) (by simp [Value.oneCell']) (by unfold maxLen; omega) (by omega) hb7a.size ?_; intro v8 w8 hown8 hgrow8 _; have hb8 : Below wr.heap.size wr w8 := hb7a.grown hgrow8 hb7a.size (ownsRow_from hown7a); obtain ⟨va8, vn8, vc8, rfl⟩ := ownsRow_slice hown8; have hb8c := bt hbi hb8) | (at_builtin; refine wpList_append_own _ rfl (.tmp 59) (.tmp 62) 46 rfl wr.heap.size 49 i1 (.agg #[.int .u64 0, .int .u64 0]) 2 16 Try.underlying46 hi hz0 hz1 hz2 rfl (by decide) _ _ _ rfl hown8 _ _ _ (rowCells ((endPairs O).drop pl)) rfl (drop_len O pl) (fun j u h => cell_later hb8c (cells_drop' HA.out pl (by simpa [endPairs] using hpO) j u h)) (rowCells_one _) (by unfold maxLen; omega) (by omega) hb8.size ?_; intro v9 w9 hown9 hgrow9 _; have hb9 : Below wr.heap.size wr w9 := hb8.grown hgrow9 hb8.size (ownsRow_from hown8); have hfin : w9.ownsRow w.heap.size 49 2 v9 (outK zs L (k + 1)).length (rowCells (endPairs (outK zs L (k + 1)))) := by rw [put_len HK1.out hpO, put_cells HK1.out]; exact ownsRow_mono hown9 hbiw.size))
                exact ⟨⟨k + 1, by omega, by go_num, own_some hfin (by rw [put_len HK1.out hpO]; omega), hfin, bt hbiw hb9⟩, by simp [intOf]; omega⟩
    · obtain rfl : k = L.length := by omega
      rw [outK_all HG.out HC.out Ho.out] at hown ⊢
      go_wp2
      go_ret
      exact ⟨_, rfl, hown, hb⟩
end Go.Proofs.Ytkaenoejfdcokaa
