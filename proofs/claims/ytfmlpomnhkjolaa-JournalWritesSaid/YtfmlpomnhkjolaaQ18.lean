/- Texts of this seat, one behind the other: JRScan, JScansW, JWritesW. -/
import Derived.Test.YtfmlpomnhkjolaaQ16
import Derived.Test.YtfmlpomnhkjolaaQ17
/- The contract of the reference's Scan. -/
namespace Go.Proofs.Ytfmlpomnhkjolaa
open Go.RowKit

theorem jcells {W : World} {g : Nat} {t : TypeId} {x y z : Value} (h : Blk W g t #[x, y, z]) :
    (W.cell? ⟨g, 0, none⟩ = some x ∧ W.cell? ⟨g, 1, none⟩ = some y ∧ W.cell? ⟨g, 2, none⟩ = some z) ∧ W.frozen? ⟨g, 0, none⟩ = false ∧ W.frozen? ⟨g, 1, none⟩ = false ∧ W.frozen? ⟨g, 2, none⟩ = false :=
  ⟨⟨h.cell 0, h.cell 1, h.cell 2⟩, h.frozen 0, h.frozen 1, h.frozen 2⟩
theorem svs_more (L : List (List UInt8)) (j : Nat) (h : j < L.length) : (L.take (j + 1)).map sv = (L.take j).map sv ++ [sv (L.getD j [])] := by
  rw [take_more L j h, List.map_append]
  simp only [List.map_cons, List.map_nil, List.getD, h, List.getElem?_eq_getElem, Option.getD_some]
/-- Two cells of a block, and what is new. -/
theorem two_of {w0 W : World} {b : Nat} {t : TypeId} {u x y : Value} (h : Blk w0 b t #[u, x, y]) (hB : Below w0.heap.size w0 W) : W.cell? ⟨b, 1, none⟩ = some x ∧ W.cell? ⟨b, 2, none⟩ = some y ∧ Below w0.heap.size w0 W :=
  ⟨(h.below hB).cell 1, (h.below hB).cell 2, hB⟩
/-- What the reference's answer is handed back as. -/
theorem s_result {fn : Func} {p : Tmp} {tmps : Array Value} {W : World} {g : Nat} {x y z : Value} (h : fn.results = #[.cell p 41]) (hb : Blk W g 41 #[x, y, z]) (hp : tmps.getD p undef = .pointer (some ⟨g, 0, none⟩) := by rfl) :
    (results fn tmps).run Try.prog W = .ok (.agg #[x, y, z]) W := by
  obtain ⟨⟨q0, q1, q2⟩, _⟩ := jcells hb
  simp only [Array.getD_eq_getD_getElem?] at hp
  simp [results, h, go_sem, hp, q0, q1, q2]
/-- Where a scan stands, read off the memory. -/
def atOf (W : World) (b : Nat) : Nat := match W.cell? ⟨b, 1, none⟩ with | some (.int _ n) => n.toNat | _ => 0
theorem atOf_is {W : World} {b n : Nat} {t : TypeId} {x z : Value} (h : Blk W b t #[x, .int .i64 (n : Int), z]) : atOf W b = n := by
  unfold atOf
  rw [(jcells h).1.2.1]
  rfl
theorem part_behind (A s r : List UInt8) : part (A ++ (textL s ++ r)) (A.length + 2) s.length = s := by
  have h := part_text s r
  unfold part at h ⊢
  rw [← List.drop_drop, List.drop_left]
  exact h

set_option maxRecDepth 100000 in
set_option maxHeartbeats 8000000 in
theorem rscan_any (k f : List UInt8) (L : List (List UInt8)) (R : List UInt8) (w : World) (hk : k.length ≤ 60000) (hf : f.length ≤ 60000) (hL : ∀ j, j < L.length → (L.getD j []).length ≤ 4096) (hR : Ends k (lastL k (wordL k f) L) R) (hlen : (writeL k (wordL k f) L ++ R).length ≤ 60000) :
    Calls Try.prog 19 #[.string ⟨k.toArray⟩, .string ⟨f.toArray⟩, .string ⟨(writeL k (wordL k f) L ++ R).toArray⟩] w fun e w' => ∃ A c, e = .returned (.agg #[.slice A L.length c, .int .i64 ((writeL k (wordL k f) L).length : Int), .int .u64 (lastL k (wordL k f) L : Int)]) ∧ SR w' A L ∧ Below w.heap.size w w' := by
  obtain ⟨i0, hi0, hz0, hz1, hz2⟩ := info_parts infoS
  have S1 := Lib.hid (fun W => rtword_any k f W hk hf)
  have hq := wordL_lt k f
  generalize wordL k f = q at *
  have HRS := Lib.hid (fun j (h : j < L.length) => restL_rec k q L R j h)
  have HLT := Lib.hid (fun j (h : j < L.length) => lastL_take k q L j h)
  have HWT := Lib.hid (fun j (h : j < L.length) => writeL_take k q L j h)
  have HLL := Lib.hid (fun j => lastL_lt k q hq (L.take j))
  have HSP := Lib.hid (fun j => restL_split k q L R j)
  have HRE : Hid (restL k q L R L.length = R) := Lib.hid (restL_end k q L R)
  have HEN : Hid (Ends k (lastL k q (L.take L.length)) R) := Lib.hid (by rw [List.take_length]; exact hR)
  obtain ⟨log, hlog⟩ : ∃ log, writeL k q L ++ R = log := ⟨_, rfl⟩
  rw [hlog] at HSP hlen ⊢
  have HL := Lib.hid hL
  have HK := Lib.hid hk
  have hz := size_mk log
  obtain ⟨N, hN⟩ : ∃ N, log.length = N := ⟨_, rfl⟩
  rw [hN] at hz hlen
  have HNN := Lib.hid hN
  have HQ0 : Hid (q = lastL k q (L.take 0)) := Lib.hid rfl
  obtain ⟨n, hn⟩ : ∃ n, L.length = n := ⟨_, rfl⟩
  have HNL := Lib.hid hn
  rw [hn] at HRS HLT HWT HRE HEN HL ⊢
  clear hL hR hlog hq hk hf hN hn
  go_enter Try.func19, Try.ntmps19
  go_wp2_with fail
  refine (S1.out _).mono ?_
  rintro e w1 ⟨rfl, hb1⟩
  have B1 := Lib.hid (Blk.new w1 41 #[.slice none 0 0, .int .i64 0, .int .u64 (q : Int)])
  have hB1 := ba (bt (ba (Below.refl w.heap.size w) (.cells #[.slice none 0 0, .int .i64 0, .int .u64 0] 41)) hb1) (.cells #[.slice none 0 0, .int .i64 0, .int .u64 (q : Int)] 41)
  have HBW := Lib.hid hb1
  have z1 := hb1.size
  rw [World.size_alloc] at z1
  have HB1 := Lib.hid hB1
  clear hb1 S1 hB1
  go_wp2_with fail
  go_loopw [8] (fun _ wr => ∃ (j : Nat) (v : Value), j ≤ n ∧ Blk wr w1.heap.size 41 #[v, .int .i64 ((writeL k q (L.take j)).length : Int), .int .u64 (lastL k q (L.take j) : Int)] ∧ wr.ownsRow w.heap.size 9 1 v j ((L.take j).map sv) ∧ Blk wr w.heap.size 41 #[.slice none 0 0, .int .i64 0, .int .u64 0] ∧ Below w.heap.size w wr) (fun _ wr => 70000 - atOf wr w1.heap.size)
  case atStart => exact ⟨0, .slice none 0 0, Nat.zero_le _, by rw [← HQ0.out]; exact B1.out, World.ownsRow_nil _ _ _ _, Blk.below (Blk.below (Blk.new w 41 #[.slice none 0 0, .int .i64 0, .int .u64 0]) HBW.out) (ba (Below.refl _ _) _), HB1.out⟩
  case round =>
    clear HB1 B1 HQ0
    obtain ⟨j, v, hj, hp, hown, hg, hb⟩ := hrel
    have hsp := HSP.out j
    have hll := HLL.out j
    have HAT := Lib.hid (atOf_is hp)
    obtain ⟨⟨p0, p1, p2⟩, _, _, _⟩ := jcells hp
    have hln : N = (writeL k q (L.take j)).length + (restL k q L R j).length := by rw [← HNN.out, hsp, List.length_append]
    have hex1 := jextract_drop (writeL k q (L.take j)) (restL k q L R j) _ N rfl (by rw [← hsp]; exact HNN.out)
    rw [← hsp] at hex1
    by_cases hlt : j < n
    · have hrs := HRS.out j hlt
      have hsl := HL.out j hlt
      have h3 := HLT.out j hlt
      have h4 := HWT.out j hlt
      have O1 := Lib.hid (fun W => rone_yes k (L.getD j []) (restL k q L R (j + 1)) (lastL k q (L.take j)) W HK.out hll hsl (by rw [← hrs]; omega))
      rw [← hrs] at O1
      have X1 := Lib.hid (fun W => rnext_any k (L.getD j []) (lastL k q (L.take j)) W HK.out hsl hll)
      rw [← h3] at X1
      have h5 : (writeL k q (L.take (j + 1))).length = (writeL k q (L.take j)).length + ((L.getD j []).length + 10) := by rw [h4, List.length_append, recL_len]
      have hpb : part log ((writeL k q (L.take j)).length + 2) (L.getD j []).length = L.getD j [] := by
        rw [hsp, hrs]
        unfold recL
        rw [List.append_assoc]
        exact part_behind _ _ _
      have hjN : j ≤ 6000 := by
        have h6 := writeL_ge k q (L.take j)
        rw [List.length_take, HNL.out, Nat.min_eq_left (by omega)] at h6
        omega
      have hrl : (L.getD j []).length + 10 ≤ (restL k q L R j).length := by rw [hrs, List.length_append, recL_len]; omega
      have HTS := Lib.hid (svs_more L j (by rw [HNL.out]; exact hlt))
      obtain ⟨q2, hq2⟩ : ∃ q2, lastL k q (L.take (j + 1)) = q2 := ⟨_, rfl⟩
      rw [hq2] at X1
      have HQ2 := Lib.hid hq2
      obtain ⟨e2, he2⟩ : ∃ e2, (writeL k q (L.take (j + 1))).length = e2 := ⟨_, rfl⟩
      rw [he2] at h5
      have HE2 := Lib.hid he2
      clear hsp hrs h3 h4 hq2 he2
      generalize restL k q L R j = r1 at *
      generalize lastL k q (L.take j) = q1 at *
      generalize (writeL k q (L.take j)).length = e1 at *
      generalize L.getD j [] = s at *
      obtain ⟨m, hm⟩ : ∃ m, s.length = m := ⟨_, rfl⟩
      rw [hm] at O1 hsl h5 hpb hrl
      obtain ⟨mm, hmm⟩ : ∃ mm, m + 10 = mm := ⟨_, rfl⟩
      rw [hmm] at O1 h5 hrl
      obtain ⟨a, ha⟩ : ∃ a, e1 + 2 = a := ⟨_, rfl⟩
      obtain ⟨b, hbb⟩ : ∃ b, e2 - 8 = b := ⟨_, rfl⟩
      have hex2 := extract_part log a b
      rw [show b - a = m by omega, ← ha, hpb] at hex2
      rw [ha] at hex2
      have i1 : (e1 : Int) + 2 = (a : Int) := by omega
      have i2 : (e1 : Int) + (mm : Int) = (e2 : Int) := by omega
      have i3 : (e2 : Int) - 8 = (b : Int) := by omega
      have i4 : (a : Int) ≤ (b : Int) := by omega
      have i5 : (b : Int) ≤ (N : Int) := by omega
      have i6 : (e1 : Int) ≤ (N : Int) := by omega
      have i7 : e1 ≤ N := by omega
      have w1' : IntKind.i64.wrap (a : Int) = (a : Int) := by rw [IntKind.wrap_i64]; omega
      have w2' : IntKind.i64.wrap (e2 : Int) = (e2 : Int) := by rw [IntKind.wrap_i64]; omega
      have w3' : IntKind.i64.wrap (b : Int) = (b : Int) := by rw [IntKind.wrap_i64]; omega
      have i8 : decide ((mm : Int) < 0) = false := by simp
      have hS0 : Below w.heap.size w wr.drew := hb.drew
      have HP := Lib.hid hp
      have HG := Lib.hid hg
      have HO := Lib.hid hown
      clear hp hg hown hln hsl h5 hpb hrl hm hmm ha hbb hll
      go_wp2_with fail
      have hS1 := two_of HP.out (Below.refl _ wr).drew
      go_region_held3 (fun W => W.cell? ⟨w1.heap.size, 1, none⟩ = some (.int .i64 (e1 : Int)) ∧ W.cell? ⟨w1.heap.size, 2, none⟩ = some (.int .u64 (q1 : Int)) ∧ Below wr.heap.size wr W) (first | assumption | exact hS1) (first
        | (go_at_call 37; (with_reducible refine (O1.out _).mono ?_); rintro e w6 ⟨rfl, hb6⟩; have hS6 := two_of HP.out (bt (by assumption : _ ∧ _ ∧ Below wr.heap.size wr _).2.2 hb6)))
      have hb6 := hS6.2.2
      have HP6 := Lib.hid (HP.out.below hb6)
      have HG6 := Lib.hid (HG.out.below hb6)
      have hB6 := bt hb hb6
      have z6 := hB6.size
      have hownA := own_later (own_later HO.out hb6) (ba (Below.refl w6.heap.size w6) (.cells #[sv s] 9))
      have hnews := World.news_of_block (heap_alloc_new w6 (.cells #[sv s] 9))
      have HPA := Lib.hid (HP6.out.alloc (.cells #[sv s] 9))
      obtain ⟨⟨c0, c1, c2⟩, _, _, _⟩ := jcells HP6.out
      clear p0 p1 p2 HP HG HO hb hS0 hS1 hS6 hb6 O1
      go_wp2_with (at_builtin; refine wpList_append_own _ rfl _ _ 23 rfl w.heap.size 9 i0 (.string ⟨#[]⟩) 1 16 Try.underlying23 hi0 hz0 hz1 hz2 rfl (by decide) _ _ _ rfl hownA ⟨w6.heap.size, 0, none⟩ 1 1 [sv s] rfl rfl hnews (by simp [Value.oneCell']) (by unfold maxLen; omega) (by omega) (by simp; omega) ?_; intro v7 w7 hown7 hgr7 _; obtain ⟨g7, d7, rfl⟩ := ownsRow_succ hown7; have HP7 := Lib.hid (HPA.out.grown hgr7 (fun e => own_blk_ne hownA HPA.out (by decide) e.symm)); have d0 := (jcells HP7.out).1.1; have f0 := (jcells HP7.out).2.1; have HP8 : Hid (Blk (w7.setCell ⟨w1.heap.size, 0, none⟩ (.slice (some ⟨g7, 0, none⟩) (j + 1) d7)) w1.heap.size 41 #[.slice (some ⟨g7, 0, none⟩) (j + 1) d7, .int .i64 (e1 : Int), .int .u64 (q1 : Int)]) := Lib.hid (HP7.out.set_ 0 _); have d2 := (jcells HP8.out).1.2.2)
      refine (X1.out _).mono ?_
      rintro e w9 ⟨rfl, hb9⟩
      have HP9 := Lib.hid (HP8.out.below hb9)
      have HPX : Hid (Blk (w9.setCell ⟨w1.heap.size, 2, none⟩ (.int .u64 (q2 : Int))) w1.heap.size 41 #[.slice (some ⟨g7, 0, none⟩) (j + 1) d7, .int .i64 (e1 : Int), .int .u64 (q2 : Int)]) := Lib.hid (HP9.out.set_ 2 _)
      have HPY : Hid (Blk ((w9.setCell ⟨w1.heap.size, 2, none⟩ (.int .u64 (q2 : Int))).setCell ⟨w1.heap.size, 1, none⟩ (.int .i64 (e2 : Int))) w1.heap.size 41 #[.slice (some ⟨g7, 0, none⟩) (j + 1) d7, .int .i64 (e2 : Int), .int .u64 (q2 : Int)]) := Lib.hid (HPX.out.set_ 1 _)
      obtain ⟨⟨_, x1, _⟩, _, y1, _⟩ := jcells HPX.out
      obtain ⟨_, _, _, y2⟩ := jcells HP9.out
      obtain ⟨⟨_, _, x2⟩, _, _, _⟩ := jcells HP9.out
      have hg7 : g7 ≠ w1.heap.size := fun e => own_blk_ne hown7 HP7.out (by decide) (by rw [e]; rfl)
      have HOF : Hid (((w9.setCell ⟨w1.heap.size, 2, none⟩ (.int .u64 (q2 : Int))).setCell ⟨w1.heap.size, 1, none⟩ (.int .i64 (e2 : Int))).ownsRow w.heap.size 9 1 (.slice (some ⟨g7, 0, none⟩) (j + 1) d7) (j + 1) ((L.take (j + 1)).map sv)) := Lib.hid (by
        rw [HTS.out]
        have h1 := jown_kept (W' := w7.setCell ⟨w1.heap.size, 0, none⟩ (.slice (some ⟨g7, 0, none⟩) (j + 1) d7)) hown7 (fun i hi => Below.heap_setCell w7 ⟨w1.heap.size, 0, none⟩ _ i (fun e => hg7 (by cases hi; exact e)))
        have h2 := own_later h1 hb9
        exact jown_kept h2 (fun i hi => (Below.heap_setCell _ ⟨w1.heap.size, 1, none⟩ _ i (fun e => hg7 (by cases hi; exact e))).trans (Below.heap_setCell _ ⟨w1.heap.size, 2, none⟩ _ i (fun e => hg7 (by cases hi; exact e)))))
      have HGF : Hid (Blk ((w9.setCell ⟨w1.heap.size, 2, none⟩ (.int .u64 (q2 : Int))).setCell ⟨w1.heap.size, 1, none⟩ (.int .i64 (e2 : Int))) w.heap.size 41 #[.slice none 0 0, .int .i64 0, .int .u64 0]) := Lib.hid (by
        have h0 := HG6.out.alloc (.cells #[sv s] 9)
        have h1 := h0.grown hgr7 (fun e => own_blk_ne hownA h0 (by decide) e.symm)
        have h2 := (h1.far (p := ⟨w1.heap.size, 0, none⟩) (by simp; omega) (.slice (some ⟨g7, 0, none⟩) (j + 1) d7)).below hb9
        exact (h2.far (p := ⟨w1.heap.size, 2, none⟩) (by simp; omega) _).far (p := ⟨w1.heap.size, 1, none⟩) (by simp; omega) _)
      have HBF : Hid (Below w.heap.size w ((w9.setCell ⟨w1.heap.size, 2, none⟩ (.int .u64 (q2 : Int))).setCell ⟨w1.heap.size, 1, none⟩ (.int .i64 (e2 : Int)))) := Lib.hid (by
        have h1 : Below w.heap.size w w7 := (ba hB6 _).grown hgr7 (by simp; omega) (fun k e => (hownA.lt k e).1)
        have h2 := bt (bs h1 (b := w1.heap.size) (o := 0) (by omega) (.slice (some ⟨g7, 0, none⟩) (j + 1) d7)) hb9
        exact bs (bs h2 (by omega) _) (by omega) _)
      have HMS : Hid (70000 - atOf ((w9.setCell ⟨w1.heap.size, 2, none⟩ (.int .u64 (q2 : Int))).setCell ⟨w1.heap.size, 1, none⟩ (.int .i64 (e2 : Int))) w1.heap.size < 70000 - atOf wr w1.heap.size) := Lib.hid (by
        rw [atOf_is HPY.out, HAT.out]
        omega)
      clear hown7 hgr7 HP7 HP8 HP9 HPX HPA HP6 HG6 hB6 hownA hnews d0 f0 d2 hb9 c0 c1 c2 X1 HAT
      go_wp2
      exact ⟨⟨j + 1, _, by omega, by rw [HE2.out, HQ2.out]; exact HPY.out, HOF.out, HGF.out, HBF.out⟩, HMS.out⟩
    · obtain rfl : j = n := by omega
      have hend := HEN.out
      have hre := HRE.out
      have htk : L.take j = L := List.take_of_length_le (by rw [HNL.out]; exact Nat.le_refl _)
      have O1 := Lib.hid (fun W => rone_no k R (lastL k q (L.take j)) W HK.out hll hend (by rw [← hre]; omega))
      rw [hre] at hex1 hln
      rw [htk] at hp hown p1 p2 O1 hex1 hln
      clear hsp hend hre htk hll
      obtain ⟨q1, hq1⟩ : ∃ q1, lastL k q L = q1 := ⟨_, rfl⟩
      obtain ⟨e1, he1⟩ : ∃ e1, (writeL k q L).length = e1 := ⟨_, rfl⟩
      rw [hq1] at hp p2 O1
      rw [he1] at hp p1 hex1 hln
      have HQ1 := Lib.hid hq1
      have HE1 := Lib.hid he1
      clear hq1 he1
      have i6 : (e1 : Int) ≤ (N : Int) := by omega
      have i7 : e1 ≤ N := by omega
      have HP := Lib.hid hp
      have HG := Lib.hid hg
      have HO := Lib.hid hown
      have hS1 := two_of HP.out (Below.refl _ wr).drew
      obtain ⟨A, c, rfl, _⟩ := own_form hown
      clear hp hg hown hln
      go_wp2_with fail
      go_region_held3 (fun W => W.cell? ⟨w1.heap.size, 1, none⟩ = some (.int .i64 (e1 : Int)) ∧ W.cell? ⟨w1.heap.size, 2, none⟩ = some (.int .u64 (q1 : Int)) ∧ Below wr.heap.size wr W) (first | assumption | exact hS1) (first
        | (go_at_call 37; (with_reducible refine (O1.out _).mono ?_); rintro e w6 ⟨rfl, hb6⟩; have hS6 := two_of HP.out (bt (by assumption : _ ∧ _ ∧ Below wr.heap.size wr _).2.2 hb6)))
      have hb6 := hS6.2.2
      have HP6 := Lib.hid (HP.out.below hb6)
      have HG6 := Lib.hid (HG.out.below hb6)
      obtain ⟨⟨c0, c1, c2⟩, _, _, _⟩ := jcells HP6.out
      obtain ⟨⟨b0, b1, b2⟩, f0, f1, f2⟩ := jcells HG6.out
      clear p0 p1 p2 hS1 hS6 O1
      have HRG : Hid (Blk (((w6.setCell ⟨w.heap.size, 0, none⟩ (.slice A j c)).setCell ⟨w.heap.size, 1, none⟩ (.int .i64 (e1 : Int))).setCell ⟨w.heap.size, 2, none⟩ (.int .u64 (q1 : Int))) w.heap.size 41 #[.slice A j c, .int .i64 (e1 : Int), .int .u64 (q1 : Int)]) := Lib.hid (((HG6.out.set_ 0 _).set_ 1 _).set_ 2 _)
      have HRS : Hid (SR (((w6.setCell ⟨w.heap.size, 0, none⟩ (.slice A j c)).setCell ⟨w.heap.size, 1, none⟩ (.int .i64 (e1 : Int))).setCell ⟨w.heap.size, 2, none⟩ (.int .u64 (q1 : Int))) A L) := Lib.hid (by
        have h2 := own_later HO.out hb6
        have hne : ∀ i, (Value.slice A j c).ownBlock = some i → i ≠ w.heap.size := fun i hi e => own_blk_ne h2 HG6.out (by decide) (by rw [hi, e])
        have h3 := jown_kept (W' := ((w6.setCell ⟨w.heap.size, 0, none⟩ (.slice A j c)).setCell ⟨w.heap.size, 1, none⟩ (.int .i64 (e1 : Int))).setCell ⟨w.heap.size, 2, none⟩ (.int .u64 (q1 : Int))) h2 (fun i hi => (Below.heap_setCell _ ⟨w.heap.size, 2, none⟩ _ i (hne i hi)).trans ((Below.heap_setCell _ ⟨w.heap.size, 1, none⟩ _ i (hne i hi)).trans (Below.heap_setCell _ ⟨w.heap.size, 0, none⟩ _ i (hne i hi))))
        exact own_SR' h3 HNL.out)
      have HRB : Hid (Below w.heap.size w (((w6.setCell ⟨w.heap.size, 0, none⟩ (.slice A j c)).setCell ⟨w.heap.size, 1, none⟩ (.int .i64 (e1 : Int))).setCell ⟨w.heap.size, 2, none⟩ (.int .u64 (q1 : Int)))) := Lib.hid (bs (bs (bs (bt hb hb6) (Nat.le_refl _) _) (Nat.le_refl _) _) (Nat.le_refl _) _)
      clear HG HG6 HP HP6 HO hb hb6
      go_wp2
      refine bodyPost_ret (s_result rfl HRG.out) rfl ?_
      exact ⟨A, c, by rw [HQ1.out, HE1.out], HRS.out, HRB.out⟩
end Go.Proofs.Ytfmlpomnhkjolaa
/- The walk of JournalScans. -/
namespace Go.Proofs.Ytfmlpomnhkjolaa
open Go.RowKit

set_option maxRecDepth 100000 in
set_option maxHeartbeats 4000000 in
theorem scans_any (k0 f0 log0 : List UInt8) (w : World) (hk0 : (k0.length : Int) ≤ 9223372036854775807) (hf0 : (f0.length : Int) ≤ 9223372036854775807) (hl0 : (log0.length : Int) ≤ 9223372036854775807) :
    Calls Try.prog 4 #[.string ⟨k0.toArray⟩, .string ⟨f0.toArray⟩, .string ⟨log0.toArray⟩] w fun e w' => e = .returned (.bool true) ∧ Below w.heap.size w w' := by
  have CK : Hid (∀ q, Calls Try.prog 7 #[.string ⟨k0.toArray⟩] (w.drewN q) fun e w' => e = .returned (.string ⟨(k0.take 80).toArray⟩) ∧ ∃ r, w' = w.drewN r) := Lib.hid fun q => (jcut_any k0 (w.drewN q) hk0).mono fun _ _ ⟨h, k⟩ => ⟨h, q, k.symm⟩
  have CF : Hid (∀ q, Calls Try.prog 7 #[.string ⟨f0.toArray⟩] (w.drewN q) fun e w' => e = .returned (.string ⟨(f0.take 80).toArray⟩) ∧ ∃ r, w' = w.drewN r) := Lib.hid fun q => (jcut_any f0 (w.drewN q) hf0).mono fun _ _ ⟨h, k⟩ => ⟨h, q, k.symm⟩
  have hk : (k0.take 80).length ≤ 80 := by rw [List.length_take]; omega
  have hf : (f0.take 80).length ≤ 80 := by rw [List.length_take]; omega
  have hl : (log0.take 5000).length ≤ 5000 := by rw [List.length_take]; omega
  have hz := size_mk log0
  obtain ⟨N, hN⟩ : ∃ N, log0.length = N := ⟨_, rfl⟩
  rw [hN] at hz hl0
  obtain ⟨m, hm⟩ : ∃ m, min N 5000 = m := ⟨_, rfl⟩
  have hex := extract_take log0 m
  have he : log0.take m = log0.take 5000 := by
    rw [← hm]
    by_cases h : N ≤ 5000
    · rw [Nat.min_eq_left h, List.take_of_length_le (by omega), List.take_of_length_le (by omega)]
    · rw [Nat.min_eq_right (by omega)]
  rw [he] at hex
  have h1 : (m : Int) ≤ (N : Int) := by omega
  have h2 : min (N : Int) 5000 = (m : Int) := by omega
  have h3 : (if (5000 : Int) < (N : Int) then (5000 : Int) else (N : Int)) = (m : Int) := by split <;> omega
  have h4 : m ≤ N := by omega
  clear he hm hN
  generalize log0.take 5000 = log at *
  generalize k0.take 80 = k at *
  generalize f0.take 80 = f at *
  obtain ⟨L, R, hlog, hL, hR⟩ := any_journal k log.length log (wordL k f) (Nat.le_refl _)
  have hL' : ∀ j, j < L.length → (L.getD j []).length ≤ 4096 := fun j hj => by
    have := hL _ (List.getElem_mem hj)
    simpa [List.getD, hj] using this
  have hge := writeL_ge k (wordL k f) L
  have hll : log.length = (writeL k (wordL k f) L).length + R.length := by rw [hlog, List.length_append]
  have S1 := Lib.hid (fun W => scan_any k f L R W (by omega) (by omega) hL' hR (by rw [← hlog]; omega))
  have S2 := Lib.hid (fun W => rscan_any k f L R W (by omega) (by omega) hL' hR (by rw [← hlog]; omega))
  rw [← hlog] at S1 S2
  have hn : L.length ≤ 500 := by omega
  have M1 : Hid (∀ W A B c d, SR W A L → SR W B L → Calls Try.prog 20 #[.slice A L.length c, .slice B L.length d] W fun e w' => e = .returned (.bool true) ∧ Below W.heap.size W w') := Lib.hid (fun W A B c d h1 h2 => by
    have h := jsame_any A B c d L.length L.length L L W h1 h2 rfl rfl (by omega) (by omega)
    rwa [show decide (L = L) = true by simp] at h)
  clear hge hll hL hL' hR hlog hk hf hl hk0 hf0 hl0
  generalize (writeL k (wordL k f) L).length = at1 at *
  generalize lastL k (wordL k f) L = q at *
  generalize L.length = n at *
  go_enter Try.func4, Try.ntmps4
  go_wp2_with fail
  go_quiet ((go_at_call 7; with_reducible first | exact CK.out _ | exact CF.out _))
  obtain ⟨w1, hw1⟩ : ∃ w1, w.drewN nq = w1 := ⟨_, rfl⟩
  rw [hw1]
  have hb1 : Below w.heap.size w w1 := by rw [← hw1]; exact bdn' (Below.refl _ _) _
  clear hw1 CK CF h1 h2 h3 h4 hex hz
  go_wp2_with fail
  refine (S1.out _).mono ?_
  rintro e w2 ⟨A, c, rfl, hs2, hb2⟩
  have hB2 := bt hb1 hb2
  clear hb1 hb2
  go_wp2_with fail
  refine (S2.out _).mono ?_
  rintro e w3 ⟨B, d, rfl, hs3, hb3⟩
  have k3 := Blk.new w3 41 #[.slice B n d, .int .i64 (at1 : Int), .int .u64 (q : Int)]
  have hB3 := ba (bt hB2 hb3) (.cells #[.slice B n d, .int .i64 (at1 : Int), .int .u64 (q : Int)] 41)
  have hS2 := (hs2.later hb3).later (ba (Below.refl w3.heap.size w3) (.cells #[.slice B n d, .int .i64 (at1 : Int), .int .u64 (q : Int)] 41))
  have hS3 := hs3.later (ba (Below.refl w3.heap.size w3) (.cells #[.slice B n d, .int .i64 (at1 : Int), .int .u64 (q : Int)] 41))
  clear hs2 hs3 hB2 hb3 S1 S2
  go_wp2_with fail
  refine (jalive_any _).mono ?_
  rintro e w4 ⟨rfl, hb4⟩
  have K4 := k3.below hb4
  have hB4 := bt hB3 hb4
  have HS2 := Lib.hid (hS2.later hb4)
  have HS3 := Lib.hid (hS3.later hb4)
  obtain ⟨⟨c0, c1, c2⟩, _, _, _⟩ := jcells K4
  clear k3 hB3 hS2 hS3 hb4
  go_wp2_with fail
  refine (M1.out _ _ _ _ _ HS2.out HS3.out).mono ?_
  rintro e w5 ⟨rfl, hb5⟩
  obtain ⟨⟨d0, d1, d2⟩, _, _, _⟩ := jcells (K4.below hb5)
  have hB5 := bt hB4 hb5
  clear c0 c1 c2 K4 hb5 hB4
  go_wp2
  go_ret
  exact ⟨rfl, hB5⟩
end Go.Proofs.Ytfmlpomnhkjolaa
/- The walk of JournalWrites. -/
namespace Go.Proofs.Ytfmlpomnhkjolaa
open Go.RowKit

/-- All texts are short, or there is a first one that is not. -/
theorem short_or (L : List (List UInt8)) : ∀ n, (∀ j, j < n → (L.getD j []).length ≤ 4096) ∨ ∃ b, b < n ∧ (∀ j, j < b → (L.getD j []).length ≤ 4096) ∧ 4096 < (L.getD b []).length := by
  intro n
  induction n with
  | zero => exact .inl fun j hj => by omega
  | succ n ih =>
    rcases ih with h | ⟨b, h1, h2, h3⟩
    · by_cases hn : (L.getD n []).length ≤ 4096
      · exact .inl fun j hj => by
          by_cases e : j = n
          · rw [e]; exact hn
          · exact h j (by omega)
      · exact .inr ⟨n, by omega, h, by omega⟩
    · exact .inr ⟨b, by omega, h2, h3⟩

set_option maxRecDepth 100000 in
set_option maxHeartbeats 8000000 in
theorem writes_any (k0 f0 : List UInt8) (q : Nat) (A0 : Option Addr) (c0 : Nat) (L0 : List (List UInt8)) (w : World) (hk0 : (k0.length : Int) ≤ 9223372036854775807) (hf0 : (f0.length : Int) ≤ 9223372036854775807) (hq : q < 18446744073709551616) (hA0 : SR w A0 L0) (hL0 : (L0.length : Int) ≤ 9223372036854775807) (hc0 : L0.length ≤ c0) (hS0 : ∀ j, ((L0.getD j []).length : Int) ≤ 9223372036854775807) :
    Calls Try.prog 3 #[.string ⟨k0.toArray⟩, .string ⟨f0.toArray⟩, .int .u64 (q : Int), .slice A0 L0.length c0] w fun e w' => e = .returned (.bool true) ∧ Below w.heap.size w w' := by
  have CK := Lib.hid (fun W => jcut_any k0 W hk0)
  have CF := Lib.hid (fun W => jcut_any f0 W hf0)
  have hk : (k0.take 80).length ≤ 80 := by rw [List.length_take]; omega
  have hf : (f0.take 80).length ≤ 80 := by rw [List.length_take]; omega
  generalize k0.take 80 = k at *
  generalize f0.take 80 = f at *
  have FW := Lib.hid (fun W (h : SR W A0 L0) => jfew_any L0 A0 c0 W h hL0 hc0 hS0)
  have hn8 := fewJ_len L0
  have hmx := fewJ_max L0 hS0
  generalize fewJ L0 = L at *
  have HA0 := Lib.hid hA0
  clear hA0 hk0 hf0 hL0 hc0 hS0
  have ST := Lib.hid (fun W => jstart_any k f W (by omega) (by omega))
  have RW := Lib.hid (fun W => rtword_any k f W (by omega) (by omega))
  obtain ⟨n, hn⟩ : ∃ n, L.length = n := ⟨_, rfl⟩
  obtain ⟨N0, hN0⟩ : ∃ N0, L0.length = N0 := ⟨_, rfl⟩
  rw [hn] at FW hn8
  rw [hN0] at FW ⊢
  have key : ∃ (S : List UInt8) (E : Int), Hid (∀ W A c, SR W A L → Calls Try.prog 9 #[.string ⟨k.toArray⟩, .string ⟨f.toArray⟩, .slice A n c] W fun e w' => e = .returned (.tuple #[.string ⟨S.toArray⟩, .int .i64 E]) ∧ Below W.heap.size W w') ∧
      Hid ((E = 0 ∧ (∀ W A c, SR W A L → Calls Try.prog 16 #[.slice A n c] W fun e w' => e = .returned (.bool false) ∧ Below W.heap.size W w') ∧ (∀ W A c, SR W A L → Calls Try.prog 17 #[.string ⟨k.toArray⟩, .string ⟨f.toArray⟩, .slice A n c] W fun e w' => e = .returned (.string ⟨S.toArray⟩) ∧ Below W.heap.size W w')) ∨
        (E = 4 ∧ S = [] ∧ (∀ W A c, SR W A L → Calls Try.prog 16 #[.slice A n c] W fun e w' => e = .returned (.bool true) ∧ Below W.heap.size W w'))) := by
    rcases short_or L n with h | ⟨b, h1, h2, h3⟩
    · exact ⟨writeL k (wordL k f) L, 0, Lib.hid (fun W A c hA => jwrite_yes k f L A c n W hn hA (by omega) (by omega) (by omega) h), Lib.hid (.inl ⟨rfl, fun W A c hA => rlong_no L A c n W hn hA (by omega) h, fun W A c hA => rwrite_any k f L A c n W hn hA (by omega) (by omega) (by omega) h⟩)⟩
    · exact ⟨[], 4, Lib.hid (fun W A c hA => jwrite_long k f L A c n b W hn hA (by omega) (by omega) (by omega) h2 h1 h3 (hmx b)), Lib.hid (.inr ⟨rfl, rfl, fun W A c hA => rlong_yes L A c n b W hn hA (by omega) h2 h1 h3 (hmx b)⟩)⟩
  obtain ⟨S, E, WR, HP⟩ := key
  have RY := Lib.hid (fun x W (h : x.length ≤ 4096) => record_yes k x q W (by omega) h hq)
  have RL := Lib.hid (fun x W (h : 4096 < x.length) (h2 : x.length ≤ 9223372036854775807) => record_long k x q W h h2)
  have XR := Lib.hid (fun x W (h : x.length ≤ 4096) => rrecord_any k x q W (by omega) h hq)
  have XN := Lib.hid (fun x W (h : x.length ≤ 4096) => rnext_any k x q W (by omega) h hq)
  generalize wordL k f = v at ST RW
  have HN := Lib.hid hn
  have HMX := Lib.hid hmx
  clear hn hN0 hmx hk hf hq
  go_enter Try.func3, Try.ntmps3
  go_wp2_with fail
  refine (CK.out _).mono ?_
  rintro e w' ⟨rfl, rfl⟩
  go_wp2_with fail
  refine (CF.out _).mono ?_
  rintro e w' ⟨rfl, rfl⟩
  go_wp2_with fail
  refine (FW.out _ HA0.out).mono ?_
  rintro e w1 ⟨A, c, rfl, hown, hb1⟩
  have HA1 := Lib.hid (own_SR' hown HN.out)
  clear hown FW CK CF
  go_wp2_with fail
  refine (WR.out _ _ _ HA1.out).mono ?_
  rintro e w2 ⟨rfl, hb2⟩
  have hB2 := bt hb1 hb2
  have HA2 := Lib.hid (HA1.out.later hb2)
  clear hb1 hb2 HA1 WR
  go_wp2_with fail
  refine (ST.out _).mono ?_
  rintro e w3 ⟨rfl, hb3⟩
  have hB3 := bt hB2 hb3
  have HA3 := Lib.hid (HA2.out.later hb3)
  clear hB2 hb3 HA2 ST
  go_wp2_with fail
  refine (RW.out _).mono ?_
  rintro e w4 ⟨rfl, hb4⟩
  have hB4 := bt hB3 hb4
  have HA4 := Lib.hid (HA3.out.later hb4)
  clear hB3 hb4 HA3 RW
  go_wp2_with fail
  refine (jalive_any _).mono ?_
  rintro e w5 ⟨rfl, hb5⟩
  have hB5 := bt hB4 hb5
  have HA5 := Lib.hid (HA4.out.later hb5)
  clear hB4 hb5 HA4
  go_wp2_with fail
  go_loopw [43] (fun iv wr => ∃ j : Nat, j ≤ n ∧ iv = .int .i64 j ∧ SR wr A L ∧ Below w.heap.size w wr) (fun i _ => n - (intOf i).toNat)
  case atStart => exact ⟨0, Nat.zero_le _, rfl, HA5.out, hB5⟩
  case round =>
    clear HA5 hB5
    obtain ⟨j, hj, rfl, hsr, hb⟩ := hrel
    have HSR := Lib.hid hsr
    clear hsr
    by_cases hlt : j < n
    · obtain ⟨g, off, rfl, c0⟩ := HSR.out j (by rw [HN.out]; exact hlt)
      have hxm := HMX.out j
      have i0 : (0 : Int) ≤ (j : Int) := by omega
      have i1 : (j : Int) < (n : Int) := by omega
      generalize L.getD j [] = x at *
      have hz := size_mk x
      by_cases hx : x.length ≤ 4096
      · have RY1 := Lib.hid (fun W => RY.out x W hx)
        have XR1 := Lib.hid (fun W => XR.out x W hx)
        have XN1 := Lib.hid (fun W => XN.out x W hx)
        generalize recL k q x = rec at *
        generalize nextL k q x = nx at *
        obtain ⟨m, hm⟩ : ∃ m, x.length = m := ⟨_, rfl⟩
        rw [hm] at hz hx
        have i2 : decide ((4096 : Int) < (m : Int)) = false := by simp; omega
        have i3 : decide (4096 < m) = false := by simp; omega
        clear hm hxm
        go_wp2_with fail
        refine (RY1.out _).mono ?_
        rintro e w6 ⟨rfl, hb6⟩
        go_wp2_with fail
        refine (XR1.out _).mono ?_
        rintro e w7 ⟨rfl, hb7⟩
        go_wp2_with fail
        refine (XN1.out _).mono ?_
        rintro e w8 ⟨rfl, hb8⟩
        have hB8 := bt (bt (bt hb hb6) hb7) hb8
        have HS8 := Lib.hid (((HSR.out.later hb6).later hb7).later hb8)
        clear hb hb6 hb7 hb8 HSR
        go_wp2
        exact ⟨⟨j + 1, by omega, by go_num, HS8.out, hB8⟩, by simp [intOf]; omega⟩
      · have RL1 := Lib.hid (fun W => RL.out x W (by omega) hxm)
        obtain ⟨m, hm⟩ : ∃ m, x.length = m := ⟨_, rfl⟩
        rw [hm] at hz hx hxm
        have i2 : decide ((4096 : Int) < (m : Int)) = true := by simp; omega
        have i3 : decide (4096 < m) = true := by simp; omega
        clear hm
        go_wp2_with fail
        refine (RL1.out _).mono ?_
        rintro e w6 ⟨rfl, hb6⟩
        have hB8 := bt hb hb6
        have HS8 := Lib.hid (HSR.out.later hb6)
        clear hb hb6 HSR
        go_wp2
        exact ⟨⟨j + 1, by omega, by go_num, HS8.out, hB8⟩, by simp [intOf]; omega⟩
    · obtain rfl : j = n := by omega
      rcases HP.out with ⟨rfl, p1, p2⟩ | ⟨rfl, rfl, p1⟩
      · have P1 := Lib.hid p1
        have P2 := Lib.hid p2
        clear p1 p2 HP
        go_wp2_with fail
        refine (P1.out _ _ _ HSR.out).mono ?_
        rintro e w6 ⟨rfl, hb6⟩
        go_wp2_with fail
        refine (P2.out _ _ _ (HSR.out.later hb6)).mono ?_
        rintro e w7 ⟨rfl, hb7⟩
        go_wp2
        go_ret
        exact ⟨rfl, bt (bt hb hb6) hb7⟩
      · have P1 := Lib.hid p1
        clear p1 HP
        go_wp2_with fail
        refine (P1.out _ _ _ HSR.out).mono ?_
        rintro e w6 ⟨rfl, hb6⟩
        go_wp2
        go_ret
        exact ⟨rfl, bt hb hb6⟩
end Go.Proofs.Ytfmlpomnhkjolaa
