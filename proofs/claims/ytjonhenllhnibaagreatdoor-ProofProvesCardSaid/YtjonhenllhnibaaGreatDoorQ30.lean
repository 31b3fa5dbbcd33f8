/- Texts of this seat, one behind the other: PFewP, PText, PConc, PStep, PCheck. -/
import Derived.Lib.AppendZerosOnto
import Derived.Deep.RegionHeld3
import Derived.Test.YtjonhenllhnibaaGreatDoorQ15
import Derived.Test.YtjonhenllhnibaaGreatDoorQ16
import Derived.Test.YtjonhenllhnibaaGreatDoorQ18
import Derived.Test.YtjonhenllhnibaaGreatDoorQ19
import Derived.Test.YtjonhenllhnibaaGreatDoorQ21
import Derived.Test.YtjonhenllhnibaaGreatDoorQ23
import Derived.Test.YtjonhenllhnibaaGreatDoorQ29
/- The contract of the law's few. -/
namespace Go.Proofs.YtjonhenllhnibaaGreatDoor
open Go.RowKit

set_option maxRecDepth 100000 in
set_option maxHeartbeats 8000000 in
theorem pfew_any (A B : Option Addr) (c n d m : Nat) (G F : List (List (List UInt8))) (w : World) (hA : LR w A G) (hB : LR w B F) (hl : G.length = n) (hm : F.length = m) (hc : n ≤ c) (hd : m ≤ d) (hs : PSmall G) (ht : PSmall F) :
    Calls Tryz.prog 7 #[pfv A n c B m d] w fun e w' => ∃ X c1 Y c2, e = .returned (pfv X (pcut G).length c1 Y (pcut F).length c2) ∧ LF w.heap.size w' X (pcut G) ∧ LF w.heap.size w' Y (pcut F) ∧ Below w.heap.size w w' := by
  have TA := Lib.hid (fun W (hb : Below w.heap.size w W) => pcut_any A c n G W (hA.later hb) hl hc hs)
  have TB := Lib.hid (fun W (hb : Below w.heap.size w W) => pcut_any B d m F W (hB.later hb) hm hd ht)
  clear hA hB hl hm hc hd hs ht
  generalize (pcut G).length = nG at *
  generalize (pcut F).length = nF at *
  generalize pcut G = CG at *
  generalize pcut F = CF at *
  have hb0 := pb2_below w A n c B m d none 0 0 none 0 0
  obtain ⟨hk0, hk1⟩ := pb2_blks w A n c B m d none 0 0 none 0 0
  unfold pb2 at *
  have HB0 := Lib.hid hb0
  have HK := Lib.hid (And.intro hk0 hk1)
  go_enter Tryz.func7, Tryz.ntmps7
  go_wp2_with fail
  generalize (w.alloc (.cells #[.slice A n c, .slice B m d] 26)).alloc (.cells #[.slice none 0 0, .slice none 0 0] 26) = w1 at *
  -- region 1
  refine wp_region_held_drew (S := fun W => Blk W w.heap.size 26 #[.slice A n c, .slice B m d]) (by kernel_rfl) HK.out.1 (fun hHeld => ?_)
  refine wpAnyH_take (i := 0) (oi := ⟨some 3, _, _, _, _, _⟩) (v := ?_) rfl (by kernel_rfl) (by kernel_rfl) (by kernel_rfl) (fun _ _ _ h => h) (Or.inl ⟨by rfl, ?_⟩) (by assumption) ?_
  rotate_left
  · (intro w9 hSw; (try dsimp only at hSw); go_simp; try with_reducible rfl)
  try simp only [Act.put, List.setIfInBounds_toArray, List.set_cons_zero, List.set_cons_succ]
  refine wpAnyH_take (i := 1) (oi := ⟨some 4, _, _, _, _, _⟩) (v := .slice A n c) rfl (by kernel_rfl) (by kernel_rfl) (by kernel_rfl) (fun _ _ _ h => h) (Or.inl ⟨by rfl, ?_⟩) (by assumption) ?_
  · (intro w9 hSw; have q9 := pcell0 hSw; (try dsimp only at hSw); go_simp; try with_reducible rfl)
  try simp only [Act.put, List.setIfInBounds_toArray, List.set_cons_zero, List.set_cons_succ]
  refine wpAnyH_take (i := 3) (oi := ⟨some 6, _, _, _, _, _⟩) (v := ?_) rfl (by kernel_rfl) (by kernel_rfl) (by kernel_rfl) (fun _ _ _ h => h) (Or.inl ⟨by rfl, ?_⟩) (by assumption) ?_
  rotate_left
  · (intro w9 hSw; (try dsimp only at hSw); go_simp; try with_reducible rfl)
  try simp only [Act.put, List.setIfInBounds_toArray, List.set_cons_zero, List.set_cons_succ]
  refine wpAnyH_take (i := 4) (oi := ⟨some 7, _, _, _, _, _⟩) (v := .slice B m d) rfl (by kernel_rfl) (by kernel_rfl) (by kernel_rfl) (fun _ _ _ h => h) (Or.inl ⟨by rfl, ?_⟩) (by assumption) ?_
  · (intro w9 hSw; have q9 := pcell1 hSw; (try dsimp only at hSw); go_simp; try with_reducible rfl)
  try simp only [Act.put, List.setIfInBounds_toArray, List.set_cons_zero, List.set_cons_succ]
  refine wpAnyH_ready (rs := [2]) (by kernel_rfl) (by simp) ?_
  refine AllReadyH.cons (o := ⟨some 5, _, _, _, _, _⟩) rfl (fun K9 hK9 => ?_) AllReadyH.nil
  go_simp; go_at_call 24
  refine (TA.out _ HB0.out.drew).mono ?_
  rintro e wa ⟨X, c1, rfl, hLX, hba⟩
  have hB1 := bt HB0.out.drew hba
  have hS1 := (show Blk w1.drew w.heap.size 26 #[.slice A n c, .slice B m d] from HK.out.1).below hba
  have hR1 := (show Blk w1.drew (w.heap.size + 1) 26 #[.slice none 0 0, .slice none 0 0] from HK.out.2).below hba
  refine hK9.out _ _ ?_ (fun hHeld => ?_)
  · exact hS1
  clear hK9 K9
  try simp only [Act.put, List.setIfInBounds_toArray, List.set_cons_zero, List.set_cons_succ]
  refine wpAnyH_ready (rs := [5]) (by kernel_rfl) (by simp) ?_
  refine AllReadyH.cons (o := ⟨some 8, _, _, _, _, _⟩) rfl (fun K9 hK9 => ?_) AllReadyH.nil
  go_simp; go_at_call 24
  refine (TB.out _ hB1).mono ?_
  rintro e wb ⟨Y, c2, rfl, hLY, hbb⟩
  have hB2 := bt hB1 hbb
  have hS2 := hS1.below hbb
  have hR2 := hR1.below hbb
  have hLX2 := hLX.later hbb
  have r0 := pcell0 hR2
  have r1 := pcell1 hR2
  have f0 := hR2.frozen 0
  have f1 := hR2.frozen 1
  have hR3 := hR2.set_ 0 (.slice X nG c1)
  have KK := Lib.hid (hR3.set_ 1 (.slice Y nF c2))
  have hS3 := (hS2.far (p := ⟨w.heap.size + 1, 0, none⟩) (by simp) (.slice X nG c1)).far (p := ⟨w.heap.size + 1, 1, none⟩) (by simp) (.slice Y nF c2)
  have hw2 : w.heap.size + 1 + 1 ≤ w1.heap.size := HK.out.2.lt
  have hw3 : w.heap.size + 1 + 1 ≤ wa.heap.size := hR1.lt
  have LX := Lib.hid ((((show LF w1.heap.size _ X CG from hLX2).base hw2).set_ (b := w.heap.size + 1) (o := 0) (v := .slice X nG c1) (by omega)).set_ (b := w.heap.size + 1) (o := 1) (v := .slice Y nF c2) (by omega) |>.base (base' := w.heap.size) (by omega))
  have LY := Lib.hid (((hLY.base hw3).set_ (b := w.heap.size + 1) (o := 0) (v := .slice X nG c1) (by omega)).set_ (b := w.heap.size + 1) (o := 1) (v := .slice Y nF c2) (by omega) |>.base (base' := w.heap.size) (by omega))
  have BB := Lib.hid (bs (b := w.heap.size + 1) (o := 1) (bs (b := w.heap.size + 1) (o := 0) hB2 (by omega) (.slice X nG c1)) (by omega) (.slice Y nF c2))
  clear hLX2 hLY hLX hB1 hB2 hR3
  refine hK9.out _ _ ?_ (fun hHeld => ?_)
  · exact hS2
  clear hK9 K9
  try simp only [Act.put, List.setIfInBounds_toArray, List.set_cons_zero, List.set_cons_succ]
  refine wpAnyH_take (i := 6) (oi := ⟨some 9, _, _, _, _, _⟩) (v := ?_) rfl (by kernel_rfl) (by kernel_rfl) (by kernel_rfl) (fun _ _ _ h => h) (Or.inl ⟨by rfl, ?_⟩) (by assumption) ?_
  rotate_left
  · (intro w9 hSw; (try dsimp only at hSw); go_simp; try with_reducible rfl)
  try simp only [Act.put, List.setIfInBounds_toArray, List.set_cons_zero, List.set_cons_succ]
  refine wpAnyH_ready (rs := [7]) (by kernel_rfl) (by simp) ?_
  refine AllReadyH.cons (o := ⟨none, _, _, _, _, _⟩) rfl (fun K9 hK9 => ?_) AllReadyH.nil
  go_simp
  refine hK9.out _ _ ?_ (fun hHeld => ?_)
  · exact hS3
  clear hK9 K9
  try simp only [Act.put]
  refine wpAnyH_done (by kernel_rfl) ?_ _
  go_wp2_with fail
  refine bodyPost_ret (pf1_result rfl KK.out) rfl ?_
  exact ⟨X, c1, Y, c2, rfl, LX.out, LY.out, BB.out⟩
  -- end 1
end Go.Proofs.YtjonhenllhnibaaGreatDoor
/- The contracts of package proof's itemText and joinText. -/
namespace Go.Proofs.YtjonhenllhnibaaGreatDoor
open Go.RowKit

set_option maxRecDepth 100000 in
set_option maxHeartbeats 1000000 in
theorem pitem_any (k : Nat) (s : List UInt8) (w : World) (hs : s.length ≤ 64) (hk : k < 18446744073709551616) :
    Calls Tryz.prog 41 #[.agg #[.int .u64 (k : Int), sv s]] w fun e w' => e = .returned (.string ⟨(yitem (k, s)).toArray⟩) ∧ Below w.heap.size w w' := by
  have hb0 := ba (Below.refl w.heap.size w) (.cells #[.int .u64 (k : Int), sv s] 42)
  have HK := Lib.hid (Blk.new w 42 #[.int .u64 (k : Int), sv s])
  have T1 := Lib.hid (text_ok s (w.alloc (.cells #[.int .u64 (k : Int), sv s] 42)) (by omega))
  have T2 := Lib.hid (fun W => number_any k W (by omega))
  have e : enc (true, 0, s) = low s.length 2 ++ s := by rw [enc, if_pos rfl]
  rw [e] at T1
  have l1 : (low k 8).length = 8 := low_length _ _
  have l2 : (low s.length 2 ++ s).length ≤ 70 := by rw [List.length_append, low_length]; omega
  have HY : Hid (yitem (k, s) = [0] ++ low k 8 ++ (low s.length 2 ++ s)) := Lib.hid rfl
  rw [HY.out]
  clear HY e hs hk
  generalize low k 8 = a at *
  generalize low s.length 2 ++ s = b at *
  have a1 : ∀ W : World, (Op.stringOp .add ⟨[(0 : UInt8)].toArray⟩ ⟨a.toArray⟩).run Tryz.prog W = .ok (.string ⟨([0] ++ a).toArray⟩) W := fun W => run_string_add_lists (P := Tryz.prog) W [0] a (by simp) (by omega)
  have a2 : ∀ W : World, (Op.stringOp .add ⟨([0] ++ a).toArray⟩ ⟨b.toArray⟩).run Tryz.prog W = .ok (.string ⟨([0] ++ a ++ b).toArray⟩) W := fun W => run_string_add_lists (P := Tryz.prog) W ([0] ++ a) b (by simp; omega) (by omega)
  generalize [0] ++ a ++ b = c at *
  generalize [0] ++ a = d at *
  clear l1 l2
  have d1 := HK.out.cell 1
  go_enter Tryz.func41, Tryz.ntmps41
  go_wp2_with fail
  refine T1.out.mono ?_
  rintro e w1 ⟨rfl, hb1⟩
  have d0 := (HK.out.below hb1).cell 0
  have hb2 := bt hb0 hb1
  go_wp2_with fail
  refine (T2.out _).mono ?_
  rintro e w2 ⟨rfl, hb3⟩
  have hb5 := bt hb2 hb3
  go_wp2
  go_ret
  exact ⟨rfl, hb5⟩

set_option maxRecDepth 100000 in
set_option maxHeartbeats 1000000 in
theorem pjoin_any (lev : Nat) (A : Option Addr) (n c : Nat) (L : List (List UInt8)) (w : World) (hlev : lev ≤ 8) (hA : SR w A L) (hl : L.length = n) (h1 : 1 ≤ n) (hn : n ≤ 4096) (hc : n ≤ c) (hf : L.flatten.length ≤ 60000) :
    Calls Tryz.prog 44 #[.int .i64 (lev : Int), .slice A n c] w fun e w' => e = .returned (.string ⟨(ytext lev L).toArray⟩) ∧ Below w.heap.size w w' := by
  obtain ⟨g, off, rfl, hc0⟩ := hA 0 (by omega)
  have hg := World.block_lt_of_cell? _ _ hc0
  have hcells : ∀ W, Below w.heap.size w W → ∀ (j : Nat) x, (L.map fun l => (⟨l.toArray⟩ : ByteArray))[j]? = some x → W.cell? ⟨g, off + j, none⟩ = some (.string x) := fun W hb j x hx => by
    rw [List.getElem?_map, Option.map_eq_some_iff] at hx
    obtain ⟨y, hy, rfl⟩ := hx
    have hj := (List.getElem?_eq_some_iff.1 hy).1
    obtain ⟨g', off', e, h2⟩ := (hA.later hb) j hj
    injection e with e
    injection e with e1 e2
    subst e1 e2
    rw [h2]
    simp [List.getD, hy]
  have hj : Lib.join ((L.map fun l => (⟨l.toArray⟩ : ByteArray)).map fun x : ByteArray => x.data.toList) [] = L.flatten := by
    rw [List.map_map, show ((fun x : ByteArray => x.data.toList) ∘ fun l : List UInt8 => (⟨l.toArray⟩ : ByteArray)) = id from rfl, List.map_id, yjoin_none]
  have HJ := Lib.hid (fun W (hb : Below w.heap.size w W) => by
    have := Any.strings_Join joinLays156 joinLaysExtra g off c (L.map fun l => (⟨l.toArray⟩ : ByteArray)) ⟨#[]⟩ W (hcells W hb) (Nat.lt_of_lt_of_le hg hb.size) (by rw [List.length_map]; omega) (by rw [List.length_map]; omega) (by rw [hj]; omega)
    rw [hj, List.length_map, hl] at this
    exact this)
  have T2 := Lib.hid (number_any lev w (by omega))
  have l1 : (low lev 8).length = 8 := low_length _ _
  have HY : Hid (ytext lev L = [2] ++ low lev 8 ++ L.flatten) := Lib.hid rfl
  rw [HY.out]
  clear HY hcells hj hA hc0
  generalize low lev 8 = a at *
  generalize L.flatten = b at *
  have a1 : ∀ W : World, (Op.stringOp .add ⟨[(2 : UInt8)].toArray⟩ ⟨a.toArray⟩).run Tryz.prog W = .ok (.string ⟨([2] ++ a).toArray⟩) W := fun W => run_string_add_lists (P := Tryz.prog) W [2] a (by simp) (by omega)
  have a2 : ∀ W : World, (Op.stringOp .add ⟨([2] ++ a).toArray⟩ ⟨b.toArray⟩).run Tryz.prog W = .ok (.string ⟨([2] ++ a ++ b).toArray⟩) W := fun W => run_string_add_lists (P := Tryz.prog) W ([2] ++ a) b (by simp; omega) (by omega)
  generalize [2] ++ a ++ b = c at *
  generalize [2] ++ a = d at *
  have hwz : IntKind.u64.wrap (lev : Int) = (lev : Int) := by rw [IntKind.wrap_u64]; omega
  clear l1 hf
  go_enter Tryz.func44, Tryz.ntmps44
  go_wp2_with fail
  refine T2.out.mono ?_
  rintro e w1 ⟨rfl, hb1⟩
  go_wp2_with fail
  refine (HJ.out _ hb1).mono ?_
  rintro e w2 ⟨rfl, hb2⟩
  have hb3 := bt hb1 hb2
  go_wp2
  go_ret
  exact ⟨rfl, hb3⟩
end Go.Proofs.YtjonhenllhnibaaGreatDoor
/- The contracts of slices.Grow of the nil row of texts, and of slices.Concat of rows of texts. -/
namespace Go.Proofs.YtjonhenllhnibaaGreatDoor
open Go.RowKit Go.Shelf

set_option maxRecDepth 100000 in
set_option maxHeartbeats 2000000 in
theorem pgrow_nil (n : Nat) (h1 : 1 ≤ n) (h2 : n ≤ 4096) (w : World) :
    Calls Tryz.prog 69 #[.slice none 0 0, .int .i64 n] w fun e w' => ∃ A c, e = .returned (.slice A 0 c) ∧ w'.ownsRow w.heap.size 9 1 (.slice A 0 c) 0 [] ∧ Below w.heap.size w w' := by
  obtain ⟨i1, hi, hz0, hz1, hz2⟩ := info_parts infoS
  obtain ⟨G, hG⟩ : ∃ G, G = grownCap w n 0 9 := ⟨_, rfl⟩
  obtain ⟨Z, hZ⟩ : ∃ Z, Z = (#[] ++ Builtin.zeroCells (Value.string ⟨#[]⟩).cells n ++ Builtin.zeroCells (Value.string ⟨#[]⟩).cells (G - n)) := ⟨_, rfl⟩
  have hrz : ∀ ty, (Builtin.append_ #[43, 3] ty #[.slice none 0 0, .int .i64 (n : Int)]).run Tryz.prog w = .ok (.slice (some ⟨w.heap.size, 0, none⟩) n G) (w.drew.alloc (.cells Z 9)) := fun ty => by
    have h := Lib.run_append_grow_zeros w 43 3 ty 9 i1 _ .i64 .i64 Tryz.underlying43 Tryz.underlying3 hi hz0 none 0 0 [] (run_firstCells_none _ _ _ _ _) n (by omega) (by omega) (by omega) (by omega) (by rw [hz2]; omega) (growslice_fits (by omega) (by rw [hz2]; omega))
    rw [Nat.zero_add, ← hG] at h
    rw [h, hZ]
  have hGn : n ≤ G := by rw [hG]; exact grownCap_ge w n 0 _
  have hGm : G ≤ maxLen := by rw [hG]; exact grownCap_le_maxLen w n 0 _ (by unfold maxLen; omega)
  have hZs : Z.size = G * 1 := by
    rw [hZ, Array.size_append, Array.size_append, size_zeroCells, size_zeroCells]
    show 0 + n * 1 + (G - n) * 1 = _
    omega
  have HM := Lib.hid hGm
  unfold maxLen at hGm
  clear hG hZ
  go_enter Tryz.func69, Tryz.ntmps69
  go_wp2_with (at_builtin; refine Lib.wpList_append_run _ rfl _ _ _ _ rfl _ _ rfl rfl _ _ (hrz _) ?_)
  go_ret
  refine ⟨_, _, rfl, ⟨rfl, .inr ⟨w.heap.size, G, Z, rfl, Nat.le_refl _, ?_, Nat.zero_le _, HM.out, hZs, rfl⟩⟩, ?_⟩
  · exact World.alloc_heap_new w.drew _
  · exact ((Below.refl _ _).drew).alloc (Nat.le_refl _) _

theorem pflat_take (G : List (List (List UInt8))) (i : Nat) (h : i < G.length) : (G.take (i + 1)).flatten = (G.take i).flatten ++ G.getD i [] := by
  have e : G.take (i + 1) = G.take i ++ [G.getD i []] := by
    rw [List.take_succ_eq_append_getElem h]
    simp [List.getD, h]
  rw [e]
  simp
theorem pflat_le (G : List (List (List UInt8))) (i : Nat) : (G.take i).flatten.length ≤ G.flatten.length := by
  conv => rhs; rw [← List.take_append_drop i G]
  rw [List.flatten_append, List.length_append]
  omega

set_option maxRecDepth 100000 in
set_option maxHeartbeats 8000000 in
theorem pconcat_any (A : Option Addr) (n c : Nat) (G : List (List (List UInt8))) (w : World) (hA : LR w A G) (hl : G.length = n) (hn : n ≤ 64) (h1 : 1 ≤ G.flatten.length) (h2 : G.flatten.length ≤ 4096) :
    Calls Tryz.prog 43 #[.slice A n c] w fun e w' => ∃ A' c', e = .returned (.slice A' G.flatten.length c') ∧ w'.ownsRow w.heap.size 9 1 (.slice A' G.flatten.length c') G.flatten.length (G.flatten.map sv) ∧ Below w.heap.size w w' := by
  have HA := Lib.hid hA
  have HL := Lib.hid hl
  obtain ⟨FL, hFL⟩ : ∃ FL : Nat → Nat, ∀ k, FL k = (G.take k).flatten.length := ⟨fun k => (G.take k).flatten.length, fun _ => rfl⟩
  have HN : Hid (G.take n = G) := Lib.hid (List.take_of_length_le (by omega))
  have hFn : FL n = G.flatten.length := by rw [hFL, HN.out]
  have HG := Lib.hid (fun W => pgrow_nil G.flatten.length h1 h2 W)
  have HF := Lib.hid (pflat_take G)
  have HS : Hid (∀ k, k < n → FL (k + 1) = FL k + (G.getD k []).length) := Lib.hid fun k hk => by
    rw [hFL, hFL, HF.out k (by omega), List.length_append]
  have HLe : Hid (∀ k, FL k ≤ 4096) := Lib.hid fun k => by rw [hFL]; exact Nat.le_trans (pflat_le G k) h2
  have h0 : FL 0 = 0 := by rw [hFL]; rfl
  have HFL := Lib.hid hFL
  rw [← hFn] at HG ⊢
  clear hA hl hFL h1 h2 hFn
  go_enter Tryz.func43, Tryz.ntmps43
  go_wp2_with fail
  go_loop [3, 11] (fun sz i => ∃ k : Nat, k ≤ n ∧ i = .int .i64 k ∧ sz = .int .i64 (FL k : Int)) (fun _ i => n - (intOf i).toNat)
  case atStart => exact ⟨0, by omega, rfl, by rw [h0]; rfl⟩
  case round =>
    clear h0
    obtain ⟨k, hk, rfl, rfl⟩ := hrel
    by_cases hlt : k < n
    · obtain ⟨g, off, B, d, rfl, c0, hd, hS⟩ := HA.out k (by rw [HL.out]; exact hlt)
      have e2 := HS.out k hlt
      have e3 := HLe.out (k + 1)
      generalize (G.getD k []).length = p at *
      clear hS hd
      have e5 : (FL (k + 1) : Int) = (FL k : Int) + (p : Int) := by omega
      have i0 : (0 : Int) ≤ (k : Int) := by omega
      have i1 : (k : Int) < (n : Int) := by omega
      have i2 : ¬ (FL k : Int) + (p : Int) < 0 := by omega
      go_wp2_with fail
      exact ⟨⟨k + 1, by omega, by go_num, by rw [e5]⟩, by simp [intOf]; omega⟩
    · obtain rfl : n = k := by omega
      have HGw := Lib.hid (HG.out w)
      go_wp2_with fail
      refine HGw.out.mono ?_
      rintro e w1 ⟨A1, c1, rfl, hown0, hb0⟩
      clear HGw
      go_wp2_with fail
      go_loopw [6, 27] (fun nv i wr => ∃ (k : Nat) (A2 : Option Addr) (c2 : Nat), k ≤ n ∧ i = .int .i64 k ∧ nv = .slice A2 (FL k) c2 ∧ wr.ownsRow w.heap.size 9 1 (.slice A2 (FL k) c2) (FL k) ((G.take k).flatten.map sv) ∧ Below w.heap.size w wr) (fun _ i _ => n - (intOf i).toNat)
      case atStart => exact ⟨0, A1, c1, by omega, rfl, by rw [HFL.out]; rfl, by rw [HFL.out]; simpa using hown0, hb0⟩
      case round =>
        clear hown0 hb0
        obtain ⟨k, A2, c2, hk, rfl, rfl, hown, hb⟩ := hrel
        by_cases hlt : k < n
        · obtain ⟨g, off, B, d, rfl, c0, hd, hS⟩ := (HA.out.later hb) k (by rw [HL.out]; exact hlt)
          have e1 := Lib.hid (HF.out k (by rw [HL.out]; exact hlt))
          have e2 := HS.out k hlt
          have e3 := HLe.out (k + 1)
          have hb8 : w.heap.size ≤ wr.heap.size := hb.size
          obtain ⟨A', c', W', hrun, hown', hgr⟩ := qappend_row (d := d) hown hS rfl (by omega) hb8
          rw [← e2] at hrun hown'
          have HO := Lib.hid (show W'.ownsRow w.heap.size 9 1 (.slice A' (FL (k + 1)) c') (FL (k + 1)) ((G.take (k + 1)).flatten.map sv) by
            rw [e1.out, List.map_append]; exact hown')
          have HB := Lib.hid (hb.grown hgr hb8 (fun j e => (hown.lt j e).1))
          clear hown hown' hgr hS hd e1 e2 e3 hb8
          generalize (G.getD k []).length = p at *
          have i0 : (0 : Int) ≤ (k : Int) := by omega
          have i1 : (k : Int) < (n : Int) := by omega
          go_wp2_with (at_builtin; refine qlist_append_run _ (by kernel_rfl) _ _ 43 43 rfl (.slice A2 (FL k) c2) (.slice B p d) rfl rfl _ _ hrun ?_; clear hrun)
          exact ⟨⟨k + 1, A', c', by omega, by go_num, rfl, HO.out, HB.out⟩, by simp [intOf]; omega⟩
        · obtain rfl : n = k := by omega
          rw [HN.out] at hown
          go_wp2
          go_ret
          exact ⟨_, _, rfl, hown, hb⟩
end Go.Proofs.YtjonhenllhnibaaGreatDoor
/- The contracts of package proof's Steps and Check. -/
namespace Go.Proofs.YtjonhenllhnibaaGreatDoor
open Go.RowKit

/-- The steps so far. -/
def pstepL (x : ItL) (B F : List (List (List UInt8))) (n : Nat) : List (List UInt8) := (List.range n).map (psteps x B F)
theorem pstepL_len (x : ItL) (B F : List (List (List UInt8))) (n : Nat) : (pstepL x B F n).length = n := by simp [pstepL]
theorem pstepL_more (x : ItL) (B F : List (List (List UInt8))) (n : Nat) : pstepL x B F (n + 1) = pstepL x B F n ++ [psteps x B F n] := by simp [pstepL, List.range_succ]
theorem pstepL_at (x : ItL) (B F : List (List (List UInt8))) {n i : Nat} (h : i < n) : (pstepL x B F n).getD i [] = psteps x B F i := by simp [pstepL, List.getD, h]
theorem pmid_32 {x : ItL} {B F : List (List (List UInt8))} (hB : PRt B) (hF : PRt F) (n : Nat) : ∀ s ∈ B.getD n [] ++ hsumL (psteps x B F n) :: F.getD n [], s.length = 32 := fun s hs => by
  rw [List.mem_append, List.mem_cons] at hs
  rcases hs with hs | rfl | hs
  · exact (hB.at n).2 s hs
  · exact hsum32 _
  · exact (hF.at n).2 s hs
theorem pmid_len {x : ItL} {B F : List (List (List UInt8))} (hB : PRt B) (hF : PRt F) (n : Nat) : 1 ≤ (B.getD n [] ++ hsumL (psteps x B F n) :: F.getD n []).length ∧ (B.getD n [] ++ hsumL (psteps x B F n) :: F.getD n []).length ≤ 129 := by
  have h1 := (hB.at n).1
  have h2 := (hF.at n).1
  simp only [List.length_append, List.length_cons]
  omega
theorem psteps_le {x : ItL} {B F : List (List (List UInt8))} (hB : PRt B) (hF : PRt F) (hx : x.2.length ≤ 64) : ∀ n, (psteps x B F n).length ≤ 4200 := by
  intro n
  cases n with
  | zero => show (yitem x).length ≤ 4200; rw [yitem_len]; omega
  | succ n =>
    show (ytext (n + 1) _).length ≤ 4200
    rw [ytext_len, ytake_flat _ (pmid_32 hB hF n)]
    have := (pmid_len (x := x) hB hF n).2
    omega
theorem pLR3 {W : World} {b g1 da db : Nat} {t : TypeId} {Ba Bb : Option Addr} {Ga Fa : List (List UInt8)} {y : List UInt8} (hb : Blk W b t #[.slice Ba Ga.length da, .slice (some ⟨g1, 0, none⟩) 1 1, .slice Bb Fa.length db]) (h1 : Blk W g1 9 #[sv y])
    (hS : SR W Ba Ga) (hT : SR W Bb Fa) (hd : Ga.length ≤ da) (hd2 : Fa.length ≤ db) : LR W (some ⟨b, 0, none⟩) [Ga, [y], Fa] := fun i hi => by
  have q0 := hb.cell 0
  have q1 := hb.cell 1
  have q2 := hb.cell 2
  simp only [List.getElem?_toArray, List.getElem?_cons_zero, List.getElem?_cons_succ] at q0 q1 q2
  match i, hi with
  | 0, _ => exact ⟨b, 0, Ba, da, rfl, q0, hd, hS⟩
  | 1, _ => exact ⟨b, 0, some ⟨g1, 0, none⟩, 1, rfl, q1, Nat.le_refl _, fun j hj => by
      obtain rfl : j = 0 := by simp at hj; omega
      exact ⟨g1, 0, rfl, h1.cell 0⟩⟩
  | 2, _ => exact ⟨b, 0, Bb, db, rfl, q2, hd2, hT⟩
/-- An item's value. -/
abbrev piv (k : Nat) (s : List UInt8) : Value := .agg #[.int .u64 (k : Int), sv s]

set_option maxRecDepth 100000 in
set_option maxHeartbeats 2000000 in
theorem pSteps_size (k : Nat) (s : List UInt8) (v : Value) (w : World) (hs : 64 < s.length) (hm : (s.length : Int) ≤ 9223372036854775807) (hv : ∃ A n c B m d, v = pfv A n c B m d) :
    Calls Tryz.prog 16 #[piv k s, v] w fun e w' => e = .returned (.tuple #[.slice none 0 0, .int .i64 4]) ∧ Below w.heap.size w w' := by
  obtain ⟨A, n, c, B, m, d, rfl⟩ := hv
  have hb0 := ba (ba (Below.refl w.heap.size w) (.cells #[.int .u64 (k : Int), sv s] 42)) (.cells #[.slice A n c, .slice B m d] 26)
  have d1 := ((Blk.new w 42 #[.int .u64 (k : Int), sv s]).alloc (.cells #[.slice A n c, .slice B m d] 26)).cell 1
  have hz := isize s
  go_enter Tryz.func16, Tryz.ntmps16
  go_wp2
  go_ret2
  exact ⟨rfl, hb0⟩

set_option maxRecDepth 100000 in
set_option maxHeartbeats 2000000 in
theorem pSteps_arg (A B : Option Addr) (n c m d k : Nat) (s : List UInt8) (G F : List (List (List UInt8))) (w : World) (hs : s.length ≤ 64) (hA : LR w A G) (hB : LR w B F) (hl : G.length = n) (hm : F.length = m) (hn : n ≤ 65536) (hn2 : m ≤ 65536) (hG : ∀ j, (G.getD j []).length ≤ 65536) (hF : ∀ j, (F.getD j []).length ≤ 65536) (hno : ¬ (PRt G ∧ PRt F)) :
    Calls Tryz.prog 16 #[piv k s, pfv A n c B m d] w fun e w' => e = .returned (.tuple #[.slice none 0 0, .int .i64 1]) ∧ Below w.heap.size w w' := by
  have hb0 := ba (ba (Below.refl w.heap.size w) (.cells #[.int .u64 (k : Int), sv s] 42)) (.cells #[.slice A n c, .slice B m d] 26)
  have TM := Lib.hid (pmay_any A B n c m d G F _ (hA.later hb0) (hB.later hb0) hl hm hn hn2 hG hF)
  rw [decide_eq_false hno] at TM
  have d1 := ((Blk.new w 42 #[.int .u64 (k : Int), sv s]).alloc (.cells #[.slice A n c, .slice B m d] 26)).cell 1
  have hk1 : Blk ((w.alloc (.cells #[.int .u64 (k : Int), sv s] 42)).alloc (.cells #[.slice A n c, .slice B m d] 26)) (w.heap.size + 1) 26 #[.slice A n c, .slice B m d] := Blk.newAt (by simp) _ _
  have p0 := hk1.cell 0
  have p1 := hk1.cell 1
  simp only [List.getElem?_toArray, List.getElem?_cons_zero, List.getElem?_cons_succ] at p0 p1
  have hz := isize s
  clear hA hB hl hm hno hG hF hk1
  go_enter Tryz.func16, Tryz.ntmps16
  go_wp2_with fail
  refine TM.out.mono ?_
  rintro e w1 ⟨rfl, hb1⟩
  have hb2 := bt hb0 hb1
  go_wp2
  go_ret2
  exact ⟨rfl, hb2⟩

set_option maxRecDepth 100000 in
set_option maxHeartbeats 8000000 in
theorem pSteps_yes (A B : Option Addr) (c d k : Nat) (s : List UInt8) (G F : List (List (List UInt8))) (w : World) (hs : s.length ≤ 64) (hk : k < 18446744073709551616) (hA : LR w A G) (hB : LR w B F) (hG : PRt G) (hF : PRt F) :
    Calls Tryz.prog 16 #[piv k s, pfv A 8 c B 8 d] w fun e w' => ∃ X c', e = .returned (.tuple #[.slice X 9 c', .int .i64 0]) ∧ SR w' X (pstepL (k, s) G F 9) ∧ Below w.heap.size w w' := by
  obtain ⟨si, hsi, jy0, jy1, jy2⟩ := info_parts infoS
  have hb0 := ba (ba (Below.refl w.heap.size w) (.cells #[.int .u64 (k : Int), sv s] 42)) (.cells #[.slice A 8 c, .slice B 8 d] 26)
  have h64 : ∀ (Q : List (List (List UInt8))), PRt Q → ∀ j, (Q.getD j []).length ≤ 65536 := fun Q hQ j => by have := (hQ.at j).1; omega
  have TM := Lib.hid (pmay_any A B 8 c 8 d G F _ (hA.later hb0) (hB.later hb0) hG.1 hF.1 (by omega) (by omega) (h64 G hG) (h64 F hF))
  rw [decide_eq_true ⟨hG, hF⟩] at TM
  have TI := Lib.hid (fun W => pitem_any k s W hs hk)
  have TS := Lib.hid (fun n W => sum_any (psteps (k, s) G F n) W (by have := psteps_le (x := (k, s)) hG hF hs n; omega))
  have TC := Lib.hid (fun n g W (h : LR W (some ⟨g, 0, none⟩) [G.getD n [], [hsumL (psteps (k, s) G F n)], F.getD n []]) => by
    have := pconcat_any (some ⟨g, 0, none⟩) 3 3 [G.getD n [], [hsumL (psteps (k, s) G F n)], F.getD n []] W h rfl (by omega) (by have := (pmid_len (x := (k, s)) hG hF n).1; simpa using this) (by have := (pmid_len (x := (k, s)) hG hF n).2; simp at this ⊢; omega)
    rwa [show [G.getD n [], [hsumL (psteps (k, s) G F n)], F.getD n []].flatten = G.getD n [] ++ hsumL (psteps (k, s) G F n) :: F.getD n [] by simp] at this)
  have TJ := Lib.hid (fun n X c' W (hn : n < 8) (h : SR W X (G.getD n [] ++ hsumL (psteps (k, s) G F n) :: F.getD n [])) (hc : (G.getD n [] ++ hsumL (psteps (k, s) G F n) :: F.getD n []).length ≤ c') => by
    have h1 := pmid_len (x := (k, s)) hG hF n
    have := pjoin_any (n + 1) X _ c' _ W (by omega) h rfl h1.1 (by omega) hc (by rw [ytake_flat _ (pmid_32 hG hF n)]; omega)
    rwa [show ytext (n + 1) (G.getD n [] ++ hsumL (psteps (k, s) G F n) :: F.getD n []) = psteps (k, s) G F (n + 1) from rfl, show (((n + 1 : Nat)) : Int) = (n : Int) + 1 by omega] at this)
  have HM := Lib.hid (pstepL_more (k, s) G F)
  have HL := Lib.hid (pstepL_len (k, s) G F)
  have HA9 := Lib.hid (fun (n i : Nat) (h : i < n) => pstepL_at (k, s) G F h)
  have H1 : Hid (yitem (k, s) = psteps (k, s) G F 0 ∧ pstepL (k, s) G F 0 = []) := Lib.hid ⟨rfl, rfl⟩
  rw [H1.out.1] at TI
  have HRA := Lib.hid (fun j W (hj : j < 8) (hb : Below w.heap.size w W) => (hA.later hb) j (by rw [hG.1]; exact hj))
  have HRB := Lib.hid (fun j W (hj : j < 8) (hb : Below w.heap.size w W) => (hB.later hb) j (by rw [hF.1]; exact hj))
  have HML := Lib.hid (fun n => (pmid_len (x := (k, s)) hG hF n).2)
  clear hA hB hG hF h64
  generalize psteps (k, s) G F = PS at *
  generalize pstepL (k, s) G F = PL at *
  have d1 := ((Blk.new w 42 #[.int .u64 (k : Int), sv s]).alloc (.cells #[.slice A 8 c, .slice B 8 d] 26)).cell 1
  have hki := (Blk.new w 42 #[.int .u64 (k : Int), sv s]).alloc (.cells #[.slice A 8 c, .slice B 8 d] 26)
  have hk1 : Blk ((w.alloc (.cells #[.int .u64 (k : Int), sv s] 42)).alloc (.cells #[.slice A 8 c, .slice B 8 d] 26)) (w.heap.size + 1) 26 #[.slice A 8 c, .slice B 8 d] := Blk.newAt (by simp) _ _
  have p0 := hk1.cell 0
  have p1 := hk1.cell 1
  simp only [List.getElem?_toArray, List.getElem?_cons_zero, List.getElem?_cons_succ] at p0 p1
  have hz := isize s
  go_enter Tryz.func16, Tryz.ntmps16
  go_wp2_with fail
  refine TM.out.mono ?_
  rintro e w1 ⟨rfl, hb1⟩
  have HK1 := Lib.hid (hk1.below hb1)
  have hi1 := hki.below hb1
  have q0 := hi1.cell 0
  have q1 := hi1.cell 1
  simp only [List.getElem?_toArray, List.getElem?_cons_zero, List.getElem?_cons_succ] at q0 q1
  have hB1 := bt hb0 hb1
  clear hk1 hki hb1 p0 p1 d1 hb0 TM hi1 hz
  go_wp2_with fail
  refine (TI.out _).mono ?_
  rintro e w2 ⟨rfl, hb2⟩
  have hba := ba (Below.refl w2.heap.size w2) (.cells #[sv (PS 0)] 9)
  have HK3 := Lib.hid ((HK1.out.below hb2).below hba)
  have HB3 := Lib.hid (bt (bt hB1 hb2) hba)
  have HO3 : Hid ((w2.alloc (.cells #[sv (PS 0)] 9)).ownsRow (w.heap.size + 2) 9 1 (.slice (some ⟨w2.heap.size, 0, none⟩) 1 1) 1 ((PL 1).map sv)) := Lib.hid (by
    rw [HM.out 0, H1.out.2]
    exact yown_one (Blk.new w2 _ _) (by have := (HK1.out.below hb2).lt; omega))
  clear hb2 hba hB1 HK1 q0 q1 TI
  go_wp2_with fail
  generalize w2.alloc (.cells #[sv (PS 0)] 9) = w3 at HK3 HB3 HO3 ⊢
  go_loopw [6, 20] (fun ov iv wr => ∃ (j c5 : Nat) (X : Option Addr), j ≤ 8 ∧ iv = .int .i64 (j : Int) ∧ ov = .slice X (j + 1) c5 ∧ Hid (wr.ownsRow (w.heap.size + 2) 9 1 (.slice X (j + 1) c5) (j + 1) ((PL (j + 1)).map sv)) ∧ Hid (Blk wr (w.heap.size + 1) 26 #[.slice A 8 c, .slice B 8 d]) ∧ Hid (Below w.heap.size w wr)) (fun _ i _ => 8 - (intOf i).toNat)
  case atStart => exact ⟨0, 1, _, Nat.zero_le _, rfl, rfl, HO3, HK3, HB3⟩
  case round =>
    clear HB3 HK3 HO3
    obtain ⟨j, c5, X, hj, rfl, rfl, HO, HK, HB⟩ := hrel
    by_cases hlt : j < 8
    · have i1 : (j : Int) < 8 := by omega
      have i0 : (0 : Int) ≤ (j : Int) := by omega
      have i2 : (j : Int) < (j : Int) + 1 := by omega
      have hS0 : SR wr X (PL (j + 1)) := own_SR' HO.out (HL.out (j + 1))
      obtain ⟨gx, ox, rfl, s0⟩ := hS0 j (by rw [HL.out]; omega)
      rw [HA9.out (j + 1) j (by omega)] at s0
      clear hS0
      go_wp2_with fail
      refine (TS.out j wr).mono ?_
      rintro e w4 ⟨rfl, hb4⟩
      have HO4 := Lib.hid (own_later HO.out hb4)
      have HK4 := Lib.hid (HK.out.below hb4)
      have HB4 := Lib.hid (bt HB.out hb4)
      obtain ⟨ga, oa, Ba, da, rfl, ca, hda, hSa⟩ := HRA.out j w4 hlt HB4.out
      obtain ⟨gb, ob, Bb, db, rfl, cb, hdb, hSb⟩ := HRB.out j w4 hlt HB4.out
      have HCj := Lib.hid (TC.out j)
      have HJj := Lib.hid (TJ.out j)
      have HMj := Lib.hid (HML.out j)
      have HSa := Lib.hid hSa
      have HSb := Lib.hid hSb
      have HD : Hid ((G.getD j []).length ≤ da ∧ (F.getD j []).length ≤ db) := Lib.hid ⟨hda, hdb⟩
      clear hb4 HO HK HB s0 hSa hSb hda hdb
      generalize G.getD j [] = Ga at *
      generalize F.getD j [] = Fa at *
      generalize hsumL (PS j) = y at *
      generalize Ga ++ y :: Fa = M at HCj HJj HMj
      go_wp2_with fail
      -- region 10
      refine wp_region_held_drew (S := fun W => Below w4.heap.size w4 W) (by kernel_rfl) (by first | exact Below.refl _ _ | exact (Below.refl _ _).drew) (fun hHeld => ?_)
      refine wpAnyH_take (i := 0) (oi := ⟨some 28, _, _, _, _, _⟩) (v := ?_) rfl (by kernel_rfl) (by kernel_rfl) (by kernel_rfl) (fun _ _ _ h => h) (Or.inl ⟨by rfl, ?_⟩) (by assumption) ?_
      rotate_left
      · (intro w9 hSw; (try dsimp only at hSw); go_simp; try with_reducible rfl)
      try simp only [Act.put, List.setIfInBounds_toArray, List.set_cons_zero, List.set_cons_succ]
      refine wpAnyH_take (i := 1) (oi := ⟨some 29, _, _, _, _, _⟩) (v := .slice (some ⟨ga, oa, none⟩) 8 c) rfl (by kernel_rfl) (by kernel_rfl) (by kernel_rfl) (fun _ _ _ h => h) (Or.inl ⟨by rfl, ?_⟩) (by assumption) ?_
      · (intro w9 hSw; have q9 := (HK4.out.below hSw).cell 0; simp only [List.getElem?_toArray, List.getElem?_cons_zero] at q9; (try dsimp only at hSw); go_simp; try with_reducible rfl)
      try simp only [Act.put, List.setIfInBounds_toArray, List.set_cons_zero, List.set_cons_succ]
      refine wpAnyH_take (i := 2) (oi := ⟨some 30, _, _, _, _, _⟩) (v := ?_) rfl (by kernel_rfl) (by kernel_rfl) (by kernel_rfl) (fun _ _ _ h => h) (Or.inl ⟨by rfl, ?_⟩) (by assumption) ?_
      rotate_left
      · (intro w9 hSw; (try dsimp only at hSw); go_simp; try with_reducible rfl)
      try simp only [Act.put, List.setIfInBounds_toArray, List.set_cons_zero, List.set_cons_succ]
      refine wpAnyH_take (i := 3) (oi := ⟨some 31, _, _, _, _, _⟩) (v := .pointer (some ⟨ga, oa + j, none⟩)) rfl (by kernel_rfl) (by kernel_rfl) (by kernel_rfl) (fun _ _ _ h => h) (Or.inl ⟨by rfl, ?_⟩) (by assumption) ?_
      · (intro w9 hSw; (try dsimp only at hSw); go_simp; try with_reducible rfl)
      try simp only [Act.put, List.setIfInBounds_toArray, List.set_cons_zero, List.set_cons_succ]
      refine wpAnyH_take (i := 4) (oi := ⟨some 32, _, _, _, _, _⟩) (v := .slice Ba Ga.length da) rfl (by kernel_rfl) (by kernel_rfl) (by kernel_rfl) (fun _ _ _ h => h) (Or.inl ⟨by rfl, ?_⟩) (by assumption) ?_
      · (intro w9 hSw; have q9 := cell_later hSw ca; (try dsimp only at hSw); go_simp; try with_reducible rfl)
      try simp only [Act.put, List.setIfInBounds_toArray, List.set_cons_zero, List.set_cons_succ]
      refine wpAnyH_take (i := 5) (oi := ⟨some 33, _, _, _, _, _⟩) (v := ?_) rfl (by kernel_rfl) (by kernel_rfl) (by kernel_rfl) (fun _ _ _ h => h) (Or.inl ⟨by rfl, ?_⟩) (by assumption) ?_
      rotate_left
      · (intro w9 hSw; (try dsimp only at hSw); go_simp; try with_reducible rfl)
      try simp only [Act.put, List.setIfInBounds_toArray, List.set_cons_zero, List.set_cons_succ]
      refine wpAnyH_take (i := 7) (oi := ⟨some 35, _, _, _, _, _⟩) (v := ?_) rfl (by kernel_rfl) (by kernel_rfl) (by kernel_rfl) (fun _ _ _ h => h) (Or.inl ⟨by rfl, ?_⟩) (by assumption) ?_
      rotate_left
      · (intro w9 hSw; (try dsimp only at hSw); go_simp; try with_reducible rfl)
      try simp only [Act.put, List.setIfInBounds_toArray, List.set_cons_zero, List.set_cons_succ]
      refine wpAnyH_take (i := 8) (oi := ⟨some 36, _, _, _, _, _⟩) (v := .slice (some ⟨gb, ob, none⟩) 8 d) rfl (by kernel_rfl) (by kernel_rfl) (by kernel_rfl) (fun _ _ _ h => h) (Or.inl ⟨by rfl, ?_⟩) (by assumption) ?_
      · (intro w9 hSw; have q9 := (HK4.out.below hSw).cell 1; simp only [List.getElem?_toArray, List.getElem?_cons_zero, List.getElem?_cons_succ] at q9; (try dsimp only at hSw); go_simp; try with_reducible rfl)
      try simp only [Act.put, List.setIfInBounds_toArray, List.set_cons_zero, List.set_cons_succ]
      refine wpAnyH_take (i := 9) (oi := ⟨some 37, _, _, _, _, _⟩) (v := ?_) rfl (by kernel_rfl) (by kernel_rfl) (by kernel_rfl) (fun _ _ _ h => h) (Or.inl ⟨by rfl, ?_⟩) (by assumption) ?_
      rotate_left
      · (intro w9 hSw; (try dsimp only at hSw); go_simp; try with_reducible rfl)
      try simp only [Act.put, List.setIfInBounds_toArray, List.set_cons_zero, List.set_cons_succ]
      refine wpAnyH_take (i := 10) (oi := ⟨some 38, _, _, _, _, _⟩) (v := .pointer (some ⟨gb, ob + j, none⟩)) rfl (by kernel_rfl) (by kernel_rfl) (by kernel_rfl) (fun _ _ _ h => h) (Or.inl ⟨by rfl, ?_⟩) (by assumption) ?_
      · (intro w9 hSw; (try dsimp only at hSw); go_simp; try with_reducible rfl)
      try simp only [Act.put, List.setIfInBounds_toArray, List.set_cons_zero, List.set_cons_succ]
      refine wpAnyH_take (i := 11) (oi := ⟨some 39, _, _, _, _, _⟩) (v := .slice Bb Fa.length db) rfl (by kernel_rfl) (by kernel_rfl) (by kernel_rfl) (fun _ _ _ h => h) (Or.inl ⟨by rfl, ?_⟩) (by assumption) ?_
      · (intro w9 hSw; have q9 := cell_later hSw cb; (try dsimp only at hSw); go_simp; try with_reducible rfl)
      try simp only [Act.put, List.setIfInBounds_toArray, List.set_cons_zero, List.set_cons_succ]
      refine wpAnyH_ready (rs := [6]) (by kernel_rfl) (by simp) ?_
      refine AllReadyH.cons (o := ⟨some 34, _, _, _, _, _⟩) rfl (fun K9 hK9 => ?_) AllReadyH.nil
      go_simp
      have hS1 : Below w4.heap.size w4 (w4.drew.alloc (.cells #[sv y] 9)) := ba (Below.refl w4.heap.size w4).drew (.cells #[sv y] 9)
      have hK1 : Blk (w4.drew.alloc (.cells #[sv y] 9)) w4.heap.size 9 #[sv y] := Blk.new w4.drew _ _
      refine hK9.out _ _ ?_ (fun hHeld => ?_)
      · exact hS1
      clear hK9 K9
      try simp only [Act.put, List.setIfInBounds_toArray, List.set_cons_zero, List.set_cons_succ]
      refine wpAnyH_ready (rs := [12]) (by kernel_rfl) (by simp) ?_
      refine AllReadyH.cons (o := ⟨some 40, _, _, _, _, _⟩) rfl (fun K9 hK9 => ?_) AllReadyH.nil
      go_simp
      have hS2 := ba hS1 (.cells #[.slice Ba Ga.length da, .slice (some ⟨w4.heap.size, 0, none⟩) 1 1, .slice Bb Fa.length db] 43)
      have hLR := pLR3 (b := w4.heap.size + 1) (Blk.newAt (w := w4.drew.alloc (.cells #[sv y] 9)) (by simp) 43 #[.slice Ba Ga.length da, .slice (some ⟨w4.heap.size, 0, none⟩) 1 1, .slice Bb Fa.length db]) (hK1.alloc _) (HSa.out.later hS2) (HSb.out.later hS2) HD.out.1 HD.out.2
      refine hK9.out _ _ ?_ (fun hHeld => ?_)
      · exact hS2
      clear hK9 K9
      try simp only [Act.put, List.setIfInBounds_toArray, List.set_cons_zero, List.set_cons_succ]
      refine wpAnyH_ready (rs := [13]) (by kernel_rfl) (by simp) ?_
      refine AllReadyH.cons (o := ⟨some 41, _, _, _, _, _⟩) rfl (fun K9 hK9 => ?_) AllReadyH.nil
      go_simp; go_at_call 43
      refine (HCj.out _ _ hLR).mono ?_
      rintro e wa ⟨X', c', rfl, hOw, hba⟩
      have hS3 := bt hS2 hba
      refine hK9.out _ _ ?_ (fun hHeld => ?_)
      · exact hS3
      clear hK9 K9
      try simp only [Act.put, List.setIfInBounds_toArray, List.set_cons_zero, List.set_cons_succ]
      refine wpAnyH_take (i := 14) (oi := ⟨some 9, _, _, _, _, _⟩) (v := ?_) rfl (by kernel_rfl) (by kernel_rfl) (by kernel_rfl) (fun _ _ _ h => h) (Or.inl ⟨by rfl, ?_⟩) (by assumption) ?_
      rotate_left
      · (intro w9 hSw; (try dsimp only at hSw); go_simp; try with_reducible rfl)
      try simp only [Act.put, List.setIfInBounds_toArray, List.set_cons_zero, List.set_cons_succ]
      refine wpAnyH_done (by kernel_rfl) ?_ _
      have HO5 := Lib.hid (own_later HO4.out hS3)
      have HK5 := Lib.hid (HK4.out.below hS3)
      have HB5 := Lib.hid (bt HB4.out hS3)
      have HJ5 := Lib.hid (HJj.out X' c' wa hlt (own_SR' hOw rfl) (own_room hOw))
      clear hOw hba hLR hS1 hS2 hS3 hK1 HO4 HK4 HB4 HSa HSb ca cb
      go_wp2_with fail
      refine HJ5.out.mono ?_
      rintro e w6 ⟨rfl, hb6⟩
      have hA6 := ba hb6 (.cells #[sv (PS (j + 1))] 9)
      have hownA := own_later HO5.out hA6
      have HK6 := Lib.hid (HK5.out.below hA6)
      have HB6 := Lib.hid (bt HB5.out hA6)
      have hnews := World.news_of_block (heap_alloc_new w6 (.cells #[sv (PS (j + 1))] 9))
      have HLT : Hid (w.heap.size + 2 ≤ w6.heap.size + 1) := Lib.hid (by have := HK5.out.lt; have := hb6.size; omega)
      clear hb6 hA6 HO5 HK5 HB5 HJ5
      go_wp2_with (at_builtin; refine wpList_append_own _ rfl _ _ 43 rfl (w.heap.size + 2) 9 si _ 1 16 Tryz.underlying43 hsi jy0 jy1 jy2 rfl (by decide) _ _ _ rfl hownA ⟨w6.heap.size, 0, none⟩ 1 1 [sv (PS (j + 1))] rfl rfl hnews (by simp [Value.oneCell']) (by unfold maxLen; omega) (by omega) (by have := HLT.out; simp; omega) ?_; intro v4 w7 hown7 hgrow7 _; obtain ⟨g7, c7, rfl⟩ := ownsRow_succ hown7)
      have HK7 := Lib.hid (HK6.out.grown hgrow7 (fun e => by have := (hownA.lt _ e.symm).1; omega))
      have HB7 := Lib.hid (HB6.out.grown hgrow7 HB6.out.size (fun q e => by have := (hownA.lt q e).1; omega))
      have HO7 : Hid (w7.ownsRow (w.heap.size + 2) 9 1 (.slice (some ⟨g7, 0, none⟩) (j + 1 + 1) c7) (j + 1 + 1) ((PL (j + 1 + 1)).map sv)) := Lib.hid (by rw [HM.out (j + 1), List.map_append]; exact hown7)
      clear hown7 hgrow7 hownA hnews HK6 HB6 HLT
      go_wp2_with fail
      exact ⟨⟨j + 1, c7, _, by omega, by go_num, rfl, HO7, HK7, HB7⟩, by simp [intOf]; omega⟩
      -- end 10
    · obtain rfl : j = 8 := by omega
      have HR := Lib.hid (own_SR' HO.out (HL.out 9))
      clear HO HK
      go_wp2
      go_ret2
      exact ⟨X, c5, rfl, HR.out, HB.out⟩
end Go.Proofs.YtjonhenllhnibaaGreatDoor
/- The contracts of package proof's Check. -/
namespace Go.Proofs.YtjonhenllhnibaaGreatDoor
open Go.RowKit

/-- The two parameters in their boxes. -/
def pbx (w : World) (k : Nat) (s : List UInt8) (A : Option Addr) (n c : Nat) (B : Option Addr) (m d : Nat) : World := (w.alloc (.cells #[.int .u64 (k : Int), sv s] 42)).alloc (.cells #[.slice A n c, .slice B m d] 26)
theorem pbx_below (w : World) (k : Nat) (s : List UInt8) (A : Option Addr) (n c : Nat) (B : Option Addr) (m d : Nat) : Below w.heap.size w (pbx w k s A n c B m d) := ba (ba (Below.refl w.heap.size w) _) _
theorem pbx_cells (w : World) (k : Nat) (s : List UInt8) (A : Option Addr) (n c : Nat) (B : Option Addr) (m d : Nat) :
    (pbx w k s A n c B m d).cell? ⟨w.heap.size, 0, none⟩ = some (.int .u64 (k : Int)) ∧ (pbx w k s A n c B m d).cell? ⟨w.heap.size, 1, none⟩ = some (sv s) ∧ (pbx w k s A n c B m d).cell? ⟨w.heap.size + 1, 0, none⟩ = some (.slice A n c) ∧ (pbx w k s A n c B m d).cell? ⟨w.heap.size + 1, 1, none⟩ = some (.slice B m d) := by
  have h1 := (Blk.new w 42 #[.int .u64 (k : Int), sv s]).alloc (.cells #[.slice A n c, .slice B m d] 26)
  have h2 : Blk (pbx w k s A n c B m d) (w.heap.size + 1) 26 #[.slice A n c, .slice B m d] := Blk.newAt (by simp) _ _
  exact ⟨h1.cell 0, h1.cell 1, h2.cell 0, h2.cell 1⟩

set_option maxRecDepth 100000 in
set_option maxHeartbeats 2000000 in
theorem pCheck_no (A B : Option Addr) (n c m d k : Nat) (s : List UInt8) (r : ByteArray) (e : Int) (w : World) (he : e ≠ 0)
    (hS : ∀ W, Below w.heap.size w W → Calls Tryz.prog 16 #[piv k s, pfv A n c B m d] W fun e' w' => e' = .returned (.tuple #[.slice none 0 0, .int .i64 e]) ∧ Below W.heap.size W w') :
    Calls Tryz.prog 17 #[.string r, piv k s, pfv A n c B m d] w fun e' w' => e' = .returned (.tuple #[.bool false, .int .i64 e]) ∧ Below w.heap.size w w' := by
  have hb0 := pbx_below w k s A n c B m d
  obtain ⟨q0, q1, q2, q3⟩ := pbx_cells w k s A n c B m d
  have TS := Lib.hid (hS _ hb0)
  have he2 : (e != 0) = true := by simpa using he
  clear hS
  unfold pbx at *
  go_enter Tryz.func17, Tryz.ntmps17
  go_wp2_with fail
  refine TS.out.mono ?_
  rintro e' w1 ⟨rfl, hb1⟩
  have hb2 := bt hb0 hb1
  go_wp2
  go_ret2
  exact ⟨rfl, hb2⟩

set_option maxRecDepth 100000 in
set_option maxHeartbeats 2000000 in
theorem pCheck_yes (A B : Option Addr) (c d k : Nat) (s r : List UInt8) (G F : List (List (List UInt8))) (w : World) (hs : s.length ≤ 64) (hk : k < 18446744073709551616) (hA : LR w A G) (hB : LR w B F) (hG : PRt G) (hF : PRt F) :
    Calls Tryz.prog 17 #[.string ⟨r.toArray⟩, piv k s, pfv A 8 c B 8 d] w fun e w' => e = .returned (.tuple #[.bool (decide (hsumL (psteps (k, s) G F 8) = r)), .int .i64 0]) ∧ Below w.heap.size w w' := by
  have hb0 := pbx_below w k s A 8 c B 8 d
  obtain ⟨q0, q1, q2, q3⟩ := pbx_cells w k s A 8 c B 8 d
  have TS := Lib.hid (pSteps_yes A B c d k s G F _ hs hk (hA.later hb0) (hB.later hb0) hG hF)
  have TH := Lib.hid (fun W => sum_any (psteps (k, s) G F 8) W (by have := psteps_le (x := (k, s)) hG hF hs 8; omega))
  have HL : Hid ((pstepL (k, s) G F 9).length = 9 ∧ (pstepL (k, s) G F 9).getD 8 [] = psteps (k, s) G F 8) := Lib.hid ⟨pstepL_len .., pstepL_at _ _ _ (by omega)⟩
  clear hA hB hG hF hs hk
  generalize hsumL (psteps (k, s) G F 8) = y at *
  generalize psteps (k, s) G F 8 = x at *
  generalize pstepL (k, s) G F 9 = L at *
  have hyr : (y == r) = decide (y = r) := by by_cases h : y = r <;> simp [h]
  generalize decide (y = r) = q at *
  unfold pbx at *
  go_enter Tryz.func17, Tryz.ntmps17
  go_wp2_with fail
  refine TS.out.mono ?_
  rintro e w1 ⟨X, c', rfl, hS, hb1⟩
  obtain ⟨g, off, rfl, c8⟩ := hS 8 (by rw [HL.out.1]; omega)
  rw [HL.out.2] at c8
  have hb2 := bt hb0 hb1
  clear hb0 hb1 hS
  go_wp2_with fail
  refine (TH.out _).mono ?_
  rintro e w2 ⟨rfl, hb3⟩
  have hb4 := bt hb2 hb3
  go_wp2
  go_ret2
  exact ⟨rfl, hb4⟩
end Go.Proofs.YtjonhenllhnibaaGreatDoor
