/- The contract of Read. -/
import Derived.Test.YtiibgbdhbamajaaDBack
import Derived.Test.YtiibgbdhbamajaaDCrash
import Derived.Test.YtiibgbdhbamajaaDRef
namespace Go.Proofs.Ytiibgbdhbamajaa
open Go.RowKit Go.Shelf
attribute [local go_sem] Oper.semAt_some

/-- What a text and an error are handed back as. -/
theorem read_result {tmps : Array Value} {W : World} {g h : Nat} {x y : Value} (hb : Blk W g 9 #[x]) (hc : Blk W h 27 #[y]) (hp : tmps.getD 4 undef = .pointer (some ⟨g, 0, none⟩) := by rfl) (hu : tmps.getD 5 undef = .pointer (some ⟨h, 0, none⟩) := by rfl) :
    (results Try.f15 tmps).run Try.prog W = .ok (.tuple #[x, y]) W := by
  have c2 := hb.cell 0
  have c3 := hc.cell 0
  simp only [List.getElem?_toArray, List.getElem?_cons_zero] at c2 c3
  simp only [Array.getD_eq_getD_getElem?] at hp hu
  simp [results, Try.results15, go_sem, hp, hu, c2, c3]

set_option maxRecDepth 100000 in
set_option maxHeartbeats 4000000 in
theorem read_bad (A B : Option Addr) (c d n m : Nat) (S : List (List UInt8)) (C : List PutL) (k : Int) (w : World) (hA : SR w A S) (hB : PR w B C) (hn : S.length = n) (hm : C.length = m) (hr : rightB S C = false) :
    Calls Try.prog 15 #[dv A n c B m d, .int .i64 k] w fun e w' => e = .returned (.tuple #[sv [], .int .i64 1]) ∧ Below w.heap.size w w' := by
  have HR := Lib.hid (fun W (hb : Below w.heap.size w W) => right_any A B c d n m S C W (hA.later hb) (hB.later hb) hn hm)
  rw [hr] at HR
  clear hA hB hn hm
  have hB0 : Below w.heap.size w ((((w.alloc (.cells #[.slice A n c, .slice B m d] 25)).alloc (.cells #[.int .i64 k] 3)).alloc (.cells #[.string ⟨#[]⟩] 9)).alloc (.cells #[.int .i64 0] 27)) := ba (ba (ba (ba (Below.refl _ _) _) _) _) _
  have k0 : Blk ((((w.alloc (.cells #[.slice A n c, .slice B m d] 25)).alloc (.cells #[.int .i64 k] 3)).alloc (.cells #[.string ⟨#[]⟩] 9)).alloc (.cells #[.int .i64 0] 27)) w.heap.size 25 #[.slice A n c, .slice B m d] := (((Blk.new w _ _).alloc _).alloc _).alloc _
  have k1 : Blk ((((w.alloc (.cells #[.slice A n c, .slice B m d] 25)).alloc (.cells #[.int .i64 k] 3)).alloc (.cells #[.string ⟨#[]⟩] 9)).alloc (.cells #[.int .i64 0] 27)) (w.heap.size + 1) 3 #[.int .i64 k] := ((Blk.newAt (by simp) _ _).alloc _).alloc _
  have k2 : Blk ((((w.alloc (.cells #[.slice A n c, .slice B m d] 25)).alloc (.cells #[.int .i64 k] 3)).alloc (.cells #[.string ⟨#[]⟩] 9)).alloc (.cells #[.int .i64 0] 27)) (w.heap.size + 2) 9 #[.string ⟨#[]⟩] := (Blk.newAt (by simp) _ _).alloc _
  have k3 : Blk ((((w.alloc (.cells #[.slice A n c, .slice B m d] 25)).alloc (.cells #[.int .i64 k] 3)).alloc (.cells #[.string ⟨#[]⟩] 9)).alloc (.cells #[.int .i64 0] 27)) (w.heap.size + 3) 27 #[.int .i64 0] := Blk.newAt (by simp) _ _
  have hz : ((((w.alloc (.cells #[.slice A n c, .slice B m d] 25)).alloc (.cells #[.int .i64 k] 3)).alloc (.cells #[.string ⟨#[]⟩] 9)).alloc (.cells #[.int .i64 0] 27)).heap.size = w.heap.size + 4 := by simp
  go_enter Try.func15, Try.ntmps15
  go_wp2_with fail
  refine (HR.out _ hB0).mono ?_
  rintro e w1 ⟨rfl, hb1⟩
  have K2 := k2.below hb1
  have K3 := k3.below hb1
  have HB1 := bt hB0 hb1
  have c2 := (K2.cell 0)
  have f2 := (K2.frozen 0)
  have c3 := (K3.cell 0)
  have f3 := (K3.frozen 0)
  simp only [List.getElem?_toArray, List.getElem?_cons_zero] at c2 c3
  go_wp2_with fail
  have L2 := (K2.set_ 0 (.string ⟨#[]⟩)).far (p := ⟨w.heap.size + 3, 0, none⟩) (by simp) (.int .i64 1)
  have L3 := (K3.far (p := ⟨w.heap.size + 2, 0, none⟩) (by simp) (.string ⟨#[]⟩)).set_ 0 (.int .i64 1)
  refine bodyPost_ret (read_result L2 L3) rfl ?_
  exact ⟨rfl, bs (bs HB1 (by omega) _) (by omega) _⟩

set_option maxRecDepth 100000 in
set_option maxHeartbeats 4000000 in
theorem read_range (A B : Option Addr) (c d n m : Nat) (S : List (List UInt8)) (C : List PutL) (k : Int) (w : World) (hA : SR w A S) (hB : PR w B C) (hn : S.length = n) (hm : C.length = m) (hr : rightB S C = true) (hh : hasB n k = false) :
    Calls Try.prog 15 #[dv A n c B m d, .int .i64 k] w fun e w' => e = .returned (.tuple #[sv [], .int .i64 2]) ∧ Below w.heap.size w w' := by
  have HR := Lib.hid (fun W (hb : Below w.heap.size w W) => right_any A B c d n m S C W (hA.later hb) (hB.later hb) hn hm)
  rw [hr] at HR
  have HH := Lib.hid (fun W => has_any A B n c m d k W)
  rw [hh] at HH
  clear hA hB hn hm
  have hB0 : Below w.heap.size w ((((w.alloc (.cells #[.slice A n c, .slice B m d] 25)).alloc (.cells #[.int .i64 k] 3)).alloc (.cells #[.string ⟨#[]⟩] 9)).alloc (.cells #[.int .i64 0] 27)) := ba (ba (ba (ba (Below.refl _ _) _) _) _) _
  have k0 : Blk ((((w.alloc (.cells #[.slice A n c, .slice B m d] 25)).alloc (.cells #[.int .i64 k] 3)).alloc (.cells #[.string ⟨#[]⟩] 9)).alloc (.cells #[.int .i64 0] 27)) w.heap.size 25 #[.slice A n c, .slice B m d] := (((Blk.new w _ _).alloc _).alloc _).alloc _
  have k1 : Blk ((((w.alloc (.cells #[.slice A n c, .slice B m d] 25)).alloc (.cells #[.int .i64 k] 3)).alloc (.cells #[.string ⟨#[]⟩] 9)).alloc (.cells #[.int .i64 0] 27)) (w.heap.size + 1) 3 #[.int .i64 k] := ((Blk.newAt (by simp) _ _).alloc _).alloc _
  have k2 : Blk ((((w.alloc (.cells #[.slice A n c, .slice B m d] 25)).alloc (.cells #[.int .i64 k] 3)).alloc (.cells #[.string ⟨#[]⟩] 9)).alloc (.cells #[.int .i64 0] 27)) (w.heap.size + 2) 9 #[.string ⟨#[]⟩] := (Blk.newAt (by simp) _ _).alloc _
  have k3 : Blk ((((w.alloc (.cells #[.slice A n c, .slice B m d] 25)).alloc (.cells #[.int .i64 k] 3)).alloc (.cells #[.string ⟨#[]⟩] 9)).alloc (.cells #[.int .i64 0] 27)) (w.heap.size + 3) 27 #[.int .i64 0] := Blk.newAt (by simp) _ _
  have hz : ((((w.alloc (.cells #[.slice A n c, .slice B m d] 25)).alloc (.cells #[.int .i64 k] 3)).alloc (.cells #[.string ⟨#[]⟩] 9)).alloc (.cells #[.int .i64 0] 27)).heap.size = w.heap.size + 4 := by simp
  go_enter Try.func15, Try.ntmps15
  go_wp2_with fail
  refine (HR.out _ hB0).mono ?_
  rintro e w1 ⟨rfl, hb1⟩
  obtain ⟨q0, q1, _, _⟩ := dcells (k0.below hb1)
  have c1 := (k1.below hb1).cell 0
  simp only [List.getElem?_toArray, List.getElem?_cons_zero] at c1
  go_wp2_with fail
  refine (HH.out _).mono ?_
  rintro e w2 ⟨rfl, hb2⟩
  have K2 := (k2.below hb1).below hb2
  have K3 := (k3.below hb1).below hb2
  have HB1 := bt (bt hB0 hb1) hb2
  have c2 := (K2.cell 0)
  have f2 := (K2.frozen 0)
  have c3 := (K3.cell 0)
  have f3 := (K3.frozen 0)
  simp only [List.getElem?_toArray, List.getElem?_cons_zero] at c2 c3
  go_wp2_with fail
  have L2 := (K2.set_ 0 (.string ⟨#[]⟩)).far (p := ⟨w.heap.size + 3, 0, none⟩) (by simp) (.int .i64 2)
  have L3 := (K3.far (p := ⟨w.heap.size + 2, 0, none⟩) (by simp) (.string ⟨#[]⟩)).set_ 0 (.int .i64 2)
  refine bodyPost_ret (read_result L2 L3) rfl ?_
  exact ⟨rfl, bs (bs HB1 (by omega) _) (by omega) _⟩
end Go.Proofs.Ytiibgbdhbamajaa
