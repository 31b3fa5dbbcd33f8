/- Contracts of Clone, and of the reader's number. -/
import Derived.Test.YtocipkoheboalaaCRead
import Derived.Deep.RegionLaw
import Derived.Lib.UnsafeStr
namespace Go.Proofs.Ytocipkoheboalaa
open Go.RowKit

theorem has_rd (p n base : Nat) (m : Int) (s : List UInt8) (v : Value) (L : List Fld) (w : World) (h : Rd w p s n v L base) (hs : (s.length : Int) ≤ 9223372036854775807) (b : Bool) (hb : decide (m ≤ (s.length : Int) - n) = b) :
    Calls Try.prog 35 #[.pointer (some ⟨p, 0, none⟩), .int .i64 m] w fun e w' => e = .returned (.bool b) ∧ Rd w' p s n v L base ∧ Off p p w w' := by
  refine (has_any p n base m s v L w h hs b hb).mono ?_
  rintro e w' ⟨rfl, k, rfl⟩
  exact ⟨rfl, h.drewN k, (Off.refl _ _ _).drewN k⟩

theorem infoF : (Try.prog.info? 33).map (fun i => (i.zero, i.size, i.bytes)) = some (some (.agg #[.bool false, .int .u64 0, .string ⟨#[]⟩]), 3, 32) := by kernel_rfl

/-- What a reader is when one field more has been appended and stored. -/
theorem Rd.more {W W1 : World} {p n base gg cap : Nat} {s : List UInt8} {v : Value} {L : List Fld} {x : Fld} (h : Rd W p s n v L base)
    (hown : W1.ownsRow base 33 3 (.slice (some ⟨gg, 0, none⟩) (L.length + 1) cap) (L.length + 1) (fcells L ++ [.bool x.1, .int .u64 (x.2.1 : Int), .string ⟨x.2.2.toArray⟩]))
    (hb : Blk W1 p 58 #[.int .i64 (n : Int), .string ⟨s.toArray⟩, v]) :
    Rd (W1.setCell ⟨p, 2, none⟩ (.slice (some ⟨gg, 0, none⟩) (L.length + 1) cap)) p s n (.slice (some ⟨gg, 0, none⟩) (L.length + 1) cap) (L ++ [x]) base := by
  refine ⟨by simpa [Blk] using hb.set_ 2 (.slice (some ⟨gg, 0, none⟩) (L.length + 1) cap), ?_, h.2.2⟩
  rw [fcells_snoc, List.length_append]
  exact ownsRow_setCell_other hown (own_blk_ne hown hb (by decide)) _

set_option maxRecDepth 100000 in
set_option maxHeartbeats 4000000 in
theorem number_yes (p n base : Nat) (s : List UInt8) (v : Value) (L : List Fld) (w : World) (h : Rd w p s n v L base) (hs : (s.length : Int) ≤ 9223372036854775807) (hn : n + 8 ≤ s.length) (hL : L.length ≤ 64) (hp : base ≤ p) (hB : base ≤ w.heap.size) :
    Calls Try.prog 33 #[.pointer (some ⟨p, 0, none⟩)] w fun e w' => e = .returned (.bool true) ∧ (∃ v', Rd w' p s (n + 8) v' (L ++ [(false, val (part s n 8), [])]) base) ∧ Below base w w' := by
  obtain ⟨i0, hi0, hz0, hz1, hz2⟩ := info_parts infoF
  go_enter Try.func33, Try.ntmps33
  go_wp2_with fail
  refine (has_rd p n base 8 s v L _ h hs true (by simp; omega)).mono ?_
  rintro e w1 ⟨rfl, h1, ho1⟩
  have c1 := (h1.1.at_ (i := 2) rfl).1
  have hb1 : Below base w w1 := ho1.below hp hp hB
  have hB1 : base ≤ w1.heap.size := Nat.le_trans hB hb1.size
  obtain ⟨V, hV⟩ : ∃ V, val (part s n 8) = V := ⟨_, rfl⟩
  have HV := Lib.hid hV
  have H1 := Lib.hid h1
  clear h h1 ho1 hV
  go_wp2_with fail
  go_region_law (first
    | (refine step_append_lies _ (by rfl) _ _ _ (by rfl) base 33 i0 _ 3 32 Try.underlying23 hi0 hz0 hz1 hz2 rfl (by omega) v L.length (fcells L) (by rfl) (h2.2.1.alloc (.cells #[.bool false, .int .u64 (V : Int), .string ⟨#[]⟩] 33)) ⟨w2.heap.size, 0, none⟩ 1 1 [.bool false, .int .u64 (V : Int), .string ⟨#[]⟩] (by rfl) (by rfl) (World.news_of_block (cs := #[.bool false, .int .u64 (V : Int), .string ⟨#[]⟩]) (t := 33) (fr := (0, 0)) (heap_alloc_new w2 _)) (by simp [Value.oneCell']) (by omega) (by unfold maxLen; omega) (by omega) (by simp; omega) (w2.heap.size + 1) (by simp) ?_; intro gg cap w3 hown3 hgrow hat hlt; have B3 := (h2.1.alloc (.cells #[.bool false, .int .u64 (V : Int), .string ⟨#[]⟩] 33)).grown hgrow (Ne.symm h2.row); have c3 := (B3.at_ (i := 2) rfl).1; have f3 := B3.frozen 2)
    | (go_simp; go_at_call 36; refine (rdlow_any p n 8 base s v L _ (H1.out.drewN 1) hs hn (by omega)).mono ?_; rw [HV.out]; rintro e w2 ⟨rfl, h2, ho2⟩; have c2 := (h2.1.at_ (i := 2) rfl).1; have d2 := ((h2.1.alloc (.cells #[.bool false, .int .u64 (V : Int), .string ⟨#[]⟩] 33)).at_ (i := 2) rfl).1; have hB2 : base ≤ w2.heap.size := Nat.le_trans hB1 ho2.size))
  all_goals
    have hb2 : Below base w w2 := Below.trans (b := w1.drewN 1) ⟨hb1.os, hb1.tape, hb1.output, hb1.size, hb1.block⟩ (ho2.below hp hp hB1)
    have hb3 : Below base w w3 := (hb2.alloc hB2 _).grown hgrow (by simp; omega) (fun k e => (h2.2.1.lt k e).1)
    have hR := Rd.more (x := (false, V, [])) h2 hown3 B3
    go_wp2
    go_ret
    rw [HV.out]
    exact ⟨rfl, ⟨_, hR⟩, hb3.setCell (p := ⟨p, 2, none⟩) hp _⟩
end Go.Proofs.Ytocipkoheboalaa
