/- Rows of bools, and the contract of the reference's flip. -/
import Derived.Test.YtlfghagidajpeaaGRBit
namespace Go.Proofs.Ytlfghagidajpeaa
open Go.RowKit

abbrev lv (b : Bool) : Value := .bool b
/-- A row of bools that can be read: so many, told by their places. -/
def BR (w : World) (A : Option Addr) (n : Nat) (f : Nat → Bool) : Prop := ∃ g, A = some ⟨g, 0, none⟩ ∧ ∀ j, j < n → w.cell? ⟨g, j, none⟩ = some (lv (f j))
theorem BR.later {w w' : World} {A : Option Addr} {n : Nat} {f : Nat → Bool} (h : BR w A n f) (hn : 0 < n) (hb : Below w.heap.size w w') : BR w' A n f := by
  obtain ⟨g, e, h⟩ := h
  have := h 0 hn
  exact ⟨g, e, fun j hj => cell_later hb (h j hj)⟩
theorem BR.less {w : World} {A : Option Addr} {n m : Nat} {f : Nat → Bool} (h : BR w A n f) (hm : m ≤ n) : BR w A m f := by
  obtain ⟨g, e, h⟩ := h
  exact ⟨g, e, fun j hj => h j (by omega)⟩
def fb (n : Nat) (f : Nat → Bool) : List Value := (List.range n).map fun j => lv (f j)
theorem fb_len (n : Nat) (f : Nat → Bool) : (fb n f).length = n := by simp [fb]
theorem fb_at {n j : Nat} (f : Nat → Bool) (h : j < n) : (fb n f)[j]? = some (lv (f j)) := by simp [fb, h]
theorem fb_succ (n : Nat) (f : Nat → Bool) : fb (n + 1) f = fb n f ++ [lv (f n)] := by simp [fb, List.range_succ]
theorem infoL : (Try.prog.info? 4).map (fun i => (i.zero, i.size, i.bytes)) = some (some (.bool false), 1, 1) := by kernel_rfl
theorem own_BR {W : World} {base g c n : Nat} {f : Nat → Bool} (h : W.ownsRow base 4 1 (.slice (some ⟨g, 0, none⟩) n c) n (fb n f)) : BR W (some ⟨g, 0, none⟩) n f := ⟨g, rfl, fun j hj => by rw [h.cellAt j (by omega), fb_at f hj]⟩
theorem own_BRblk {W : World} {base g c n : Nat} {f : Nat → Bool} (h : W.ownsRow base 4 1 (.slice (some ⟨g, 0, none⟩) n c) n (fb n f)) : base ≤ g ∧ n ≤ c ∧ ∃ cs, Blk W g 4 cs ∧ ∀ j, j < n → cs[j]? = some (lv (f j)) := by
  have hc := fun j hj => h.cellAt j hj
  rcases h.2 with ⟨hv, _⟩ | ⟨g', cap, cur, hv, hb, hh, hn, _⟩
  · cases hv
  · cases hv
    refine ⟨hb, hn, cur, hh, fun j hj => ?_⟩
    have h1 := hc j (by omega)
    rw [cell_of_row _ _ _ _ _ _ hh, fb_at f hj] at h1
    exact h1
theorem gown_nil {W : World} {g : Nat} {t : TypeId} {base size : Nat} (h : Blk W g t #[]) (hb : base ≤ g) : W.ownsRow base t size (.slice (some ⟨g, 0, none⟩) 0 0) 0 [] :=
  ⟨by simp, .inr ⟨g, 0, #[], rfl, hb, h, Nat.le_refl _, by unfold maxLen; omega, by simp, by simp⟩⟩
theorem set_flip {cs : Array Value} {n i : Nat} {f : Nat → Bool} (h : ∀ j, j < n → cs[j]? = some (lv (f j))) (j : Nat) (hj : j < n) : (cs.setIfInBounds i (lv (!f i)))[j]? = some (lv (flipF f i j)) := by
  unfold flipF
  by_cases e : j = i
  · subst e
    have hl : j < cs.size := by
      have := h j hj
      exact (Array.getElem?_eq_some_iff.1 this).1
    rw [Array.getElem?_setIfInBounds_self_of_lt hl]
    simp
  · rw [Array.getElem?_setIfInBounds_ne (by omega), h j hj]
    simp [e]

set_option maxRecDepth 100000 in
set_option maxHeartbeats 2000000 in
theorem flip_any (A : Option Addr) (c m i : Nat) (f : Nat → Bool) (w : World) (hm : m ≤ 1000) (hi : i < m + 1) (h : BR w A (m + 1) f) :
    Calls Try.prog 22 #[.slice A (m + 1) c, .int .i64 (i : Int)] w fun e w' => ∃ g c', e = .returned (.slice (some ⟨g, 0, none⟩) (m + 1) c') ∧ BR w' (some ⟨g, 0, none⟩) (m + 1) (flipF f i) ∧ m + 1 ≤ c' ∧ Below w.heap.size w w' := by
  obtain ⟨i0, hi0, hz0, hz1, hz2⟩ := info_parts infoL
  obtain ⟨a, rfl, hA⟩ := h
  have ho0 := gown_nil (size := 1) (Blk.new w 4 #[]) (Nat.le_refl _)
  have hnews : ∀ j u, (fb (m + 1) f)[j]? = some u → (w.alloc (.cells #[] 4)).cell? ((⟨a, 0, none⟩ : Addr).add j) = some u := by
    intro j u hu
    have hj : j < m + 1 := by
      have := (List.getElem?_eq_some_iff.1 hu).1
      rwa [fb_len] at this
    rw [fb_at f hj] at hu
    cases hu
    rw [Addr.add_mid, Nat.zero_add]
    exact cell_later (ba (Below.refl _ _) _) (hA j hj)
  have HFL := Lib.hid (fb_len (m + 1) f)
  have HO0 := Lib.hid ho0
  have HNW := Lib.hid hnews
  have HONE : Hid (∀ v ∈ fb (m + 1) f, v.oneCell' = true) := Lib.hid (by
    intro v hv
    obtain ⟨j, _, rfl⟩ := List.mem_map.1 hv
    rfl)
  clear hA ho0 hnews
  go_enter Try.func22, Try.ntmps22
  go_upto_region 3 with (at_builtin; refine wpList_append_own _ rfl _ _ 44 rfl w.heap.size 4 i0 (.bool false) 1 1 Try.underlying44 hi0 hz0 hz1 hz2 rfl (by decide) _ _ _ rfl HO0.out ⟨a, 0, none⟩ (m + 1) c (fb (m + 1) f) rfl (by rw [Nat.mul_one]; exact HFL.out) HNW.out HONE.out (by unfold maxLen; omega) (by omega) (by simp) ?_; intro v' w6 hown' hgrow _)
  rw [List.nil_append, Nat.zero_add] at hown'
  obtain ⟨g, c', rfl⟩ := ownsRow_succ hown'
  obtain ⟨hg, hc, cs, hblk, hat⟩ := own_BRblk hown'
  have hcell := (hblk.cell i).trans (hat i hi)
  have hfr := hblk.frozen i
  have hb : Below w.heap.size w w6 := (ba (Below.refl w.heap.size w) (.cells #[] 4)).grown hgrow (by simp) (fun k e => by cases e; simp)
  have HR : Hid (BR (w6.setCell ⟨g, i, none⟩ (lv (!f i))) (some ⟨g, 0, none⟩) (m + 1) (flipF f i) ∧ Below w.heap.size w (w6.setCell ⟨g, i, none⟩ (lv (!f i)))) := Lib.hid ⟨⟨g, rfl, fun j hj => ((hblk.set_ i (lv (!f i))).cell j).trans (set_flip hat j hj)⟩, bs hb hg _⟩
  have HC := Lib.hid hc
  generalize f i = b at hcell HR
  have hii : (i : Int) < ((m + 1 : Nat) : Int) := by omega
  clear hown' hgrow hblk hat hb HFL HO0 HNW HONE hg hc
  go_wp2_with fail
  go_ret
  exact ⟨g, c', rfl, HR.out.1, HC.out, HR.out.2⟩
end Go.Proofs.Ytlfghagidajpeaa
