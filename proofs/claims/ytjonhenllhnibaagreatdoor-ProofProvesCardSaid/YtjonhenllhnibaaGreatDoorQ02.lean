/- Texts of this seat, one behind the other: GRow. -/
import Derived.Test.YtjonhenllhnibaaGreatDoorQ01
/- Rows of rows of texts: what can be read of one, and one that the call made. Nothing of any function. -/
namespace Go.Proofs.YtjonhenllhnibaaGreatDoor
open Go.RowKit

theorem gown_kept {W W' : World} {base : Nat} {e : TypeId} {size : Nat} {v : Value} {n : Nat} {xs : List Value} (h : W.ownsRow base e size v n xs) (hk : ∀ k, v.ownBlock = some k → W'.heap[k]? = W.heap[k]?) : W'.ownsRow base e size v n xs := by
  refine ⟨h.1, ?_⟩
  rcases h.2 with h2 | ⟨g, cap, cur, hv, hg, hh, r⟩
  · exact Or.inl h2
  · exact Or.inr ⟨g, cap, cur, hv, hg, (hk g (by rw [hv]; rfl)).trans hh, r⟩
/-- A row of rows of texts that can be read. -/
def GR (w : World) (A : Option Addr) (G : List (List (List UInt8))) : Prop :=
  ∀ i, i < G.length → ∃ g off B d, A = some ⟨g, off, none⟩ ∧ w.cell? ⟨g, off + i, none⟩ = some (.slice B (G.getD i []).length d) ∧ SR w B (G.getD i [])
theorem GR.later {w w' : World} {A : Option Addr} {G : List (List (List UInt8))} (h : GR w A G) (hb : Below w.heap.size w w') : GR w' A G := fun i hi => by
  obtain ⟨g, off, B, d, e, h0, h1⟩ := h i hi
  exact ⟨g, off, B, d, e, cell_later hb h0, h1.later hb⟩
/-- Rows of texts, each of its own, below b. -/
def GO (W : World) (base b : Nat) (Vs : List Value) (G : List (List (List UInt8))) : Prop :=
  Vs.length = G.length ∧ ∀ i, i < G.length → ∃ v, Vs[i]? = some v ∧ W.ownsRow base 9 1 v (G.getD i []).length ((G.getD i []).map sv) ∧ ∀ g, v.ownBlock = some g → g < b
theorem own_heap {W : World} {base : Nat} {e : TypeId} {size n g : Nat} {v : Value} {xs : List Value} (h : W.ownsRow base e size v n xs) (hg : v.ownBlock = some g) : ∃ cur, W.heap[g]? = some (.cells cur e (0, 0)) := by
  rcases h.2 with ⟨rfl, _⟩ | ⟨g', cap, cur, rfl, _, hh, _⟩
  · cases hg
  · cases hg
    exact ⟨cur, hh⟩
theorem own_own_ne {W : World} {b1 b2 : Nat} {e1 e2 : TypeId} {s1 s2 n1 n2 g : Nat} {v1 v2 : Value} {x1 x2 : List Value} (h1 : W.ownsRow b1 e1 s1 v1 n1 x1) (h2 : W.ownsRow b2 e2 s2 v2 n2 x2) (hne : e1 ≠ e2) (hg : v1.ownBlock = some g) : v2.ownBlock ≠ some g := fun e => by
  obtain ⟨c1, k1⟩ := own_heap h1 hg
  obtain ⟨c2, k2⟩ := own_heap h2 e
  rw [k1] at k2
  injection k2 with k2
  injection k2 with _ k3
  exact hne k3
theorem GO.kept {W W' : World} {base b : Nat} {Vs : List Value} {G : List (List (List UInt8))} (h : GO W base b Vs G) (hk : ∀ g, g < b → (∃ cur, W.heap[g]? = some (.cells cur 9 (0, 0))) → W'.heap[g]? = W.heap[g]?) : GO W' base b Vs G :=
  ⟨h.1, fun i hi => by
    obtain ⟨v, h1, h2, h3⟩ := h.2 i hi
    exact ⟨v, h1, gown_kept h2 (fun g hg => hk g (h3 g hg) (own_heap h2 hg)), h3⟩⟩
theorem GO.below {W W' : World} {base b : Nat} {Vs : List Value} {G : List (List (List UInt8))} (h : GO W base b Vs G) (hb : Below W.heap.size W W') : GO W' base b Vs G :=
  h.kept fun g _ hc => by
    obtain ⟨cur, hc⟩ := hc
    exact hb.block g (Array.getElem?_eq_some_iff.1 hc).1
theorem GO.nil (W : World) (base b : Nat) : GO W base b [] [] := ⟨rfl, fun i hi => absurd hi (by simp)⟩
theorem GO.more {W : World} {base b b' : Nat} {Vs : List Value} {G : List (List (List UInt8))} {v : Value} {O : List (List UInt8)} (h : GO W base b Vs G) (hv : W.ownsRow base 9 1 v O.length (O.map sv)) (hb : b ≤ b') (hlt : ∀ g, v.ownBlock = some g → g < b') : GO W base b' (Vs ++ [v]) (G ++ [O]) := by
  refine ⟨by simp [h.1], fun i hi => ?_⟩
  by_cases e : i < G.length
  · obtain ⟨u, h1, h2, h3⟩ := h.2 i e
    refine ⟨u, ?_, ?_, fun g hg => Nat.lt_of_lt_of_le (h3 g hg) hb⟩
    · rw [List.getElem?_append_left (by rw [h.1]; exact e)]; exact h1
    · have : (G ++ [O]).getD i [] = G.getD i [] := by simp [List.getD, List.getElem?_append_left e]
      rw [this]
      exact h2
  · obtain rfl : i = G.length := by simp at hi; omega
    refine ⟨v, ?_, ?_, hlt⟩
    · rw [List.getElem?_append_right (by rw [h.1]; exact Nat.le_refl _), h.1, Nat.sub_self]; rfl
    · have : (G ++ [O]).getD G.length [] = O := by simp [List.getD]
      rw [this]
      exact hv
theorem jown_base {W : World} {b b' : Nat} {e : TypeId} {size n : Nat} {v : Value} {xs : List Value} (h : W.ownsRow b e size v n xs) (hb : b' ≤ b) : W.ownsRow b' e size v n xs := by
  refine ⟨h.1, ?_⟩
  rcases h.2 with h2 | ⟨g, cap, cur, hv, hg, r⟩
  · exact .inl h2
  · exact .inr ⟨g, cap, cur, hv, Nat.le_trans hb hg, r⟩
/-- Behind an append of rows. -/
theorem GO.rows {W W3 : World} {base b base2 n2 : Nat} {o : Obj} {Vs : List Value} {G : List (List (List UInt8))} {v : Value} {xs : List Value} (h : GO W base b Vs G) (hr : (W.alloc o).ownsRow base2 43 1 v n2 xs) (hg : (W.alloc o).grownBy W3 v.ownBlock) : GO W3 base b Vs G :=
  (h.below ((Below.refl W.heap.size W).alloc (Nat.le_refl _) o)).kept fun g _ hc => by
    obtain ⟨cur, hc⟩ := hc
    refine hg.block g (Array.getElem?_eq_some_iff.1 hc).1 (fun e => ?_)
    obtain ⟨c2, k2⟩ := own_heap hr e.symm
    rw [hc] at k2
    injection k2 with k2
    injection k2 with _ k3
    exact absurd k3 (by decide)
/-- Behind an append of a text to a row from b on. -/
theorem GO.texts {W W3 : World} {base b n2 : Nat} {o : Obj} {Vs : List Value} {G : List (List (List UInt8))} {v : Value} {xs : List Value} (h : GO W base b Vs G) (hr : (W.alloc o).ownsRow b 9 1 v n2 xs) (hg : (W.alloc o).grownBy W3 v.ownBlock) : GO W3 base b Vs G :=
  (h.below ((Below.refl W.heap.size W).alloc (Nat.le_refl _) o)).kept fun g hlt hc => by
    obtain ⟨cur, hc⟩ := hc
    refine hg.block g (Array.getElem?_eq_some_iff.1 hc).1 (fun e => ?_)
    have := (hr.lt g e.symm).1
    omega
/-- A row of texts, behind an append of rows. -/
theorem own_rows {W W3 : World} {b base2 n n2 : Nat} {o : Obj} {u v : Value} {xs ys : List Value} (h : W.ownsRow b 9 1 u n ys) (hr : (W.alloc o).ownsRow base2 43 1 v n2 xs) (hg : (W.alloc o).grownBy W3 v.ownBlock) : W3.ownsRow b 9 1 u n ys := by
  have h1 := own_later h ((Below.refl W.heap.size W).alloc (Nat.le_refl _) o)
  exact gown_kept h1 (fun g hgg => hg.block g (h1.lt g hgg).2 (fun e => own_own_ne h1 hr (by decide) hgg e.symm))
/-- A row of rows, behind an append of a text to a row of texts. -/
theorem own_texts {W W3 : World} {b base2 n n2 : Nat} {o : Obj} {u v : Value} {xs ys : List Value} (h : W.ownsRow b 43 1 u n ys) (hr : (W.alloc o).ownsRow base2 9 1 v n2 xs) (hg : (W.alloc o).grownBy W3 v.ownBlock) : W3.ownsRow b 43 1 u n ys := by
  have h1 := own_later h ((Below.refl W.heap.size W).alloc (Nat.le_refl _) o)
  exact gown_kept h1 (fun g hgg => hg.block g (h1.lt g hgg).2 (fun e => own_own_ne h1 hr (by decide) hgg e.symm))
/-- What can be read of a row of rows that the call made. -/
theorem GO.read {W : World} {base b base2 c : Nat} {A : Option Addr} {Vs : List Value} {G : List (List (List UInt8))} (h : GO W base b Vs G) (hr : W.ownsRow base2 43 1 (.slice A G.length c) G.length Vs) : GR W A G := fun i hi => by
  obtain ⟨v, h1, h2, _⟩ := h.2 i hi
  obtain ⟨A', c', e, hh⟩ := own_form hr
  injection e with e1 _ e3
  subst e1
  subst e3
  obtain ⟨B, d, rfl, _⟩ := own_form h2
  rcases hh with ⟨_, h0, _⟩ | ⟨g, rfl, _⟩
  · omega
  · exact ⟨g, 0, B, d, rfl, by rw [Nat.zero_add, hr.cellAt i (by omega)]; exact h1, own_SR' h2 rfl⟩
theorem infoSS : (Tryz.prog.info? 43).map (fun i => (i.zero, i.size, i.bytes)) = some (some (.slice none 0 0), 1, 24) := by kernel_rfl
end Go.Proofs.YtjonhenllhnibaaGreatDoor
