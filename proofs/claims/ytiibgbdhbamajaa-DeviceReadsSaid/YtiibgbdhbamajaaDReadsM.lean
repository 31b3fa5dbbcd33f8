/- What DeviceReads wants of a device in plain lists. Nothing of any function. -/
import Derived.Test.YtiibgbdhbamajaaDevM
namespace Go.Proofs.Ytiibgbdhbamajaa

theorem rightB_more {S : List (List UInt8)} {C : List PutL} {k : Int} {t : List UInt8} (h : rightB S C = true) (hk : 0 ≤ k ∧ k < (S.length : Int)) (ht : t.length ≤ 128) (hm : C.length ≠ 60) : rightB S (C ++ [(k, t)]) = true := by
  obtain ⟨h1, h2, h3, h4, h5⟩ := rightB_yes h
  refine rightB_mk ⟨h1, h2, by simp; omega, h4, fun p hp => ?_⟩
  rcases List.mem_append.1 hp with hp | hp
  · exact h5 p hp
  · rw [List.mem_singleton.1 hp]; exact ⟨hk.1, hk.2, ht⟩
theorem rightB_store {S : List (List UInt8)} {C : List PutL} (h : rightB S C = true) : rightB (storeD S C) [] = true := by
  obtain ⟨h1, h2, h3, h4, h5⟩ := rightB_yes h
  refine rightB_mk ⟨by rw [storeD_len]; exact h1, by rw [storeD_len]; exact h2, by simp, fun s hs => ?_, fun p hp => by cases hp⟩
  obtain ⟨i, hi, rfl⟩ := List.getElem_of_mem hs
  have hi2 : i < S.length := by rw [storeD_len] at hi; exact hi
  have e := storeD_at S C hi2
  simp only [List.getD, List.getElem?_eq_getElem hi, Option.getD_some] at e
  rw [e]
  rcases readD_some S i C with e2 | ⟨p, hp, _, e2⟩
  · rw [e2]
    simp only [List.getD, List.getElem?_eq_getElem hi2, Option.getD_some]
    exact h4 _ (List.getElem_mem _)
  · rw [← e2]; exact (h5 p hp).2.2
/-- Whether a text stood in the store, or is one of the first j in the cache for that sector. -/
def someB (x s : List UInt8) (C : List PutL) (i j : Nat) : Bool := (x == s) || (C.take j).any (fun p => p.1 == (i : Int) && p.2 == x)
theorem someB_zero (x s : List UInt8) (C : List PutL) (i : Nat) : someB x s C i 0 = (x == s) := by simp [someB]
theorem someB_more (x s : List UInt8) (C : List PutL) (i j : Nat) (h : j < C.length) : someB x s C i (j + 1) = (someB x s C i j || ((C.getD j (0, [])).1 == (i : Int) && (C.getD j (0, [])).2 == x)) := by
  rw [someB, someB, List.take_succ_eq_append_getElem h, List.any_append, Bool.or_assoc]
  simp [List.getD, h]
theorem someB_all (S : List (List UInt8)) (C : List PutL) (K i : Nat) (hi : i < S.length) : someB ((storeD S (keptD K C)).getD i []) (S.getD i []) C i C.length = true := by
  rw [storeD_at _ _ hi, someB, List.take_length]
  rcases kept_some S i K C with e | ⟨p, hp, e1, e2⟩
  · rw [e]; simp
  · have : C.any (fun p => p.1 == (i : Int) && p.2 == readD S (keptD K C) i) = true := List.any_eq_true.2 ⟨p, hp, by simp [e1, e2]⟩
    rw [this, Bool.or_true]
end Go.Proofs.Ytiibgbdhbamajaa
