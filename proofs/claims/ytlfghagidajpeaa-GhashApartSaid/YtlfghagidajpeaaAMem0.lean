/- Arrays in memory, a block known whole, texts and bytes: words for what stage 6's functions do. Nothing of any function. -/
import Derived.Test.YtlfghagidajpeaaFMath
import Derived.Test.YtlfghagidajpeaaStr
import Derived.Test.YtlfghagidajpeaaBase0
import Derived.Deep.MidRow
import Derived.Deep.AppendLies
import Derived.Deep.CutRange
import Derived.Laws.MakeOwn
namespace Go.Proofs.Ytlfghagidajpeaa
open Go.RowKit

theorem size_of (s : List UInt8) : (⟨s.toArray⟩ : ByteArray).size = s.length := by simp [ByteArray.size]
theorem one_byte (b : UInt8) (W : World) : (convert 35 9 (.slice (some ⟨W.heap.size, 0, none⟩) 1 1)).run Try.prog (W.alloc (.cells #[.int .u8 (b.toNat : Int)] 5)) = .ok (.string ⟨[b].toArray⟩) (W.alloc (.cells #[.int .u8 (b.toNat : Int)] 5)) :=
  run_convert_bytes_back (P := Try.prog) (W.alloc (.cells #[.int .u8 (b.toNat : Int)] 5)) 35 9 5 ⟨W.heap.size, 0, none⟩ 1 [b] Try.underlying35 Try.underlying5 Try.underlying9 (fun j hj => by
    obtain rfl : j = 0 := by simpa using hj
    simp [Addr.add])

theorem byte_at (l : List UInt8) (k : Nat) (h : k < l.length) : (⟨l.toArray⟩ : ByteArray)[k]'(by simpa [ByteArray.size] using h) = l.getD k 0 := by
  have : (⟨l.toArray⟩ : ByteArray)[k]'(by simpa [ByteArray.size] using h) = l[k] := rfl
  rw [this]; simp [List.getD, h]

theorem index_is (S : ByteArray) (i : Nat) (k : Int) (b : UInt8) (hk : (i : Int) = k) (h : S[i]? = some b) (W : World) : (Instr.index 9 (.string S) (.int .i64 k)).run Try.prog W = .ok (.int .u8 (b.toNat : Int)) W := by
  subst hk
  have hlt : i < S.size := by
    rcases Nat.lt_or_ge i S.size with h' | h'
    · exact h'
    · rw [getElem?_neg _ _ (by omega)] at h; cases h
  have hb : S[i] = b := by rw [getElem?_pos S i hlt] at h; exact Option.some.inj h
  rw [run_index_string (h := Try.underlying9), dif_pos ⟨by omega, by omega⟩]
  simp [hb]

theorem xor_byte (a c : UInt8) : bits .xor .u8 (a.toNat : Int) (c.toNat : Int) = ((a ^^^ c).toNat : Int) := by
  have ha := a.toNat_lt
  have hc := c.toNat_lt
  rw [u8_xor_nat _ _ (by omega) (by omega), UInt8.toNat_xor]

theorem at_get (l : List UInt8) (k : Nat) (h : k < l.length) : (⟨l.toArray⟩ : ByteArray)[k]? = some (l.getD k 0) := by
  have hs : k < (⟨l.toArray⟩ : ByteArray).size := by simpa [ByteArray.size] using h
  rw [getElem?_pos (⟨l.toArray⟩ : ByteArray) k hs, byte_at l k h]
theorem setCells_blk {w : World} {g : Nat} {t : TypeId} (l : List Value) : ∀ (o : Nat) (cs : Array Value), Blk w g t cs → ∀ A : List Value, A.length = o → ∀ C : List Value, C.length = l.length → cs = (A ++ C).toArray → Blk (w.setCells g o l) g t (A ++ l).toArray := by
  induction l generalizing w with
  | nil =>
    intro o cs h A hA C hC e
    have : C = [] := List.eq_nil_of_length_eq_zero hC
    subst this
    subst e
    exact h
  | cons v l ih =>
    intro o cs h A hA C hC e
    obtain ⟨c, C', rfl⟩ : ∃ c C', C = c :: C' := by
      cases C with
      | nil => simp at hC
      | cons c C' => exact ⟨c, C', rfl⟩
    have h2 := h.set_ o v
    have e2 : cs.setIfInBounds o v = (A ++ [v] ++ C').toArray := by
      subst e hA
      simp
    have := ih (o + 1) _ h2 (A ++ [v]) (by simp [hA]) C' (by simpa using hC) e2
    simpa [World.setCells] using this
theorem Blk.whole {w : World} {g : Nat} {t : TypeId} {cs : Array Value} (h : Blk w g t cs) (l : List Value) (hl : l.length = cs.size) : Blk (w.setCells g 0 l) g t l.toArray := by
  have := setCells_blk l 0 cs h [] rfl cs.toList (by simp [hl]) (by simp)
  simpa using this
theorem setCells_heap (l : List Value) : ∀ (w : World) (g o k : Nat), k ≠ g → (w.setCells g o l).heap[k]? = w.heap[k]? := by
  induction l with
  | nil => intro w g o k _; rfl
  | cons v l ih => intro w g o k hk; rw [World.setCells, ih _ _ _ _ hk]; exact Below.heap_setCell w ⟨g, o, none⟩ v k hk
theorem Blk.far_ {w : World} {g k : Nat} {t : TypeId} {cs : Array Value} (h : Blk w k t cs) (hk : k ≠ g) (o : Nat) (l : List Value) : Blk (w.setCells g o l) k t cs := (setCells_heap l w g o k hk).trans h
theorem below_setCells {B g : Nat} (hg : B ≤ g) (l : List Value) : ∀ (o : Nat) (w w1 : World), Below B w w1 → Below B w (w1.setCells g o l) := by
  induction l with
  | nil => intro o w w1 h; exact h
  | cons v l ih => intro o w w1 h; exact ih (o + 1) w _ (h.setCell (p := ⟨g, o, none⟩) hg v)
theorem bw {w w1 : World} (h : Below w.heap.size w w1) {g : Nat} (hg : w.heap.size ≤ g) (o : Nat) (l : List Value) : Below w.heap.size w (w1.setCells g o l) := below_setCells hg l o w w1 h
theorem Blk.there {w : World} {g : Nat} {t : TypeId} {cs : Array Value} (h : Blk w g t cs) {n : Nat} (hn : n ≤ cs.size) : w.there g 0 n := fun j hj => by
  rw [Nat.zero_add]
  refine ⟨?_, h.frozen j⟩
  rw [h.cell j]
  have : j < cs.size := by omega
  simp [this]
@[simp] theorem size_setCells (l : List Value) : ∀ (w : World) (g o : Nat), (w.setCells g o l).heap.size = w.heap.size := by
  induction l with
  | nil => intro w g o; rfl
  | cons v l ih => intro w g o; rw [World.setCells, ih]; simp [World.setCell]
theorem heap_alloc_new' (W : World) (o : Obj) {n : Nat} (h : W.heap.size = n) : (W.alloc o).heap[n]? = some o := by subst h; exact heap_alloc_new W o
theorem news_new (W : World) (l : List Value) (t : TypeId) (j : Nat) (u : Value) (hj : l[j]? = some u) : (W.alloc (.cells l.toArray t)).cell? ((⟨W.heap.size, 0, none⟩ : Addr).add j) = some u := by
  rw [Addr.add_mid, Nat.zero_add, cell_of_row _ _ _ _ _ _ (heap_alloc_new W _)]
  simpa using hj
theorem own_alloc {W : World} {base : Nat} {e : TypeId} {size : Nat} {v : Value} {n : Nat} {xs : List Value} (h : W.ownsRow base e size v n xs) (o : Obj) : (W.alloc o).ownsRow base e size v n xs := by
  obtain ⟨h1, h2⟩ := h
  refine ⟨h1, ?_⟩
  rcases h2 with h2 | ⟨g, cap, cur, hv, hg, hh, r⟩
  · exact Or.inl h2
  · exact Or.inr ⟨g, cap, cur, hv, hg, (Below.heap_alloc W o g (Array.getElem?_eq_some_iff.1 hh).1).trans hh, r⟩
theorem own_text {W : World} {base g c n : Nat} {l : List UInt8} (h : W.ownsRow base 5 1 (.slice (some ⟨g, 0, none⟩) n c) n (Lib.byteCells l)) (hn : l.length = n) : (convert 35 9 (.slice (some ⟨g, 0, none⟩) n c)).run Try.prog W = .ok (.string ⟨l.toArray⟩) W := by
  subst hn
  refine run_convert_bytes_back (P := Try.prog) W 35 9 5 ⟨g, 0, none⟩ c l Try.underlying35 Try.underlying5 Try.underlying9 (fun j hj => ?_)
  rw [Addr.add_mid, Nat.zero_add, h.cellAt j (by simpa using hj)]
  simp [Lib.byteCells, hj]
theorem bdn' {B : Nat} {a w : World} (h : Below B a w) (n : Nat) : Below B a (w.drewN n) := ⟨h.os, h.tape, h.output, h.size, h.block⟩
theorem drewN_name (w : World) (n : Nat) : ∃ w1, w.drewN n = w1 := ⟨_, rfl⟩

/-- A byte's cell. -/
abbrev uv (b : UInt8) : Value := .int .u8 (b.toNat : Int)
def ub (L : List UInt8) (i : Nat) : UInt8 := L.getD i 0
theorem ub_at {L : List UInt8} {i : Nat} (h : i < L.length) : ub L i = L[i] := by simp [ub, List.getD, h]
theorem row_at {L : List UInt8} {i : Nat} (h : i < L.length) : ((L.map uv).toArray)[i]? = some (uv (ub L i)) := by
  rw [ub_at h]; simp [h]
theorem uvs_one (L : List UInt8) : ∀ v ∈ L.map uv, v.oneCell' = true := by
  intro v hv
  obtain ⟨x, _, rfl⟩ := List.mem_map.1 hv
  rfl
theorem byteCells_uv (L : List UInt8) : Lib.byteCells L = L.map uv := rfl
theorem list_ext {A B : List UInt8} {n : Nat} (ha : A.length = n) (hb : B.length = n) (h : ∀ i, i < n → ub A i = ub B i) : A = B := by
  apply List.ext_getElem
  · rw [ha, hb]
  · intro i h1 h2
    rw [← ub_at h1, ← ub_at h2]
    exact h i (by omega)
/-- So many bytes, by their places. -/
def tab (n : Nat) (f : Nat → UInt8) : List UInt8 := (List.range n).map f
theorem tab_len (n : Nat) (f : Nat → UInt8) : (tab n f).length = n := by simp [tab]
theorem ub_tab {n : Nat} (f : Nat → UInt8) {i : Nat} (h : i < n) : ub (tab n f) i = f i := by
  rw [ub_at (by rw [tab_len]; exact h)]
  simp [tab]
theorem tab_ub {L : List UInt8} {n : Nat} (h : L.length = n) : tab n (ub L) = L := list_ext (tab_len _ _) h fun _ hi => ub_tab _ hi
theorem tab_ext {n : Nat} {f g : Nat → UInt8} (h : ∀ i, i < n → f i = g i) : tab n f = tab n g := list_ext (tab_len _ _) (tab_len _ _) fun i hi => by rw [ub_tab _ hi, ub_tab _ hi, h i hi]
/-- So many bytes of one list, and the others of another one. -/
def cutL (k : Nat) (N M : List UInt8) : List UInt8 := N.take k ++ M.drop k
theorem cutL_zero (N M : List UInt8) : cutL 0 N M = M := by simp [cutL]
theorem cutL_all {N M : List UInt8} {n : Nat} (hn : N.length = n) (hm : M.length = n) : cutL n N M = N := by
  subst hn
  simp [cutL, List.drop_of_length_le (Nat.le_of_eq hm)]
theorem cutL_len {N M : List UInt8} {n k : Nat} (hn : N.length = n) (hm : M.length = n) (h : k ≤ n) : (cutL k N M).length = n := by
  simp [cutL, hn, hm]; omega
theorem ub_cutL {N M : List UInt8} {n k i : Nat} (hn : N.length = n) (hm : M.length = n) (h : k ≤ n) (hi : i < n) : ub (cutL k N M) i = if i < k then ub N i else ub M i := by
  rw [ub_at (by rw [cutL_len hn hm h]; exact hi)]
  unfold cutL
  by_cases hik : i < k
  · rw [if_pos hik, List.getElem_append_left (by rw [List.length_take]; omega), List.getElem_take, ub_at (by omega)]
  · rw [if_neg hik, List.getElem_append_right (by rw [List.length_take]; omega), List.getElem_drop, ub_at (by omega)]
    congr 1
    rw [List.length_take]; omega
theorem cutL_set {N M : List UInt8} {n k : Nat} (hn : N.length = n) (hm : M.length = n) (h : k < n) : ((cutL k N M).map uv).toArray.setIfInBounds k (uv (ub N k)) = ((cutL (k + 1) N M).map uv).toArray := by
  have l1 := cutL_len (k := k) hn hm (by omega)
  have l2 := cutL_len (k := k + 1) hn hm (by omega)
  apply Array.ext
  · simp [l1, l2]
  · intro i h1 h2
    have hi : i < n := by simpa [l2] using h2
    have e2 := row_at (L := cutL (k + 1) N M) (i := i) (by omega)
    rw [Array.getElem?_eq_getElem h2] at e2
    rw [Option.some.inj e2, Array.getElem_setIfInBounds (by simpa [l1] using hi), ub_cutL hn hm (by omega) hi]
    by_cases hik : k = i
    · subst hik
      rw [if_pos rfl, if_pos (by omega)]
    · have e1 := row_at (L := cutL k N M) (i := i) (by omega)
      rw [Array.getElem?_eq_getElem (by simpa [l1] using hi)] at e1
      rw [if_neg hik, Option.some.inj e1, ub_cutL hn hm (by omega) hi]
      by_cases hl : i < k
      · rw [if_pos hl, if_pos (by omega)]
      · rw [if_neg hl, if_neg (by omega)]
theorem cutL_set4 {N M : List UInt8} {n k : Nat} (hn : N.length = n) (hm : M.length = n) (h : k + 4 ≤ n) :
    ((((((cutL k N M).map uv).toArray.setIfInBounds k (uv (ub N k))).setIfInBounds (k + 1) (uv (ub N (k + 1)))).setIfInBounds (k + 2) (uv (ub N (k + 2)))).setIfInBounds (k + 3) (uv (ub N (k + 3)))) = ((cutL (k + 4) N M).map uv).toArray := by
  rw [cutL_set hn hm (by omega), cutL_set hn hm (by omega), cutL_set hn hm (by omega), cutL_set hn hm (by omega)]
theorem four_list {L : List UInt8} (h : L.length = 4) : ∃ a b c d, L = [a, b, c, d] := by
  match L, h with
  | [a, b, c, d], _ => exact ⟨a, b, c, d, rfl⟩
theorem tab4 (f : Nat → UInt8) : tab 4 f = [f 0, f 1, f 2, f 3] := rfl
end Go.Proofs.Ytlfghagidajpeaa
