/- What copy does: a text's first bytes into a word; words into a grid. Nothing of any function. -/
import Derived.Test.YtodolffolbkaaaaAMath
import Derived.Lib.BufferWrite
import Derived.Laws.CopyRow
namespace Go.Proofs.Ytodolffolbkaaaa
open Go.RowKit

theorem info8 : (Try.prog.info? 5).map (·.size) = some 1 := by kernel_rfl
theorem info8s : (Try.prog.info? 43).map (·.size) = some 4 := by kernel_rfl
theorem Blk.setRow {w : World} {g : Nat} {t : TypeId} {cs : Array Value} (h : Blk w g t cs) (cs' : Array Value) : Blk (w.setRow g cs') g t cs' := setRow_heap w g cs cs' t _ h
theorem Blk.setRow_far {w : World} {g k : Nat} {t : TypeId} {cs : Array Value} (h : Blk w k t cs) (hk : k ≠ g) (cs' : Array Value) : Blk (w.setRow g cs') k t cs := (setRow_other _ _ _ _ hk).trans h
theorem below_setRow {B g : Nat} {w w1 : World} (h : Below B w w1) (hg : B ≤ g) (cs : Array Value) : Below B w (w1.setRow g cs) :=
  h.trans ⟨rfl, rfl, rfl, by simp [World.setRow], fun k hk => setRow_other _ _ _ _ (by omega)⟩

/-- A text that is longer than the row: so many of its bytes. -/
theorem copy_text (w : World) (g n : Nat) (l : List UInt8) (cur : Array Value) (t : TypeId) (hg : Blk w g t cur) (hn : n ≤ l.length) (hc : cur.size = n) :
    (Builtin.copy_ #[40, 9] 3 #[.slice (some ⟨g, 0, none⟩) n n, .string ⟨l.toArray⟩]).run Try.prog w = .ok (goInt n) (w.setRow g ((l.take n).map uv).toArray) := by
  have hlen : ((l.take n).map uv).length = n := by rw [List.length_map, List.length_take]; omega
  have hst := run_storeCells_at Try.prog g 0 t ((l.take n).map uv) 0 cur w hg (by rw [hlen]; omega) (uvs_one _)
  have hmin : Nat.min (⟨l.toArray⟩ : ByteArray).size n = n := by rw [size_of]; exact Nat.min_eq_right hn
  have htk : List.take n (List.map (fun b : UInt8 => Value.int IntKind.u8 (b.toNat : Int)) l) = (l.take n).map uv := by rw [List.map_take]
  have hdr : cur.toList.drop n = [] := List.drop_of_length_le (by simp [hc])
  rw [hlen] at hst
  simp only [Nat.add_zero, Nat.zero_add, List.take_zero, List.nil_append, hdr, List.append_nil] at hst
  cases hq : Try.prog.info? 5 with
  | none => have := info8; simp [hq] at this
  | some i =>
    simp [Builtin.copy_, run_underlying Try.underlying40, Builtin.lenOf, Builtin.firstCells, sizeOf, typeInfo, hq, hmin]
    rw [← List.map_take]
    rw [hst]
    simp [Result.andThen]

/-- Four words out of a row of them into a grid of a row of grids. -/
theorem copy_words (w : World) (g o q s n m : Nat) (L : List UInt8) (cur : Array Value) (t t' : TypeId) (hg : Blk w g t cur) (hq : Blk w q t' (L.map uv).toArray) (hn : 4 ≤ n) (hs : s + 16 ≤ L.length) (hfit : o + 16 ≤ cur.size) :
    (Builtin.copy_ #[59, 59] 3 #[.slice (some ⟨g, o, none⟩) 4 4, .slice (some ⟨q, s, none⟩) n m]).run Try.prog w =
      .ok (goInt 4) (w.setRow g (cur.toList.take o ++ (((L.drop s).take 16).map uv) ++ cur.toList.drop (o + 16)).toArray) := by
  have hlen : (((L.drop s).take 16).map uv).length = 16 := by rw [List.length_map, List.length_take, List.length_drop]; omega
  have hl := run_loadCells_list (P := Try.prog) w ⟨q, s, none⟩ (((L.drop s).take 16).map uv) (fun j v hv => by
    have hj : j < 16 := by have := (List.getElem?_eq_some_iff.1 hv).1; omega
    rw [Addr.add_mid, hq.cell]
    rw [← hv]
    simp [hj])
  have hst := run_storeCells_at Try.prog g o t (((L.drop s).take 16).map uv) 0 cur w hg (by rw [hlen]; omega) (uvs_one _)
  rw [hlen] at hl hst
  simp only [Nat.add_zero] at hst
  have hmin : Nat.min n 4 = 4 := Nat.min_eq_right hn
  cases hq : Try.prog.info? 43 with
  | none => have := info8s; simp [hq] at this
  | some i =>
    have hi : i.size = 4 := by have := info8s; simpa [hq] using this
    simp [Builtin.copy_, run_underlying Try.underlying59, Builtin.lenOf, Builtin.firstCells, sizeOf, typeInfo, hq, hi, hmin]
    rw [← List.map_drop, ← List.map_take, hl]
    simp only [Result.andThen_ok]
    rw [hst]
    simp [Result.andThen]
end Go.Proofs.Ytodolffolbkaaaa
