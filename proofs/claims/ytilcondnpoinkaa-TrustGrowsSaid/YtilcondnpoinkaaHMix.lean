/- SHA-256's state, keys and mixing, in plain numbers and lists: nothing of the program. -/
import Derived.Test.YtilcondnpoinkaaHMath
namespace Go.Proofs.Ytilcondnpoinkaa

/-- The first state. -/
def startL : List Nat := [1779033703, 3144134277, 1013904242, 2773480762, 1359893119, 2600822924, 528734635, 1541459225]
/-- The keys. -/
def keysL : List Nat := [1116352408, 1899447441, 3049323471, 3921009573, 961987163, 1508970993, 2453635748, 2870763221, 3624381080, 310598401, 607225278, 1426881987, 1925078388, 2162078206, 2614888103, 3248222580, 3835390401, 4022224774, 264347078, 604807628, 770255983, 1249150122, 1555081692, 1996064986, 2554220882, 2821834349, 2952996808, 3210313671, 3336571891, 3584528711, 113926993, 338241895, 666307205, 773529912, 1294757372, 1396182291, 1695183700, 1986661051, 2177026350, 2456956037, 2730485921, 2820302411, 3259730800, 3345764771, 3516065817, 3600352804, 4094571909, 275423344, 430227734, 506948616, 659060556, 883997877, 958139571, 1322822218, 1537002063, 1747873779, 1955562222, 2024104815, 2227730452, 2361852424, 2428436474, 2756734187, 3204031479, 3329325298]
/-- A state behind one round, by its words. -/
def stepL (s : List Nat) (k x : Nat) : List Nat := roundL (wn s 0) (wn s 1) (wn s 2) (wn s 3) (wn s 4) (wn s 5) (wn s 6) (wn s 7) k x
/-- A state behind so many rounds. -/
def mixN (s ks ws : List Nat) : Nat → List Nat
  | 0 => s
  | t + 1 => stepL (mixN s ks ws t) (wn ks t) (wn ws t)
/-- A state mixed with a block. -/
def mixL (s : List Nat) (b : List UInt8) : List Nat := (List.range 8).map fun i => (wn (mixN s keysL (sched b 64) 64) i + wn s i) % 4294967296
theorem stepL_len (s : List Nat) (k x : Nat) : (stepL s k x).length = 8 := rfl
theorem mixN_len (s ks ws : List Nat) (h : s.length = 8) (t : Nat) : (mixN s ks ws t).length = 8 := by
  cases t with
  | zero => exact h
  | succ t => rfl
theorem step_lt (s : List Nat) (h : ∀ x ∈ s, x < 4294967296) (k x : Nat) : ∀ y ∈ stepL s k x, y < 4294967296 := by
  intro y hy
  simp only [stepL, roundL, List.mem_cons, List.not_mem_nil, or_false] at hy
  rcases hy with rfl | rfl | rfl | rfl | rfl | rfl | rfl | rfl
  · exact Nat.mod_lt _ (by omega)
  · exact wn_lt h _
  · exact wn_lt h _
  · exact wn_lt h _
  · exact Nat.mod_lt _ (by omega)
  · exact wn_lt h _
  · exact wn_lt h _
  · exact wn_lt h _
theorem mixN_lt (s ks ws : List Nat) (h : ∀ x ∈ s, x < 4294967296) (t : Nat) : ∀ y ∈ mixN s ks ws t, y < 4294967296 := by
  induction t with
  | zero => exact h
  | succ t ih => exact step_lt _ ih _ _
theorem keys_len : keysL.length = 64 := rfl
theorem mixL_len (s : List Nat) (b : List UInt8) : (mixL s b).length = 8 := by simp [mixL]
theorem mixL_lt (s : List Nat) (b : List UInt8) : ∀ x ∈ mixL s b, x < 4294967296 := by
  intro x hx
  simp only [mixL, List.mem_map] at hx
  obtain ⟨i, _, rfl⟩ := hx
  exact Nat.mod_lt _ (by omega)
/-- Any eight words. -/
theorem eight_of (L : List Nat) (h : L.length = 8) : ∃ a b c d e f g i, L = [a, b, c, d, e, f, g, i] := by
  match L, h with
  | [a, b, c, d, e, f, g, i], _ => exact ⟨a, b, c, d, e, f, g, i, rfl⟩
end Go.Proofs.Ytilcondnpoinkaa
