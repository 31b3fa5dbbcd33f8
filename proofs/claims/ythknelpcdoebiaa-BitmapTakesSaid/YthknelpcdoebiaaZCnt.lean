/- The contract of math/bits.OnesCount64. -/
import Derived.Test.YthknelpcdoebiaaZRow
import Derived.Test.YthknelpcdoebiaaZPop
import Derived.Laws.Bits128
namespace Go.Proofs.Ythknelpcdoebiaa
open Go.RowKit

set_option maxRecDepth 100000 in
set_option maxHeartbeats 1000000 in
theorem ones_any (x : Nat) (hx : x < Z64) (w : World) :
    Calls Try.prog 35 #[zq x] w fun e w' => e = .returned (.int .i64 ((zcnt 64 x.testBit : Nat) : Int)) ∧ w = w' := by
  obtain ⟨x1, x2, x3, a, b, c, e1, e2, e3, ea, eb, ec, l1, l2, lc, hm⟩ := zpop x hx
  rw [← hm]
  clear hm
  obtain ⟨s, hs⟩ : ∃ s, x2 / 16 + x2 = s := ⟨_, rfl⟩
  rw [hs] at e3
  have ls : s < Z64 := by have : Z64 = 18446744073709551616 := rfl; omega
  have p1 := zand_nat (x / 2) 6148914691236517205 (by omega) (by decide)
  have p2 := zand_nat x 6148914691236517205 hx (by decide)
  have p3 := zand_nat (x1 / 4) 3689348814741910323 (by omega) (by decide)
  have p4 := zand_nat x1 3689348814741910323 l1 (by decide)
  have p5 := zand_nat s 1085102592571150095 ls (by decide)
  rw [e3] at p5
  generalize x / 2 &&& 6148914691236517205 = y1 at p1 e1
  generalize x &&& 6148914691236517205 = y2 at p2 e1
  generalize x1 / 4 &&& 3689348814741910323 = y3 at p3 e2
  generalize x1 &&& 3689348814741910323 = y4 at p4 e2
  clear e3
  have q1 : bits .and .u64 ((x : Int) / 2) 6148914691236517205 = (y1 : Int) := p1
  have q3 : bits .and .u64 ((x1 : Int) / 4) 3689348814741910323 = (y3 : Int) := p3
  have q2 : bits .and .u64 (x : Int) 6148914691236517205 = (y2 : Int) := p2
  have q4 : bits .and .u64 (x1 : Int) 3689348814741910323 = (y4 : Int) := p4
  have q5 : bits .and .u64 (s : Int) 1085102592571150095 = (x3 : Int) := p5
  have hz : Z64 = 18446744073709551616 := rfl
  rw [hz] at l1 ls
  have f1 : IntKind.u64.wrap ((y1 : Int) + (y2 : Int)) = (x1 : Int) := by rw [IntKind.wrap_u64]; omega
  have f2 : IntKind.u64.wrap ((y3 : Int) + (y4 : Int)) = (x2 : Int) := by rw [IntKind.wrap_u64]; omega
  have f3 : IntKind.u64.wrap ((x2 : Int) / 16 + (x2 : Int)) = (s : Int) := by rw [IntKind.wrap_u64]; omega
  have f4 : IntKind.u64.wrap ((x3 : Int) + (x3 : Int) / 256) = (a : Int) := by rw [IntKind.wrap_u64]; omega
  have f5 : IntKind.u64.wrap ((a : Int) + (a : Int) / 65536) = (b : Int) := by rw [IntKind.wrap_u64]; omega
  have f6 : IntKind.u64.wrap ((b : Int) + (b : Int) / 4294967296) = (c : Int) := by rw [IntKind.wrap_u64]; omega
  have f7 : IntKind.i64.wrap (c : Int) = (c : Int) := by rw [IntKind.wrap_i64]; omega
  clear p1 p2 p3 p4 p5 e1 e2 ea eb ec hs
  go_enter Try.func35, Try.ntmps35
  go_wp2
  go_ret
  refine ⟨?_, rfl⟩
  show Ending.returned (.int .i64 (bits BinOp.and IntKind.i64 (c : Int) 127)) = _
  rw [i64_and127]
end Go.Proofs.Ythknelpcdoebiaa
