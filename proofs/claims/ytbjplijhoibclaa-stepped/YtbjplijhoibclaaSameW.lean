import Derived.Test.YtbjplijhoibclaaStepW
namespace Go.Proofs.Ytbjplijhoibclaa
open Go.RowKit

set_option maxRecDepth 100000 in
set_option maxHeartbeats 1000000 in
theorem same_law (s : StV) (w : World) :
    Calls Try.prog 47 #[s.val, s.val] w fun e w' => e = .returned (.bool true) ∧ Below w.heap.size w w' := by
  obtain ⟨n, pc, regs, cells, clock, handler, back, pending, halted⟩ := s
  go_enter Try.func47, Try.ntmps47
  go_wp2
  go_ret
  exact ⟨by simp, bel2⟩
end Go.Proofs.Ytbjplijhoibclaa
