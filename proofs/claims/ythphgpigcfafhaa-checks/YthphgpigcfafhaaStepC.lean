import Derived.Test.YthphgpigcfafhaaPlays
import Derived.Test.YthphgpigcfafhaaRefCheckW
namespace Go.Proofs.Ythphgpigcfafhaa
open Go.RowKit

set_option maxHeartbeats 400000 in
theorem step_check (o : OpV) (ho : o.Ok) (hk : o.kind = 1) (p : Value) (w : World) :
    Calls Try.prog 7 #[p, o.val] w fun e w' => e = .returned (.bool true) ∧ Below w.heap.size w w' := by
  have hp := ho.p
  unfold OpV.val OpV.cells
  rw [hk]
  go_enter Try.func7, Try.ntmps7
  go_wp2_with (go_at_call 9; refine (checked_true _ _ hp).mono ?_; rintro e w' ⟨rfl, hb⟩)
  go_ret
  exact ⟨rfl, bel_alloc hb⟩
end Go.Proofs.Ythphgpigcfafhaa
