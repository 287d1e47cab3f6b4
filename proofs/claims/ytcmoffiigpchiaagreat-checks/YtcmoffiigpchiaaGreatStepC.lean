import Derived.Test.YtcmoffiigpchiaaGreatPlays
import Derived.Test.YtcmoffiigpchiaaGreatRefCheckW
namespace Go.Proofs.YtcmoffiigpchiaaGreat
open Go.RowKit

set_option maxHeartbeats 400000 in
theorem step_check (o : OpV) (ho : o.Ok) (hk : o.kind = 1) (p : Value) (w : World) :
    Calls Tryz.prog 11 #[p, o.val] w fun e w' => e = .returned (.bool true) ∧ Below w.heap.size w w' := by
  have hp := ho.p
  unfold OpV.val OpV.cells
  rw [hk]
  go_enter Tryz.func11, Tryz.ntmps11
  go_wp2_with (go_at_call 13; refine (checked_true _ _ hp).mono ?_; rintro e w' ⟨rfl, hb⟩)
  go_ret
  exact ⟨rfl, bel_alloc hb⟩
end Go.Proofs.YtcmoffiigpchiaaGreat
