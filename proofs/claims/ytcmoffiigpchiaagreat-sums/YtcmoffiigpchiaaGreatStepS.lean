import Derived.Test.YtcmoffiigpchiaaGreatPlays
import Derived.Test.YtcmoffiigpchiaaGreatSumW
namespace Go.Proofs.YtcmoffiigpchiaaGreat
open Go.RowKit

set_option maxHeartbeats 400000 in
theorem step_sum (o : OpV) (ho : o.Ok) (hk : o.kind = 3) (p : Value) (w : World) :
    Calls Tryz.prog 11 #[p, o.val] w fun e w' => e = .returned (.bool true) ∧ Below w.heap.size w w' := by
  have hb := ho.b
  unfold OpV.val OpV.cells
  rw [hk]
  go_enter Tryz.func11, Tryz.ntmps11
  go_wp2_with (go_at_call 15; refine (summed_true _ _ hb).mono ?_; rintro e w' ⟨rfl, rfl⟩)
  go_ret
  exact ⟨rfl, (Below.refl _ _).alloc (Nat.le_refl _) _⟩

end Go.Proofs.YtcmoffiigpchiaaGreat
