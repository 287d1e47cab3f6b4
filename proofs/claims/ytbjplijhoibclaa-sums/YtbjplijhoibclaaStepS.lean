import Derived.Test.YtbjplijhoibclaaPlays
import Derived.Test.YtbjplijhoibclaaSumW
namespace Go.Proofs.Ytbjplijhoibclaa
open Go.RowKit

set_option maxHeartbeats 400000 in
theorem step_sum (o : OpV) (ho : o.Ok) (hk : o.kind = 3) (p : Value) (w : World) :
    Calls Try.prog 13 #[p, o.val] w fun e w' => e = .returned (.bool true) ∧ Below w.heap.size w w' := by
  have hb := ho.b
  unfold OpV.val OpV.cells
  rw [hk]
  go_enter Try.func13, Try.ntmps13
  go_wp2_with (go_at_call 28; refine (summed_true _ _ hb).mono ?_; rintro e w' ⟨rfl, rfl⟩)
  go_ret
  exact ⟨rfl, (Below.refl _ _).alloc (Nat.le_refl _) _⟩

end Go.Proofs.Ytbjplijhoibclaa
