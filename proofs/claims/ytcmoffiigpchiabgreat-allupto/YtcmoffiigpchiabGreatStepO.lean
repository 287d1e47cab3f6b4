import Derived.Test.YtcmoffiigpchiabGreatBoxW
import Derived.Test.YtcmoffiigpchiabGreatRefCheckW
import Derived.Test.YtcmoffiigpchiabGreatSumW
import Derived.Test.YtcmoffiigpchiabGreatOneW
namespace Go.Proofs.YtcmoffiigpchiabGreat
open Go.RowKit

set_option maxHeartbeats 400000 in
theorem step_check (o : OpV) (ho : o.Ok) (hk : o.kind = 1) (p : Value) (w : World) :
    Calls Tryz.prog 5 #[p, o.val] w fun e w' => e = .returned (.bool true) ∧ Below w.heap.size w w' := by
  have hp := ho.p
  unfold OpV.val OpV.cells
  rw [hk]
  go_enter Tryz.func5, Tryz.ntmps5
  go_wp2_with (go_at_call 7; refine (checked_true _ _ hp).mono ?_; rintro e w' ⟨rfl, hb⟩)
  go_ret
  exact ⟨rfl, bel_alloc hb⟩
end Go.Proofs.YtcmoffiigpchiabGreat

namespace Go.Proofs.YtcmoffiigpchiabGreat
open Go.RowKit

set_option maxHeartbeats 400000 in
theorem step_sum (o : OpV) (ho : o.Ok) (hk : o.kind = 3) (p : Value) (w : World) :
    Calls Tryz.prog 5 #[p, o.val] w fun e w' => e = .returned (.bool true) ∧ Below w.heap.size w w' := by
  have hb := ho.b
  unfold OpV.val OpV.cells
  rw [hk]
  go_enter Tryz.func5, Tryz.ntmps5
  go_wp2_with (go_at_call 9; refine (summed_true _ _ hb).mono ?_; rintro e w' ⟨rfl, rfl⟩)
  go_ret
  exact ⟨rfl, (Below.refl _ _).alloc (Nat.le_refl _) _⟩

end Go.Proofs.YtcmoffiigpchiabGreat

namespace Go.Proofs.YtcmoffiigpchiabGreat
open Go.RowKit

set_option maxRecDepth 100000 in
set_option maxHeartbeats 1000000 in
theorem step_one (o : OpV) (ho : o.Ok) (hk : o.kind = 2) (p : Value) (w : World) :
    Calls Tryz.prog 5 #[p, o.val] w fun e w' => e = .returned (.bool true) ∧ Below w.heap.size w w' := by
  have H := hide (one_true o ho)
  clear ho
  obtain ⟨kind, m, pp, b, ⟨n, pc, regs, cells, clock, handler, back, pending, halted⟩, ⟨input, ticks, interrupt⟩, x, y⟩ := o
  simp only at hk
  subst hk
  unfold OpV.val OpV.cells at *
  simp only at *
  go_enter Tryz.func5, Tryz.ntmps5
  go_wp2_with (go_at_call 8; refine (unhide H _).mono ?_; rintro e w' ⟨rfl, hb⟩)
  go_ret
  exact ⟨rfl, bel_alloc hb⟩
end Go.Proofs.YtcmoffiigpchiabGreat
