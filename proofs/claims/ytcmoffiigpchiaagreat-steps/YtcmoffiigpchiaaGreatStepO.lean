import Derived.Test.YtcmoffiigpchiaaGreatOneW
namespace Go.Proofs.YtcmoffiigpchiaaGreat
open Go.RowKit

set_option maxRecDepth 100000 in
set_option maxHeartbeats 1000000 in
theorem step_one (o : OpV) (ho : o.Ok) (hk : o.kind = 2) (p : Value) (w : World) :
    Calls Tryz.prog 11 #[p, o.val] w fun e w' => e = .returned (.bool true) ∧ Below w.heap.size w w' := by
  have H := hide (one_true o ho)
  clear ho
  obtain ⟨kind, m, pp, b, ⟨n, pc, regs, cells, clock, handler, back, pending, halted⟩, ⟨input, ticks, interrupt⟩, x, y⟩ := o
  simp only at hk
  subst hk
  unfold OpV.val OpV.cells at *
  simp only at *
  go_enter Tryz.func11, Tryz.ntmps11
  go_wp2_with (go_at_call 14; refine (unhide H _).mono ?_; rintro e w' ⟨rfl, hb⟩)
  go_ret
  exact ⟨rfl, bel_alloc hb⟩
end Go.Proofs.YtcmoffiigpchiaaGreat
