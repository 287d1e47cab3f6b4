import Derived.Test.YtcmoffiigpchiaaGreatStepW
import Derived.Test.YtcmoffiigpchiaaGreatStepR
import Derived.Test.YtcmoffiigpchiaaGreatBoxW
namespace Go.Proofs.YtcmoffiigpchiaaGreat
open Go.RowKit

set_option maxRecDepth 100000 in
set_option maxHeartbeats 1000000 in
theorem same_law (s : StV) (w : World) :
    Calls Tryz.prog 28 #[s.val, s.val] w fun e w' => e = .returned (.bool true) ∧ Below w.heap.size w w' := by
  obtain ⟨n, pc, regs, cells, clock, handler, back, pending, halted⟩ := s
  go_enter Tryz.func28, Tryz.ntmps28
  go_wp2
  go_ret
  exact ⟨by simp, bel2⟩
end Go.Proofs.YtcmoffiigpchiaaGreat

namespace Go.Proofs.YtcmoffiigpchiaaGreat
open Go.RowKit

theorem step_bound (p : ByteArray) (s : StV) (c : ChV) : 0 ≤ (Mach.step p s c).2 ∧ (Mach.step p s c).2 ≤ 5 := by
  unfold Mach.step
  split
  · simp
  · unfold Mach.refusal
    have := chk_bound p
    repeat' split
    all_goals simp only
    all_goals omega

set_option maxRecDepth 100000 in
set_option maxHeartbeats 2000000 in
theorem one_true (o : OpV) (ho : o.Ok) (w : World) :
    Calls Tryz.prog 14 #[o.val] w fun e w' => e = .returned (.bool true) ∧ Below w.heap.size w w' := by
  have H1 := hide (step_api o.p o.s o.c ho.p)
  have H2 := hide (step_ref o.p o.s o.c ho.p)
  have hbd := step_bound o.p o.s o.c
  generalize Mach.step o.p o.s o.c = q at *
  obtain ⟨⟨n', pc', regs', cells', clock', handler', back', pending', halted'⟩, f⟩ := q
  obtain ⟨kind, m, p, b, ⟨n, pc, regs, cells, clock, handler, back, pending, halted⟩, ⟨input, ticks, interrupt⟩, x, y⟩ := o
  simp only at hbd H1 H2
  clear ho
  unfold OpV.val OpV.cells
  simp only
  go_enter Tryz.func14, Tryz.ntmps14
  go_wp2_with (first | (go_at_call 26; refine (unhide H1 _).mono ?_; rintro e w1 ⟨rfl, hb1⟩; have B1 := hide ((Box.new _ _ _).next hb1); have L1 := hide (bel_alloc hb1); clear hb1; obtain ⟨c1, f1, z1⟩ := unhide B1) | (go_at_call 27; refine (unhide H2 _).mono ?_; rintro e w2 ⟨rfl, hb2⟩; have B2 := hide ((Box.new _ _ _).next hb2); have L2 := hide (bel_alloc hb2); clear hb2; obtain ⟨c2, f2, z2⟩ := unhide B2) | (go_at_call 28; refine (same_law ⟨n', pc', regs', cells', clock', handler', back', pending', halted'⟩ _).mono ?_; rintro e w3 ⟨rfl, hb3⟩; have L3 := hide (bel_alloc hb3); clear hb3) | (go_at_call 25; refine (num_law _ (by omega) _).mono ?_; rintro e w' ⟨rfl, rfl⟩))
  go_ret
  exact ⟨by simp, (unhide L1).trans (((unhide L2).trans ((unhide L3).mono (unhide L2).size)).mono (unhide L1).size)⟩
end Go.Proofs.YtcmoffiigpchiaaGreat
