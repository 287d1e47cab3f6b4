import Derived.Test.YtcmoffiigpchiaaStP
namespace Go.Proofs.Ytcmoffiigpchiaa
open Go.RowKit

set_option maxRecDepth 100000 in
set_option maxHeartbeats 1000000 in
theorem arrive_code (s : StV) (c : ChV) (hs : Mach.Legal s) (hc : Mach.Chosen c) (w : World) :
    Calls Try.prog 55 #[s.val, c.val] w fun e w' => e = .returned (Mach.arrive s c).val ∧ Below w.heap.size w w' := by
  obtain ⟨n, pc, regs, cells, clock, handler, back, pending, halted⟩ := s
  obtain ⟨input, ticks, interrupt⟩ := c
  obtain ⟨n0, n1, pc0, pc1, hregs, hcells, hc0, hc1, hh0, hh1, hb0, hb1⟩ := hs
  obtain ⟨i0, i1, t0, t1⟩ := hc
  simp only at n0 n1 pc0 pc1 hregs hcells hc0 hc1 hh0 hh1 hb0 hb1 i0 i1 t0 t1
  cases interrupt <;> cases pending
  · go_enter Try.func55, Try.ntmps55
    go_wp2
    exact bodyPost_ret (v := StV.val ⟨n, pc, regs, cells, (clock + ticks) % 65536, handler, back, false, halted⟩) (by simp [results, Try.results55, go_sem]) rfl ⟨ret_val (by simp [Mach.arrive]), bel3⟩
  all_goals
    by_cases h1 : 0 ≤ handler
    · by_cases h2 : back < 0
      · go_enter Try.func55, Try.ntmps55
        go_wp2
        exact bodyPost_ret (v := StV.val ⟨n, handler, regs, cells, (clock + ticks) % 65536, handler, pc, false, halted⟩) (by simp [results, Try.results55, go_sem]) rfl ⟨ret_val (by simp [Mach.arrive, show ¬ handler = -1 by omega, show back = -1 by omega]), bel3⟩
      · go_enter Try.func55, Try.ntmps55
        go_wp2
        exact bodyPost_ret (v := StV.val ⟨n, pc, regs, cells, (clock + ticks) % 65536, handler, back, true, halted⟩) (by simp [results, Try.results55, go_sem]) rfl ⟨ret_val (by simp [Mach.arrive, show ¬ back = -1 by omega]), bel3⟩
    · go_enter Try.func55, Try.ntmps55
      go_wp2
      exact bodyPost_ret (v := StV.val ⟨n, pc, regs, cells, (clock + ticks) % 65536, handler, back, true, halted⟩) (by simp [results, Try.results55, go_sem]) rfl ⟨ret_val (by simp [Mach.arrive, show handler = -1 by omega]), bel3⟩
end Go.Proofs.Ytcmoffiigpchiaa
