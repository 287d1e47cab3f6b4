import Derived.Test.YtcmoffiigpchiaaGreatMovedA
namespace Go.Proofs.YtcmoffiigpchiaaGreat
open Go.RowKit

set_option maxRecDepth 100000 in
set_option maxHeartbeats 2000000 in
/-- Signs that change neither a register nor a cell. -/
theorem moved_same (o : Nat) (i : ByteArray) (b1 b2 : Nat) (s : StV) (c : ChV) (ho : o = 122 ∨ o = 106 ∨ o = 105 ∨ o = 109 ∨ o = 101 ∨ o = 104) (hi : i.size = 3) (h0 : Code.byt i 0 = o) (h1 : Code.byt i 1 = b1) (h2 : Code.byt i 2 = b2) (l1 : b1 ≤ 100) (l2 : b2 ≤ 118) (hs : Mach.Legal s) (w : World) :
    Calls Tryz.prog 76 #[s.val, .string i, c.val] w fun e w' => e = .returned s.val ∧ Below w.heap.size w w' := by
  obtain ⟨n, pc, regs, cells, clock, handler, back, pending, halted⟩ := s
  obtain ⟨input, ticks, interrupt⟩ := c
  obtain ⟨n0, n1, pc0, pc1, hregs, hcells, hc0, hc1, hh0, hh1, hb0, hb1⟩ := hs
  simp only at n0 n1 pc0 pc1 hregs hcells hc0 hc1 hh0 hh1 hb0 hb1
  have e0 := Code.byt_eq i 0 (by omega)
  have e1 := Code.byt_eq i 1 (by omega)
  have e2 := Code.byt_eq i 2 (by omega)
  rw [h0] at e0
  rw [h1] at e1
  rw [h2] at e2
  clear h0 h1 h2
  rcases ho with rfl | rfl | rfl | rfl | rfl | rfl
  all_goals
    go_enter Tryz.func76, Tryz.ntmps76
    go_wp2
    all_goals
      exact bodyPost_ret (v := StV.val ⟨n, pc, regs, cells, clock, handler, back, pending, halted⟩) (by simp [results, Tryz.results76, go_sem]) rfl ⟨rfl, bel3⟩
end Go.Proofs.YtcmoffiigpchiaaGreat
