import Derived.Test.YtcmoffiigpchiabGreatMovedA
namespace Go.Proofs.YtcmoffiigpchiabGreat
open Go.RowKit

set_option maxRecDepth 100000 in
set_option maxHeartbeats 1000000 in
theorem moved43 (i : ByteArray) (b1 b2 : Nat) (s : StV) (c : ChV) (hi : i.size = 3) (h0 : Code.byt i 0 = 43) (h1 : Code.byt i 1 = b1) (h2 : Code.byt i 2 = b2) (l1 : 97 ≤ b1) (l2 : b1 ≤ 100) (l3 : 97 ≤ b2) (l4 : b2 ≤ 100) (hs : Mach.Legal s) (hc : Mach.Chosen c) (w : World) :
    Calls Tryz.prog 70 #[s.val, .string i, c.val] w fun e w' => e = .returned (StV.val { s with regs := Mach.setB s.regs (b1 - 97) ((Code.byt s.regs (b1 - 97) + Code.byt s.regs (b2 - 97)) % 256) }) ∧ Below w.heap.size w w' := by
  obtain ⟨n, pc, regs, cells, clock, handler, back, pending, halted⟩ := s
  obtain ⟨input, ticks, interrupt⟩ := c
  obtain ⟨n0, n1, pc0, pc1, hregs, hcells, hc0, hc1, hh0, hh1, hb0, hb1⟩ := hs
  obtain ⟨i0, i1, t0, t1⟩ := hc
  simp only at n0 n1 pc0 pc1 hregs hcells hc0 hc1 hh0 hh1 hb0 hb1 i0 i1 t0 t1 ⊢
  have e0 := Code.byt_eq i 0 (by omega)
  have e1 := Code.byt_eq i 1 (by omega)
  have e2 := Code.byt_eq i 2 (by omega)
  rw [h0] at e0
  rw [h1] at e1
  rw [h2] at e2
  clear h0 h1 h2
  have q1 : ((b1 : Int) - 97).toNat = b1 - 97 := by omega
  have q2 : (((Code.byt regs (b1 - 97) : Int) + (Code.byt regs (b2 - 97) : Int)) % 256).toNat = (Code.byt regs (b1 - 97) + Code.byt regs (b2 - 97)) % 256 := by omega
  have br := Code.byt_eq regs (b1 - 97) (by omega)
  have bl := Code.byt_lt regs (b1 - 97)
  have bq := Code.byt_eq regs (b2 - 97) (by omega)
  have bql := Code.byt_lt regs (b2 - 97)
  go_enter Tryz.func70, Tryz.ntmps70
  go_wp2_with ((go_at_call 100; refine (set_ref _ _ _ (by omega) (by omega) (by omega) (by omega) (by omega) _).mono ?_; rintro e w1 ⟨rfl, hb⟩; have HX := hide (boxes3 hb); clear hb; obtain ⟨c0, c1, c2, f0, f1, f2, hs1, hbl⟩ := unhide HX; clear hbl hs1))
  refine bodyPost_ret (v := StV.val ⟨n, pc, Mach.setB regs (b1 - 97) ((Code.byt regs (b1 - 97) + Code.byt regs (b2 - 97)) % 256), cells, clock, handler, back, pending, halted⟩) ?_ rfl ⟨rfl, ?_⟩
  · simp [results, Tryz.results70, go_sem, c2]
  · repeat (refine Below.setCell ?_ (by simp <;> omega) _)
    exact (unhide HX).bel

set_option maxRecDepth 100000 in
set_option maxHeartbeats 1000000 in
theorem moved45 (i : ByteArray) (b1 b2 : Nat) (s : StV) (c : ChV) (hi : i.size = 3) (h0 : Code.byt i 0 = 45) (h1 : Code.byt i 1 = b1) (h2 : Code.byt i 2 = b2) (l1 : 97 ≤ b1) (l2 : b1 ≤ 100) (l3 : 97 ≤ b2) (l4 : b2 ≤ 100) (hs : Mach.Legal s) (hc : Mach.Chosen c) (w : World) :
    Calls Tryz.prog 70 #[s.val, .string i, c.val] w fun e w' => e = .returned (StV.val { s with regs := Mach.setB s.regs (b1 - 97) ((Code.byt s.regs (b1 - 97) + 256 - Code.byt s.regs (b2 - 97)) % 256) }) ∧ Below w.heap.size w w' := by
  obtain ⟨n, pc, regs, cells, clock, handler, back, pending, halted⟩ := s
  obtain ⟨input, ticks, interrupt⟩ := c
  obtain ⟨n0, n1, pc0, pc1, hregs, hcells, hc0, hc1, hh0, hh1, hb0, hb1⟩ := hs
  obtain ⟨i0, i1, t0, t1⟩ := hc
  simp only at n0 n1 pc0 pc1 hregs hcells hc0 hc1 hh0 hh1 hb0 hb1 i0 i1 t0 t1 ⊢
  have e0 := Code.byt_eq i 0 (by omega)
  have e1 := Code.byt_eq i 1 (by omega)
  have e2 := Code.byt_eq i 2 (by omega)
  rw [h0] at e0
  rw [h1] at e1
  rw [h2] at e2
  clear h0 h1 h2
  have q1 : ((b1 : Int) - 97).toNat = b1 - 97 := by omega
  have br := Code.byt_eq regs (b1 - 97) (by omega)
  have bl := Code.byt_lt regs (b1 - 97)
  have bq := Code.byt_eq regs (b2 - 97) (by omega)
  have bql := Code.byt_lt regs (b2 - 97)
  have q2 : (((Code.byt regs (b1 - 97) : Int) - (Code.byt regs (b2 - 97) : Int)) % 256).toNat = (Code.byt regs (b1 - 97) + 256 - Code.byt regs (b2 - 97)) % 256 := by omega
  go_enter Tryz.func70, Tryz.ntmps70
  go_wp2_with ((go_at_call 100; refine (set_ref _ _ _ (by omega) (by omega) (by omega) (by omega) (by omega) _).mono ?_; rintro e w1 ⟨rfl, hb⟩; have HX := hide (boxes3 hb); clear hb; obtain ⟨c0, c1, c2, f0, f1, f2, hs1, hbl⟩ := unhide HX; clear hbl hs1))
  refine bodyPost_ret (v := StV.val ⟨n, pc, Mach.setB regs (b1 - 97) ((Code.byt regs (b1 - 97) + 256 - Code.byt regs (b2 - 97)) % 256), cells, clock, handler, back, pending, halted⟩) ?_ rfl ⟨rfl, ?_⟩
  · simp [results, Tryz.results70, go_sem, c2]
  · repeat (refine Below.setCell ?_ (by simp <;> omega) _)
    exact (unhide HX).bel

set_option maxRecDepth 100000 in
set_option maxHeartbeats 1000000 in
theorem moved41 (i : ByteArray) (b1 b2 : Nat) (s : StV) (c : ChV) (hi : i.size = 3) (h0 : Code.byt i 0 = 41) (h1 : Code.byt i 1 = b1) (h2 : Code.byt i 2 = b2) (l1 : 97 ≤ b1) (l2 : b1 ≤ 100) (l3 : 97 ≤ b2) (l4 : b2 ≤ 100) (hs : Mach.Legal s) (hc : Mach.Chosen c) (w : World) :
    Calls Tryz.prog 70 #[s.val, .string i, c.val] w fun e w' => e = .returned (StV.val { s with cells := Mach.setB s.cells (Code.byt s.regs (b2 - 97) % 16) (Code.byt s.regs (b1 - 97)) }) ∧ Below w.heap.size w w' := by
  obtain ⟨n, pc, regs, cells, clock, handler, back, pending, halted⟩ := s
  obtain ⟨input, ticks, interrupt⟩ := c
  obtain ⟨n0, n1, pc0, pc1, hregs, hcells, hc0, hc1, hh0, hh1, hb0, hb1⟩ := hs
  obtain ⟨i0, i1, t0, t1⟩ := hc
  simp only at n0 n1 pc0 pc1 hregs hcells hc0 hc1 hh0 hh1 hb0 hb1 i0 i1 t0 t1 ⊢
  have e0 := Code.byt_eq i 0 (by omega)
  have e1 := Code.byt_eq i 1 (by omega)
  have e2 := Code.byt_eq i 2 (by omega)
  rw [h0] at e0
  rw [h1] at e1
  rw [h2] at e2
  clear h0 h1 h2
  have q1 : ((b1 : Int) - 97).toNat = b1 - 97 := by omega
  have br := Code.byt_eq regs (b1 - 97) (by omega)
  have bl := Code.byt_lt regs (b1 - 97)
  have bq := Code.byt_eq regs (b2 - 97) (by omega)
  have bql := Code.byt_lt regs (b2 - 97)
  have q3 : ((Code.byt regs (b2 - 97) : Int) % 16).toNat = Code.byt regs (b2 - 97) % 16 := by omega
  go_enter Tryz.func70, Tryz.ntmps70
  go_wp2_with ((go_at_call 100; refine (set_small _ _ _ (by omega) (by omega) (by omega) (by omega) (by omega) _).mono ?_; rintro e w1 ⟨rfl, hb⟩; simp only [Int.toNat_natCast]; have HX := hide (boxes3 hb); clear hb; obtain ⟨c0, c1, c2, f0, f1, f2, hs1, hbl⟩ := unhide HX; clear hbl hs1))
  refine bodyPost_ret (v := StV.val ⟨n, pc, regs, Mach.setB cells (Code.byt regs (b2 - 97) % 16) (Code.byt regs (b1 - 97)), clock, handler, back, pending, halted⟩) ?_ rfl ⟨rfl, ?_⟩
  · simp [results, Tryz.results70, go_sem, c2]
  · repeat (refine Below.setCell ?_ (by simp <;> omega) _)
    exact (unhide HX).bel

set_option maxRecDepth 100000 in
set_option maxHeartbeats 1000000 in
theorem moved63 (i : ByteArray) (b1 b2 : Nat) (s : StV) (c : ChV) (hi : i.size = 3) (h0 : Code.byt i 0 = 63) (h1 : Code.byt i 1 = b1) (h2 : Code.byt i 2 = b2) (l1 : 97 ≤ b1) (l2 : b1 ≤ 100) (l3 : b2 = 46) (hs : Mach.Legal s) (hc : Mach.Chosen c) (w : World) :
    Calls Tryz.prog 70 #[s.val, .string i, c.val] w fun e w' => e = .returned (StV.val { s with regs := Mach.setB s.regs (b1 - 97) c.input.toNat }) ∧ Below w.heap.size w w' := by
  obtain ⟨n, pc, regs, cells, clock, handler, back, pending, halted⟩ := s
  obtain ⟨input, ticks, interrupt⟩ := c
  obtain ⟨n0, n1, pc0, pc1, hregs, hcells, hc0, hc1, hh0, hh1, hb0, hb1⟩ := hs
  obtain ⟨i0, i1, t0, t1⟩ := hc
  simp only at n0 n1 pc0 pc1 hregs hcells hc0 hc1 hh0 hh1 hb0 hb1 i0 i1 t0 t1 ⊢
  have e0 := Code.byt_eq i 0 (by omega)
  have e1 := Code.byt_eq i 1 (by omega)
  have e2 := Code.byt_eq i 2 (by omega)
  rw [h0] at e0
  rw [h1] at e1
  rw [h2] at e2
  clear h0 h1 h2
  have q1 : ((b1 : Int) - 97).toNat = b1 - 97 := by omega
  have br := Code.byt_eq regs (b1 - 97) (by omega)
  have bl := Code.byt_lt regs (b1 - 97)
  subst l3
  go_enter Tryz.func70, Tryz.ntmps70
  go_wp2_with ((go_at_call 100; refine (set_small _ _ _ (by omega) (by omega) (by omega) (by omega) (by omega) _).mono ?_; rintro e w1 ⟨rfl, hb⟩; have HX := hide (boxes3 hb); clear hb; obtain ⟨c0, c1, c2, f0, f1, f2, hs1, hbl⟩ := unhide HX; clear hbl hs1))
  refine bodyPost_ret (v := StV.val ⟨n, pc, Mach.setB regs (b1 - 97) input.toNat, cells, clock, handler, back, pending, halted⟩) ?_ rfl ⟨rfl, ?_⟩
  · simp [results, Tryz.results70, go_sem, c2]
  · repeat (refine Below.setCell ?_ (by simp <;> omega) _)
    exact (unhide HX).bel

set_option maxRecDepth 100000 in
set_option maxHeartbeats 1000000 in
theorem moved35 (i : ByteArray) (b1 b2 : Nat) (s : StV) (c : ChV) (hi : i.size = 3) (h0 : Code.byt i 0 = 35) (h1 : Code.byt i 1 = b1) (h2 : Code.byt i 2 = b2) (l1 : 97 ≤ b1) (l2 : b1 ≤ 100) (l3 : b2 = 46) (hs : Mach.Legal s) (hc : Mach.Chosen c) (w : World) :
    Calls Tryz.prog 70 #[s.val, .string i, c.val] w fun e w' => e = .returned (StV.val { s with regs := Mach.setB s.regs (b1 - 97) (s.clock % 256).toNat }) ∧ Below w.heap.size w w' := by
  obtain ⟨n, pc, regs, cells, clock, handler, back, pending, halted⟩ := s
  obtain ⟨input, ticks, interrupt⟩ := c
  obtain ⟨n0, n1, pc0, pc1, hregs, hcells, hc0, hc1, hh0, hh1, hb0, hb1⟩ := hs
  obtain ⟨i0, i1, t0, t1⟩ := hc
  simp only at n0 n1 pc0 pc1 hregs hcells hc0 hc1 hh0 hh1 hb0 hb1 i0 i1 t0 t1 ⊢
  have e0 := Code.byt_eq i 0 (by omega)
  have e1 := Code.byt_eq i 1 (by omega)
  have e2 := Code.byt_eq i 2 (by omega)
  rw [h0] at e0
  rw [h1] at e1
  rw [h2] at e2
  clear h0 h1 h2
  have q1 : ((b1 : Int) - 97).toNat = b1 - 97 := by omega
  have br := Code.byt_eq regs (b1 - 97) (by omega)
  have bl := Code.byt_lt regs (b1 - 97)
  subst l3
  go_enter Tryz.func70, Tryz.ntmps70
  go_wp2_with ((go_at_call 100; refine (set_ref _ _ _ (by omega) (by omega) (by omega) (by omega) (by omega) _).mono ?_; rintro e w1 ⟨rfl, hb⟩; have HX := hide (boxes3 hb); clear hb; obtain ⟨c0, c1, c2, f0, f1, f2, hs1, hbl⟩ := unhide HX; clear hbl hs1))
  refine bodyPost_ret (v := StV.val ⟨n, pc, Mach.setB regs (b1 - 97) (clock % 256).toNat, cells, clock, handler, back, pending, halted⟩) ?_ rfl ⟨rfl, ?_⟩
  · simp [results, Tryz.results70, go_sem, c2]
  · repeat (refine Below.setCell ?_ (by simp <;> omega) _)
    exact (unhide HX).bel
end Go.Proofs.YtcmoffiigpchiabGreat
