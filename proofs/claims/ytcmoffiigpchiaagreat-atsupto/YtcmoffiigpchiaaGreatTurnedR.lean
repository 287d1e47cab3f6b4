import Derived.Test.YtcmoffiigpchiaaGreatMovedA
import Derived.Deep.QuietTactic
import Derived.BigQuiet
namespace Go.Proofs.YtcmoffiigpchiaaGreat
open Go.RowKit

set_option maxRecDepth 100000 in
set_option maxHeartbeats 2000000 in
/-- Signs that change neither a register nor a cell. -/
theorem moved_same (o : Nat) (i : ByteArray) (b1 b2 : Nat) (s : StV) (c : ChV) (ho : o = 122 ∨ o = 106 ∨ o = 105 ∨ o = 109 ∨ o = 101 ∨ o = 104) (hi : i.size = 3) (h0 : Code.byt i 0 = o) (h1 : Code.byt i 1 = b1) (h2 : Code.byt i 2 = b2) (l1 : b1 ≤ 100) (l2 : b2 ≤ 118) (hs : Mach.Legal s) (w : World) :
    Calls Tryz.prog 76 #[s.val, .string i, c.val] w fun e w' => e = .returned s.val ∧ Below w.heap.size w w' := by
  obtain ⟨n, pc, regs, cells, clock, handler, back, pending, halted⟩ := s
  obtain ⟨input, ticks, interrupt⟩ := c
  obtain ⟨n0, n1, pc0, pc1, hregs, hcells, hc0, hc1, hh0, hh1, hb0, hb1⟩ := hs
  simp only at n0 n1 pc0 pc1 hregs hcells hc0 hc1 hh0 hh1 hb0 hb1
  have e0 := Code.byt_eq i 0 (by omega)
  have e1 := Code.byt_eq i 1 (by omega)
  have e2 := Code.byt_eq i 2 (by omega)
  rw [h0] at e0
  rw [h1] at e1
  rw [h2] at e2
  clear h0 h1 h2
  rcases ho with rfl | rfl | rfl | rfl | rfl | rfl
  all_goals
    go_enter Tryz.func76, Tryz.ntmps76
    go_wp2
    all_goals
      exact bodyPost_ret (v := StV.val ⟨n, pc, regs, cells, clock, handler, back, pending, halted⟩) (by simp [results, Tryz.results76, go_sem]) rfl ⟨rfl, bel3⟩
end Go.Proofs.YtcmoffiigpchiaaGreat

namespace Go.Proofs.YtcmoffiigpchiaaGreat
open Go.RowKit

theorem bel2' {w : World} {o p : Obj} : Below w.heap.size w ((w.alloc o).alloc p) := bel2

set_option maxRecDepth 100000 in
set_option maxHeartbeats 2000000 in
/-- Signs that change registers and cells alone. -/
theorem turned_same (o : Nat) (i : ByteArray) (s : StV) (ho : o = 61 ∨ o = 43 ∨ o = 45 ∨ o = 60 ∨ o = 62 ∨ o = 40 ∨ o = 41 ∨ o = 63 ∨ o = 35) (hi : i.size = 3) (h0 : Code.byt i 0 = o) (w : World) :
    Calls Tryz.prog 77 #[s.val, .string i] w fun e w' => e = .returned s.val ∧ Below w.heap.size w w' := by
  obtain ⟨n, pc, regs, cells, clock, handler, back, pending, halted⟩ := s
  have e0 := Code.byt_eq i 0 (by omega)
  rw [h0] at e0
  clear h0
  rcases ho with rfl | rfl | rfl | rfl | rfl | rfl | rfl | rfl | rfl
  all_goals
    go_enter Tryz.func77, Tryz.ntmps77
    go_wp2
    exact bodyPost_ret (v := StV.val ⟨n, pc, regs, cells, clock, handler, back, pending, halted⟩) (by simp [results, Tryz.results77, go_sem]) rfl ⟨rfl, bel2'⟩

set_option maxRecDepth 100000 in
set_option maxHeartbeats 2000000 in
theorem turned_ref (o : Nat) (i : ByteArray) (b1 b2 tv : Nat) (s : StV) (ho : o = 106 ∨ o = 122 ∨ o = 105 ∨ o = 109 ∨ o = 101 ∨ o = 104) (hi : i.size = 3) (h0 : Code.byt i 0 = o) (h1 : Code.byt i 1 = b1) (h2 : Code.byt i 2 = b2)
    (l1 : o = 122 → 97 ≤ b1 ∧ b1 ≤ 100) (hval : o = 106 ∨ o = 122 ∨ o = 105 → ∀ w : World, Calls Tryz.prog 107 #[.int .u8 b2] w fun e w' => e = .returned (.int .i64 (tv : Nat)) ∧ w' = w) (hs : Mach.Legal s) (w : World) :
    Calls Tryz.prog 77 #[s.val, .string i] w fun e w' => e = .returned (Mach.turned o (b1 - 97) tv s).val ∧ Below w.heap.size w w' := by
  obtain ⟨n, pc, regs, cells, clock, handler, back, pending, halted⟩ := s
  obtain ⟨n0, n1, pc0, pc1, hregs, hcells, hc0, hc1, hh0, hh1, hb0, hb1⟩ := hs
  simp only at n0 n1 pc0 pc1 hregs hcells hc0 hc1 hh0 hh1 hb0 hb1
  have e0 := Code.byt_eq i 0 (by omega)
  have e1 := Code.byt_eq i 1 (by omega)
  have e2 := Code.byt_eq i 2 (by omega)
  rw [h0] at e0
  rw [h1] at e1
  rw [h2] at e2
  clear h0 h1 h2
  rcases ho with rfl | rfl | rfl | rfl | rfl | rfl
  · have HVAL := hide (hval (by omega))
    clear hval l1
    go_enter Tryz.func77, Tryz.ntmps77
    go_wp2_with (go_at_call 107; refine (unhide HVAL _).mono ?_; rintro e w' ⟨rfl, rfl⟩)
    exact bodyPost_ret (v := StV.val ⟨n, tv, regs, cells, clock, handler, back, pending, halted⟩) (by simp [results, Tryz.results77, go_sem]) rfl ⟨ret_val (by simp [Mach.turned]), bel2'⟩
  · have HVAL := hide (hval (by omega))
    obtain ⟨l1, l2⟩ := l1 rfl
    clear hval
    have br := Code.byt_eq regs (b1 - 97) (by omega)
    have bl := Code.byt_lt regs (b1 - 97)
    have qw := i64_wrap_nat b1 (by omega)
    have qs : IntKind.i64.wrap ((b1 : Int) - 97) = ((b1 - 97 : Nat) : Int) := by
      rw [show (b1 : Int) - 97 = ((b1 - 97 : Nat) : Int) by omega]; exact i64_wrap_nat _ (by omega)
    by_cases hz : Code.byt regs (b1 - 97) = 0
    · have hz1 : ((Code.byt regs (b1 - 97) : Int) == 0) = true := by simp [hz]
      have HZ := hide hz
      clear hz
      go_enter Tryz.func77, Tryz.ntmps77
      go_wp2_with fail
      go_quiet (fail)
      go_wp2_with (go_at_call 107; refine (unhide HVAL _).mono ?_; rintro e w' ⟨rfl, rfl⟩)
      refine bodyPost_ret (v := StV.val ⟨n, tv, regs, cells, clock, handler, back, pending, halted⟩) (by simp [results, Tryz.results77, go_sem]) rfl ⟨ret_val (by simp [Mach.turned, unhide HZ]), ?_⟩
      repeat (refine Below.setCell ?_ (by simp <;> omega) _)
      exact below_drewN bel2' _
    · have hz1 : ((Code.byt regs (b1 - 97) : Int) == 0) = false := by simp [hz]
      have HZ := hide hz
      clear hz
      go_enter Tryz.func77, Tryz.ntmps77
      go_wp2_with fail
      go_quiet (fail)
      go_wp2
      refine bodyPost_ret (v := StV.val ⟨n, pc, regs, cells, clock, handler, back, pending, halted⟩) (by simp [results, Tryz.results77, go_sem]) rfl ⟨ret_val (by simp [Mach.turned, unhide HZ]), ?_⟩
      repeat (refine Below.setCell ?_ (by simp <;> omega) _)
      exact below_drewN bel2' _
  · have HVAL := hide (hval (by omega))
    clear hval l1
    go_enter Tryz.func77, Tryz.ntmps77
    go_wp2_with (go_at_call 107; refine (unhide HVAL _).mono ?_; rintro e w' ⟨rfl, rfl⟩)
    exact bodyPost_ret (v := StV.val ⟨n, pc, regs, cells, clock, tv, back, pending, halted⟩) (by simp [results, Tryz.results77, go_sem]) rfl ⟨ret_val (by simp [Mach.turned]), bel2'⟩
  · clear hval l1
    go_enter Tryz.func77, Tryz.ntmps77
    go_wp2
    exact bodyPost_ret (v := StV.val ⟨n, pc, regs, cells, clock, -1, back, pending, halted⟩) (by simp [results, Tryz.results77, go_sem]) rfl ⟨ret_val (by simp [Mach.turned]), bel2'⟩
  · clear hval l1
    by_cases hz : back = -1
    · have hz1 : (back != -1) = false := by simp [hz]
      have HZ := hide hz
      clear hz
      go_enter Tryz.func77, Tryz.ntmps77
      go_wp2
      exact bodyPost_ret (v := StV.val ⟨n, pc, regs, cells, clock, handler, back, pending, halted⟩) (by simp [results, Tryz.results77, go_sem]) rfl ⟨ret_val (by simp [Mach.turned, unhide HZ]), bel2'⟩
    · have hz1 : (back != -1) = true := by simp [hz]
      have HZ := hide hz
      clear hz
      go_enter Tryz.func77, Tryz.ntmps77
      go_wp2
      exact bodyPost_ret (v := StV.val ⟨n, back, regs, cells, clock, handler, -1, pending, halted⟩) (by simp [results, Tryz.results77, go_sem]) rfl ⟨ret_val (by simp [Mach.turned, unhide HZ]), bel2'⟩
  · clear hval l1
    go_enter Tryz.func77, Tryz.ntmps77
    go_wp2
    exact bodyPost_ret (v := StV.val ⟨n, pc, regs, cells, clock, handler, back, pending, true⟩) (by simp [results, Tryz.results77, go_sem]) rfl ⟨ret_val (by simp [Mach.turned]), bel2'⟩
end Go.Proofs.YtcmoffiigpchiaaGreat
