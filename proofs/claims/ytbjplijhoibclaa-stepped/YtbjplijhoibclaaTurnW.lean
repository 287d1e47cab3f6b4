import Derived.Test.YtbjplijhoibclaaResW
namespace Go.Proofs.Ytbjplijhoibclaa
open Go.RowKit

theorem bel3 {w : World} {o p q : Obj} : Below w.heap.size w (((w.alloc o).alloc p).alloc q) := ((((Below.refl _ _).alloc (Nat.le_refl _) o).alloc (by simp) p).alloc (by simp; omega) q)
theorem ret_val {a b : Value} (h : a = b) : Ending.returned a = .returned b := by rw [h]

set_option maxRecDepth 100000 in
set_option maxHeartbeats 1000000 in
theorem turn_code (o r t : Nat) (s : StV) (ho : o = 106 ∨ o = 122 ∨ o = 105 ∨ o = 109 ∨ o = 101 ∨ o = 104) (hf : Mach.Fits o r t) (hregs : s.regs.size = 4) (hb0 : -1 ≤ s.back) (w : World) :
    Calls Try.prog 98 #[insVal o r t, s.val] w fun e w' => e = .returned (Mach.turned o r t s).val ∧ Below w.heap.size w w' := by
  obtain ⟨n, pc, regs, cells, clock, handler, back, pending, halted⟩ := s
  obtain ⟨hsg, r4, t16, t4, t32⟩ := hf
  simp only at hregs hb0
  rcases ho with rfl | rfl | rfl | rfl | rfl | rfl
  · clear r4 t16 t4 t32 hsg
    go_enter Try.func98, Try.ntmps98
    go_wp2
    exact bodyPost_ret (v := StV.val ⟨n, t, regs, cells, clock, handler, back, pending, halted⟩) (by simp [results, Try.results98, go_sem]) rfl ⟨ret_val (by simp [Mach.turned]), bel3⟩
  · have hr := r4 (by decide)
    clear r4 t16 t4 t32 hsg
    by_cases hz : Code.byt regs r = 0
    · have hz1 : ((Code.byt regs r : Int) == 0) = true := by simp [hz]
      have HZ := hide hz
      clear hz
      go_enter Try.func98, Try.ntmps98
      go_wp2_with (go_at_call 97; refine (get_code _ _ (by omega) (by omega) _).mono ?_; rintro e w' ⟨rfl, rfl⟩; simp only [Int.toNat_natCast])
      exact bodyPost_ret (v := StV.val ⟨n, t, regs, cells, clock, handler, back, pending, halted⟩) (by simp [results, Try.results98, go_sem]) rfl ⟨ret_val (by simp [Mach.turned, unhide HZ]), bel3⟩
    · have hz1 : ((Code.byt regs r : Int) == 0) = false := by simp [hz]
      have HZ := hide hz
      clear hz
      go_enter Try.func98, Try.ntmps98
      go_wp2_with (go_at_call 97; refine (get_code _ _ (by omega) (by omega) _).mono ?_; rintro e w' ⟨rfl, rfl⟩; simp only [Int.toNat_natCast])
      exact bodyPost_ret (v := StV.val ⟨n, pc, regs, cells, clock, handler, back, pending, halted⟩) (by simp [results, Try.results98, go_sem]) rfl ⟨ret_val (by simp [Mach.turned, unhide HZ]), bel3⟩
  · clear r4 t16 t4 t32 hsg
    go_enter Try.func98, Try.ntmps98
    go_wp2
    exact bodyPost_ret (v := StV.val ⟨n, pc, regs, cells, clock, t, back, pending, halted⟩) (by simp [results, Try.results98, go_sem]) rfl ⟨ret_val (by simp [Mach.turned]), bel3⟩
  · clear r4 t16 t4 t32 hsg
    go_enter Try.func98, Try.ntmps98
    go_wp2
    exact bodyPost_ret (v := StV.val ⟨n, pc, regs, cells, clock, -1, back, pending, halted⟩) (by simp [results, Try.results98, go_sem]) rfl ⟨ret_val (by simp [Mach.turned]), bel3⟩
  · clear r4 t16 t4 t32 hsg
    by_cases hz : 0 ≤ back
    · go_enter Try.func98, Try.ntmps98
      go_wp2
      exact bodyPost_ret (v := StV.val ⟨n, back, regs, cells, clock, handler, -1, pending, halted⟩) (by simp [results, Try.results98, go_sem]) rfl ⟨ret_val (by simp [Mach.turned, show ¬ back = -1 by omega]), bel3⟩
    · go_enter Try.func98, Try.ntmps98
      go_wp2
      exact bodyPost_ret (v := StV.val ⟨n, pc, regs, cells, clock, handler, back, pending, halted⟩) (by simp [results, Try.results98, go_sem]) rfl ⟨ret_val (by simp [Mach.turned, show back = -1 by omega]), bel3⟩
  · clear r4 t16 t4 t32 hsg
    go_enter Try.func98, Try.ntmps98
    go_wp2
    exact bodyPost_ret (v := StV.val ⟨n, pc, regs, cells, clock, handler, back, pending, true⟩) (by simp [results, Try.results98, go_sem]) rfl ⟨ret_val (by simp [Mach.turned]), bel3⟩

end Go.Proofs.Ytbjplijhoibclaa
