import Derived.Test.YthphgpigcfafhaaKit
import Derived.Test.YthphgpigcfafhaaMach
import Derived.Deep.MidRow
import Derived.Laws.IdiomStrings
namespace Go.Proofs.Ythphgpigcfafhaa
open Go.RowKit

set_option maxHeartbeats 400000 in
theorem within_code (n lo hi : Int) (w : World) :
    Calls Try.prog 84 #[.int .i64 n, .int .i64 lo, .int .i64 hi] w fun e w' => e = .returned (.bool (Mach.wi n lo hi)) ∧ w' = w := by
  by_cases h1 : lo ≤ n
  · go_enter Try.func84, Try.ntmps84
    go_wp2
    go_ret
    exact ⟨by simp [Mach.wi, h1], rfl⟩
  · go_enter Try.func84, Try.ntmps84
    go_wp2
    go_ret
    exact ⟨ret_bool (by simp [Mach.wi]; omega), rfl⟩

set_option maxHeartbeats 1000000 in
theorem isState_code (s : StV) (w : World) :
    Calls Try.prog 74 #[s.val] w fun e w' => e = .returned (.bool (Mach.legal s)) ∧ Below w.heap.size w w' := by
  obtain ⟨n, pc, regs, cells, clock, handler, back, pending, halted⟩ := s
  go_enter Try.func74, Try.ntmps74
  go_wp2_with (go_at_call 84; refine (within_code _ _ _ _).mono ?_; rintro e w' ⟨rfl, rfl⟩)
  all_goals
    go_ret
    refine ⟨ret_bool ?_, (Below.refl _ _).alloc (Nat.le_refl _) _⟩
    simp only [Mach.wi, decide_eq_true_eq] at *
    rw [Bool.eq_iff_iff]
    simp [Mach.legal, Mach.wi]
    try omega

set_option maxHeartbeats 1000000 in
theorem isChoice_code (c : ChV) (w : World) :
    Calls Try.prog 75 #[c.val] w fun e w' => e = .returned (.bool (Mach.chosen c)) ∧ Below w.heap.size w w' := by
  obtain ⟨input, ticks, interrupt⟩ := c
  go_enter Try.func75, Try.ntmps75
  go_wp2_with (go_at_call 84; refine (within_code _ _ _ _).mono ?_; rintro e w' ⟨rfl, rfl⟩)
  all_goals
    go_ret
    refine ⟨ret_bool ?_, (Below.refl _ _).alloc (Nat.le_refl _) _⟩
    simp only [Mach.wi, decide_eq_true_eq] at *
    rw [Bool.eq_iff_iff]
    simp [Mach.chosen, Mach.wi]
    try omega

set_option maxHeartbeats 1000000 in
theorem legal_ref (s : StV) (w : World) :
    Calls Try.prog 45 #[s.val] w fun e w' => e = .returned (.bool (Mach.legal s)) ∧ Below w.heap.size w w' := by
  obtain ⟨n, pc, regs, cells, clock, handler, back, pending, halted⟩ := s
  go_enter Try.func45, Try.ntmps45
  go_wp2
  all_goals
    go_ret
    refine ⟨ret_bool ?_, (Below.refl _ _).alloc (Nat.le_refl _) _⟩
    rw [Bool.eq_iff_iff]
    simp [Mach.legal, Mach.wi]
    try omega

set_option maxHeartbeats 1000000 in
theorem chosen_ref (c : ChV) (w : World) :
    Calls Try.prog 46 #[c.val] w fun e w' => e = .returned (.bool (Mach.chosen c)) ∧ Below w.heap.size w w' := by
  obtain ⟨input, ticks, interrupt⟩ := c
  go_enter Try.func46, Try.ntmps46
  go_wp2
  all_goals
    go_ret
    refine ⟨ret_bool ?_, (Below.refl _ _).alloc (Nat.le_refl _) _⟩
    rw [Bool.eq_iff_iff]
    simp [Mach.chosen, Mach.wi]
    try omega

set_option maxHeartbeats 400000 in
theorem get_code (b : ByteArray) (i : Int) (h0 : 0 ≤ i) (h1 : i < b.size) (w : World) :
    Calls Try.prog 78 #[.string b, .int .i64 i] w fun e w' => e = .returned (.int .i64 (Code.byt b i.toNat : Nat)) ∧ w' = w := by
  obtain ⟨k, rfl⟩ := Int.eq_ofNat_of_zero_le h0
  rw [Int.toNat_natCast]
  have hk : k < b.size := by omega
  have hb := Code.byt_eq b k hk
  have hl := Code.byt_lt b k
  go_enter Try.func78, Try.ntmps78
  go_wp2
  go_ret
  exact ⟨rfl, rfl⟩

set_option maxHeartbeats 400000 in
theorem value_ref (b : Nat) (hb : b < 256) (h : 48 ≤ b) (w : World) :
    Calls Try.prog 81 #[.int .u8 b] w fun e w' => e = .returned (.int .i64 ((if 97 ≤ b then b - 87 else b - 48 : Nat) : Int)) ∧ w' = w := by
  by_cases h97 : 97 ≤ b
  · rw [if_pos h97]
    go_enter Try.func81, Try.ntmps81
    go_wp2
    go_ret
    exact ⟨ret_int (by omega), rfl⟩
  · rw [if_neg h97]
    go_enter Try.func81, Try.ntmps81
    go_wp2
    go_ret
    exact ⟨ret_int (by omega), rfl⟩
end Go.Proofs.Ythphgpigcfafhaa
