import Derived.Test.YtbjplijhoibclaaKit
import Derived.Test.YtbjplijhoibclaaMach
import Derived.Deep.MidRow
import Derived.Laws.IdiomStrings
namespace Go.Proofs.Ytbjplijhoibclaa
open Go.RowKit

set_option maxHeartbeats 400000 in
theorem within_code (n lo hi : Int) (w : World) :
    Calls Try.prog 107 #[.int .i64 n, .int .i64 lo, .int .i64 hi] w fun e w' => e = .returned (.bool (Mach.wi n lo hi)) ∧ w' = w := by
  by_cases h1 : lo ≤ n
  · go_enter Try.func107, Try.ntmps107
    go_wp2
    go_ret
    exact ⟨by simp [Mach.wi, h1], rfl⟩
  · go_enter Try.func107, Try.ntmps107
    go_wp2
    go_ret
    exact ⟨ret_bool (by simp [Mach.wi]; omega), rfl⟩

set_option maxHeartbeats 1000000 in
theorem isState_code (s : StV) (w : World) :
    Calls Try.prog 93 #[s.val] w fun e w' => e = .returned (.bool (Mach.legal s)) ∧ Below w.heap.size w w' := by
  obtain ⟨n, pc, regs, cells, clock, handler, back, pending, halted⟩ := s
  go_enter Try.func93, Try.ntmps93
  go_wp2_with (go_at_call 107; refine (within_code _ _ _ _).mono ?_; rintro e w' ⟨rfl, rfl⟩)
  all_goals
    go_ret
    refine ⟨ret_bool ?_, (Below.refl _ _).alloc (Nat.le_refl _) _⟩
    simp only [Mach.wi, decide_eq_true_eq] at *
    rw [Bool.eq_iff_iff]
    simp [Mach.legal, Mach.wi]
    try omega

set_option maxHeartbeats 1000000 in
theorem isChoice_code (c : ChV) (w : World) :
    Calls Try.prog 94 #[c.val] w fun e w' => e = .returned (.bool (Mach.chosen c)) ∧ Below w.heap.size w w' := by
  obtain ⟨input, ticks, interrupt⟩ := c
  go_enter Try.func94, Try.ntmps94
  go_wp2_with (go_at_call 107; refine (within_code _ _ _ _).mono ?_; rintro e w' ⟨rfl, rfl⟩)
  all_goals
    go_ret
    refine ⟨ret_bool ?_, (Below.refl _ _).alloc (Nat.le_refl _) _⟩
    simp only [Mach.wi, decide_eq_true_eq] at *
    rw [Bool.eq_iff_iff]
    simp [Mach.chosen, Mach.wi]
    try omega

set_option maxHeartbeats 1000000 in
theorem legal_ref (s : StV) (w : World) :
    Calls Try.prog 73 #[s.val] w fun e w' => e = .returned (.bool (Mach.legal s)) ∧ Below w.heap.size w w' := by
  obtain ⟨n, pc, regs, cells, clock, handler, back, pending, halted⟩ := s
  go_enter Try.func73, Try.ntmps73
  go_wp2
  all_goals
    go_ret
    refine ⟨ret_bool ?_, (Below.refl _ _).alloc (Nat.le_refl _) _⟩
    rw [Bool.eq_iff_iff]
    simp [Mach.legal, Mach.wi]
    try omega

set_option maxHeartbeats 1000000 in
theorem chosen_ref (c : ChV) (w : World) :
    Calls Try.prog 74 #[c.val] w fun e w' => e = .returned (.bool (Mach.chosen c)) ∧ Below w.heap.size w w' := by
  obtain ⟨input, ticks, interrupt⟩ := c
  go_enter Try.func74, Try.ntmps74
  go_wp2
  all_goals
    go_ret
    refine ⟨ret_bool ?_, (Below.refl _ _).alloc (Nat.le_refl _) _⟩
    rw [Bool.eq_iff_iff]
    simp [Mach.chosen, Mach.wi]
    try omega

set_option maxHeartbeats 400000 in
theorem get_code (b : ByteArray) (i : Int) (h0 : 0 ≤ i) (h1 : i < b.size) (w : World) :
    Calls Try.prog 97 #[.string b, .int .i64 i] w fun e w' => e = .returned (.int .i64 (Code.byt b i.toNat : Nat)) ∧ w' = w := by
  obtain ⟨k, rfl⟩ := Int.eq_ofNat_of_zero_le h0
  rw [Int.toNat_natCast]
  have hk : k < b.size := by omega
  have hb := Code.byt_eq b k hk
  have hl := Code.byt_lt b k
  go_enter Try.func97, Try.ntmps97
  go_wp2
  go_ret
  exact ⟨rfl, rfl⟩

set_option maxHeartbeats 400000 in
theorem value_ref (b : Nat) (hb : b < 256) (h : 48 ≤ b) (w : World) :
    Calls Try.prog 109 #[.int .u8 b] w fun e w' => e = .returned (.int .i64 ((if 97 ≤ b then b - 87 else b - 48 : Nat) : Int)) ∧ w' = w := by
  by_cases h97 : 97 ≤ b
  · rw [if_pos h97]
    go_enter Try.func109, Try.ntmps109
    go_wp2
    go_ret
    exact ⟨ret_int (by omega), rfl⟩
  · rw [if_neg h97]
    go_enter Try.func109, Try.ntmps109
    go_wp2
    go_ret
    exact ⟨ret_int (by omega), rfl⟩
end Go.Proofs.Ytbjplijhoibclaa
