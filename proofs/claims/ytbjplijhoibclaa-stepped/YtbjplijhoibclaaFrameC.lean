import Derived.Test.YtbjplijhoibclaaLowC
import Derived.Test.YtbjplijhoibclaaRefuW
namespace Go.Proofs.Ytbjplijhoibclaa
open Go.RowKit

set_option maxRecDepth 100000 in
set_option maxHeartbeats 1000000 in
theorem head_code (kind number n : Int) (h0 : 0 ≤ kind) (h1 : 0 ≤ number) (h2 : 0 ≤ n) (w : World) :
    Calls Try.prog 89 #[.int .i64 kind, .int .i64 number, .int .i64 n] w fun e w' => e = .returned (.string (Frame.lowB kind.toNat 1 ++ Frame.lowB number.toNat 2 ++ Frame.lowB n.toNat 4)) ∧ Below w.heap.size w w' := by
  have D1 := hide (low_1 kind h0)
  have D2 := hide (low_2 number h1)
  have D3 := hide (low_4 n h2)
  have z1 := Frame.lowB_size kind.toNat 1
  have z2 := Frame.lowB_size number.toNat 2
  have z3 := Frame.lowB_size n.toNat 4
  generalize Frame.lowB kind.toNat 1 = b1 at *
  generalize Frame.lowB number.toNat 2 = b2 at *
  generalize Frame.lowB n.toNat 4 = b3 at *
  go_enter Try.func89, Try.ntmps89
  go_wp2_with fail
  refine (unhide D1 _).mono ?_
  rintro e w1 ⟨rfl, hb⟩
  have L1 := hide hb
  clear hb
  go_wp2_with fail
  refine (unhide D2 _).mono ?_
  rintro e w2 ⟨rfl, hb⟩
  have L2 := hide hb
  clear hb
  go_wp2_with fail
  refine (unhide D3 _).mono ?_
  rintro e w3 ⟨rfl, hb⟩
  have L3 := hide hb
  clear hb
  go_wp2_with fail
  go_ret
  exact ⟨rfl, bel_then (bel_then (unhide L1) (unhide L2)) (unhide L3)⟩

set_option maxRecDepth 100000 in
set_option maxHeartbeats 1000000 in
theorem flags_code (s : StV) (w : World) :
    Calls Try.prog 91 #[s.val] w fun e w' => e = .returned (.int .i64 ((Frame.bitN s.pending + 2 * Frame.bitN s.halted : Nat) : Int)) ∧ Below w.heap.size w w' := by
  obtain ⟨n, pc, regs, cells, clock, handler, back, pending, halted⟩ := s
  cases pending <;> cases halted
  all_goals
    go_enter Try.func91, Try.ntmps91
    go_wp2
    go_ret
    exact ⟨rfl, (Below.refl _ _).alloc (Nat.le_refl _) _⟩

set_option maxRecDepth 100000 in
set_option maxHeartbeats 1000000 in
theorem whole_code (body : ByteArray) (hb : body.size ≤ 36) (w : World) :
    Calls Try.prog 92 #[.string body] w fun e w' => e = .returned (.string (Frame.sealed (body ++ Frame.zeroB (36 - body.size)))) ∧ Below w.heap.size w w' := by
  have D1 := hide (low_i 0 (36 - (body.size : Int)) (by omega) (by omega) (by omega))
  have e1 : (36 - (body.size : Int)).toNat = 36 - body.size := by omega
  have hz : (Frame.zeroB (36 - body.size)).size = 36 - body.size := Frame.zeroB_size _
  rw [e1, show (0 : Int).toNat = 0 from rfl, Frame.lowB_nought] at D1
  have HS : Hid (Frame.sealed (body ++ Frame.zeroB (36 - body.size)) = (body ++ Frame.zeroB (36 - body.size)) ++ Frame.lowB (Crc.sum (body ++ Frame.zeroB (36 - body.size)).data.toList) 4) := rfl
  generalize Frame.zeroB (36 - body.size) = z at *
  have D2 := hide (fun w => sum_code (body ++ z) w (by rw [ByteArray.size_append]; unfold maxLen; omega))
  generalize Crc.sum (body ++ z).data.toList = c at *
  have D3 := hide (low_4 (c : Int) (by omega))
  rw [Int.toNat_natCast] at D3
  have z3 := Frame.lowB_size c 4
  generalize Frame.lowB c 4 = b4 at *
  have hz2 : ¬ 9223372036854775807 < body.size + z.size := by omega
  have hz3 : ¬ 9223372036854775807 < body.size + z.size + 4 := by omega
  have hz4 : ¬ 9223372036854775807 < body.size + (36 - body.size) := by omega
  have hz5 : ¬ 9223372036854775807 < body.size + (36 - body.size) + 4 := by omega
  go_enter Try.func92, Try.ntmps92
  go_wp2_with fail
  refine (unhide D1 _).mono ?_
  rintro e w1 ⟨rfl, hb⟩
  have L1 := hide hb
  clear hb
  go_wp2_with fail
  refine (unhide D2 _).mono ?_
  rintro e w2 ⟨rfl, rfl⟩
  go_wp2_with fail
  refine (unhide D3 _).mono ?_
  rintro e w3 ⟨rfl, hb⟩
  have L3 := hide hb
  clear hb
  go_wp2_with fail
  go_ret
  exact ⟨by rw [HS.out]; rfl, bel_then (unhide L1) (unhide L3)⟩
end Go.Proofs.Ytbjplijhoibclaa
