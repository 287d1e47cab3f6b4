import Derived.Test.YtcmoffiigpchiaaGreatSealW
import Derived.Test.YtcmoffiigpchiaaGreatOneW
import Derived.Deep.RegionWith
namespace Go.Proofs.YtcmoffiigpchiaaGreat
open Go.RowKit

theorem low2 (v : Int) (h0 : 0 ≤ v) (h1 : v < 9223372036854775807) (w : World) : Calls Tryz.prog 79 #[.int .i64 v, .int .i64 2] w fun e w' => e = .returned (.string (Frame.lowB v.toNat 2)) ∧ Below w.heap.size w w' := by
  obtain ⟨n, rfl⟩ := Int.eq_ofNat_of_zero_le h0
  rw [Int.toNat_natCast]
  exact low_ref n 2 (by omega) (by omega) w
theorem low4 (v : Int) (h0 : 0 ≤ v) (h1 : v < 9223372036854775807) (w : World) : Calls Tryz.prog 79 #[.int .i64 v, .int .i64 4] w fun e w' => e = .returned (.string (Frame.lowB v.toNat 4)) ∧ Below w.heap.size w w' := by
  obtain ⟨n, rfl⟩ := Int.eq_ofNat_of_zero_le h0
  rw [Int.toNat_natCast]
  exact low_ref n 4 (by omega) (by omega) w
theorem low1 (v : Int) (h0 : 0 ≤ v) (h1 : v < 9223372036854775807) (w : World) : Calls Tryz.prog 79 #[.int .i64 v, .int .i64 1] w fun e w' => e = .returned (.string (Frame.lowB v.toNat 1)) ∧ Below w.heap.size w w' := by
  obtain ⟨n, rfl⟩ := Int.eq_ofNat_of_zero_le h0
  rw [Int.toNat_natCast]
  exact low_ref n 1 (by omega) (by omega) w

set_option maxRecDepth 100000 in
set_option maxHeartbeats 4000000 in
theorem ofState_ref (k : Nat) (hk : k < 9223372036854775807) (s : StV) (hs : Mach.Legal s) (w : World) :
    Calls Tryz.prog 56 #[.int .i64 k, s.val] w fun e w' => e = .returned (.string (Frame.ofState k s)) ∧ Below w.heap.size w w' := by
  obtain ⟨n, pc, regs, cells, clock, handler, back, pending, halted⟩ := s
  obtain ⟨n0, n1, pc0, pc1, hregs, hcells, hc0, hc1, hh0, hh1, hb0, hb1⟩ := hs
  simp only at n0 n1 pc0 pc1 hregs hcells hc0 hc1 hh0 hh1 hb0 hb1
  have hkm : (k : Int) % 65536 = ((k % 65536 : Nat) : Int) := by omega
  have hkt : (k : Int).tmod 65536 = ((k % 65536 : Nat) : Int) := by rw [Int.tmod_eq_emod_of_nonneg (by omega)]; omega
  have hkw := i64_wrap_nat (k % 65536) (by omega)
  have hkl : k % 65536 < 65536 := by omega
  have D1 := hide (low2 ((k % 65536 : Nat) : Int) (by omega) (by omega))
  have D2 := hide (low4 n n0 (by omega))
  have D3 := hide (low1 pc pc0 (by omega))
  have D4 := hide (low2 clock hc0 (by omega))
  rw [Int.toNat_natCast] at D1
  have z1 := Frame.lowB_size (k % 65536) 2
  have z2 := Frame.lowB_size n.toNat 4
  have z3 := Frame.lowB_size pc.toNat 1
  have z4 := Frame.lowB_size clock.toNat 2
  obtain ⟨h1, hq1⟩ := Int.eq_ofNat_of_zero_le (show 0 ≤ handler + 1 by omega)
  obtain ⟨k1, hq2⟩ := Int.eq_ofNat_of_zero_le (show 0 ≤ back + 1 by omega)
  have D5 := hide (low1 (h1 : Int) (by omega) (by omega))
  have D6 := hide (low1 (k1 : Int) (by omega) (by omega))
  have D7 := hide (bit_ref pending)
  have D8 := hide (bit_ref halted)
  have pl1 : Frame.bitN pending ≤ 1 := by cases pending <;> decide
  have pl2 : Frame.bitN halted ≤ 1 := by cases halted <;> decide
  have D9 := hide (low1 ((Frame.bitN pending : Int) + 2 * (Frame.bitN halted : Int)) (by omega) (by omega))
  have qh1 := i64_wrap_nat h1 (by omega)
  have qk1 := i64_wrap_nat k1 (by omega)
  have z5 := Frame.lowB_size h1 1
  have z6 := Frame.lowB_size k1 1
  have z7 := Frame.lowB_size (Frame.bitN pending + 2 * Frame.bitN halted) 1
  have z8 := Frame.zeroB_size 3
  rw [Int.toNat_natCast] at D5 D6
  rw [show ((Frame.bitN pending : Int) + 2 * (Frame.bitN halted : Int)).toNat = Frame.bitN pending + 2 * Frame.bitN halted by omega] at D9
  have e1 : (handler + 1).toNat = h1 := by omega
  have e2 : (back + 1).toNat = k1 := by omega
  have HF : Hid (Frame.ofState k ⟨n, pc, regs, cells, clock, handler, back, pending, halted⟩ = Frame.sealed ((((⟨#[67]⟩ ++ Frame.lowB (k % 65536) 2 ++ Frame.lowB n.toNat 4 ++ Frame.lowB pc.toNat 1 ++ regs ++ cells ++ Frame.lowB clock.toNat 2) ++ Frame.lowB (handler + 1).toNat 1) ++ Frame.lowB (back + 1).toNat 1) ++ Frame.lowB (Frame.bitN pending + 2 * Frame.bitN halted) 1 ++ Frame.zeroB 3)) := rfl
  rw [e1, e2] at HF
  clear e1 e2
  generalize Frame.lowB (Frame.bitN pending + 2 * Frame.bitN halted) 1 = b7 at *
  generalize Frame.bitN pending = p1 at *
  generalize Frame.bitN halted = p2 at *
  generalize Frame.lowB h1 1 = b5 at *
  generalize Frame.lowB k1 1 = b6 at *
  have qp2 : IntKind.i64.wrap (2 * (p2 : Int)) = 2 * (p2 : Int) := by
    have := i64_wrap_nat (2 * p2) (by omega)
    rwa [show ((2 * p2 : Nat) : Int) = 2 * (p2 : Int) by omega] at this
  have qp1 : IntKind.i64.wrap ((p1 : Int) + 2 * (p2 : Int)) = (p1 : Int) + 2 * (p2 : Int) := by
    have := i64_wrap_nat (p1 + 2 * p2) (by omega)
    rwa [show ((p1 + 2 * p2 : Nat) : Int) = (p1 : Int) + 2 * (p2 : Int) by omega] at this
  generalize Frame.lowB (k % 65536) 2 = b1 at *
  generalize Frame.lowB n.toNat 4 = b2 at *
  generalize Frame.lowB pc.toNat 1 = b3 at *
  generalize Frame.lowB clock.toNat 2 = b4 at *
  generalize k % 65536 = km at *
  go_enter Tryz.func56, Tryz.ntmps56
  go_wp2_with fail
  go_region_held3 (fun w' => w'.cell? ⟨w.heap.size, 0, none⟩ = some (.int .i64 n) ∧ w'.cell? ⟨w.heap.size, 1, none⟩ = some (.int .i64 pc) ∧ w'.cell? ⟨w.heap.size, 2, none⟩ = some (.string regs) ∧ w'.cell? ⟨w.heap.size, 3, none⟩ = some (.string cells) ∧ w'.cell? ⟨w.heap.size, 4, none⟩ = some (.int .i64 clock)) (go_keep) (first | (go_at_call_of 79 km; refine (unhide D1 _).mono ?_; rintro e w1 ⟨rfl, hb⟩; have X1 := hide (Box.next (Box.new w #[.int .i64 n, .int .i64 pc, .string regs, .string cells, .int .i64 clock, .int .i64 handler, .int .i64 back, .bool pending, .bool halted] 30).drew hb); have L1 := hide hb; clear hb; obtain ⟨c1, f1, g1⟩ := unhide X1; clear f1 g1) | (go_at_call_of 79 n; refine (unhide D2 _).mono ?_; rintro e w2 ⟨rfl, hb⟩; have X2 := hide (Box.next (unhide X1) hb); have L2 := hide hb; clear hb; obtain ⟨c2, f2, g2⟩ := unhide X2; clear f2 g2) | (go_at_call_of 79 pc; refine (unhide D3 _).mono ?_; rintro e w3 ⟨rfl, hb⟩; have X3 := hide (Box.next (unhide X2) hb); have L3 := hide hb; clear hb; obtain ⟨c3, f3, g3⟩ := unhide X3; clear f3 g3) | (go_at_call_of 79 clock; refine (unhide D4 _).mono ?_; rintro e w4 ⟨rfl, hb⟩; have X4 := hide (Box.next (unhide X3) hb); have L4 := hide hb; clear hb; obtain ⟨c4, f4, g4⟩ := unhide X4; clear f4 g4))
  go_wp2_with fail
  go_region_held3 (fun w' => w'.cell? ⟨w.heap.size, 5, none⟩ = some (.int .i64 handler) ∧ w'.cell? ⟨w.heap.size, 6, none⟩ = some (.int .i64 back) ∧ w'.cell? ⟨w.heap.size, 7, none⟩ = some (.bool pending) ∧ w'.cell? ⟨w.heap.size, 8, none⟩ = some (.bool halted)) (go_keep) (first | (go_at_call_of 79 h1; refine (unhide D5 _).mono ?_; rintro e w5 ⟨rfl, hb⟩; have X5 := hide (Box.next (unhide X4).drew hb); have L5 := hide hb; clear hb; obtain ⟨c5, f5, g5⟩ := unhide X5; clear f5 g5) | (go_at_call_of 79 k1; refine (unhide D6 _).mono ?_; rintro e w6 ⟨rfl, hb⟩; have X6 := hide (Box.next (unhide X5) hb); have L6 := hide hb; clear hb; obtain ⟨c6, f6, g6⟩ := unhide X6; clear f6 g6) | (go_at_call_of 80 pending; refine (unhide D7 _).mono ?_; rintro e w' ⟨rfl, rfl⟩) | (go_at_call_of 80 halted; refine (unhide D8 _).mono ?_; rintro e w' ⟨rfl, rfl⟩) | (go_at_call_of 79 p1; refine (unhide D9 _).mono ?_; rintro e w7 ⟨rfl, hb⟩; have X7 := hide (Box.next (unhide X6) hb); have L7 := hide hb; clear hb; obtain ⟨c7, f7, g7⟩ := unhide X7; clear f7 g7) | (go_at_call 81; refine (zeros3_ref _).mono ?_; rintro e w8 ⟨rfl, hb⟩; have X8 := hide (Box.next (unhide X7) hb); have L8 := hide hb; clear hb; obtain ⟨c8, f8, g8⟩ := unhide X8; clear f8 g8))
  go_wp2_with (go_at_call 82; refine (sealed_ref _ (by simp only [ByteArray.size_append, z1, z2, z3, z4, z5, z6, z7, z8, hregs, hcells]; decide) _).mono ?_; rintro e w9 ⟨rfl, hb9⟩)
  go_ret
  refine ⟨by rw [HF.out]; rfl, ?_⟩
  have r1 := bel_then (bel_then (bel_then (bel_undrew (unhide L1)) (unhide L2)) (unhide L3)) (unhide L4)
  have r2 := bel_then (bel_then (bel_then (bel_then (bel_undrew (unhide L5)) (unhide L6)) (unhide L7)) (unhide L8)) hb9
  exact bel_alloc (bel_then r1 r2)

set_option maxRecDepth 100000 in
set_option maxHeartbeats 4000000 in
theorem ofChoice_ref (k : Nat) (hk : k < 9223372036854775807) (n : Int) (n0 : 0 ≤ n) (n1 : n ≤ 10000) (c : ChV) (hc : Mach.Chosen c) (w : World) :
    Calls Tryz.prog 68 #[.int .i64 k, .int .i64 n, c.val] w fun e w' => e = .returned (.string (Frame.ofChoice k n.toNat c)) ∧ Below w.heap.size w w' := by
  obtain ⟨input, ticks, interrupt⟩ := c
  obtain ⟨i0, i1, t0, t1⟩ := hc
  simp only at i0 i1 t0 t1
  have hkm : (k : Int) % 65536 = ((k % 65536 : Nat) : Int) := by omega
  have hkt : (k : Int).tmod 65536 = ((k % 65536 : Nat) : Int) := by rw [Int.tmod_eq_emod_of_nonneg (by omega)]; omega
  have hkw := i64_wrap_nat (k % 65536) (by omega)
  have hkl : k % 65536 < 65536 := by omega
  have D1 := hide (low2 ((k % 65536 : Nat) : Int) (by omega) (by omega))
  have D2 := hide (low4 n n0 (by omega))
  have D3 := hide (low1 input i0 (by omega))
  have D4 := hide (low1 ticks t0 (by omega))
  have D5 := hide (bit_ref interrupt)
  have pl1 : Frame.bitN interrupt ≤ 1 := by cases interrupt <;> decide
  have D6 := hide (low1 (Frame.bitN interrupt : Int) (by omega) (by omega))
  rw [Int.toNat_natCast] at D1 D6
  have z1 := Frame.lowB_size (k % 65536) 2
  have z2 := Frame.lowB_size n.toNat 4
  have z3 := Frame.lowB_size input.toNat 1
  have z4 := Frame.lowB_size ticks.toNat 1
  have z5 := Frame.lowB_size (Frame.bitN interrupt) 1
  have z6 := Frame.zeroB_size 26
  have HF : Hid (Frame.ofChoice k n.toNat ⟨input, ticks, interrupt⟩ = Frame.sealed (⟨#[69]⟩ ++ Frame.lowB (k % 65536) 2 ++ Frame.lowB n.toNat 4 ++ Frame.lowB input.toNat 1 ++ Frame.lowB ticks.toNat 1 ++ Frame.lowB (Frame.bitN interrupt) 1 ++ Frame.zeroB 26)) := rfl
  generalize Frame.lowB (k % 65536) 2 = b1 at *
  generalize Frame.lowB n.toNat 4 = b2 at *
  generalize Frame.lowB input.toNat 1 = b3 at *
  generalize Frame.lowB ticks.toNat 1 = b4 at *
  generalize Frame.lowB (Frame.bitN interrupt) 1 = b5 at *
  generalize Frame.bitN interrupt = p1 at *
  generalize k % 65536 = km at *
  go_enter Tryz.func68, Tryz.ntmps68
  go_wp2_with fail
  go_region_held3 (fun w' => w'.cell? ⟨w.heap.size, 0, none⟩ = some (.int .i64 input) ∧ w'.cell? ⟨w.heap.size, 1, none⟩ = some (.int .i64 ticks) ∧ w'.cell? ⟨w.heap.size, 2, none⟩ = some (.bool interrupt)) (go_keep) (first | (go_at_call_of 79 km; refine (unhide D1 _).mono ?_; rintro e w1 ⟨rfl, hb⟩; have X1 := hide (Box.next (Box.new w #[.int .i64 input, .int .i64 ticks, .bool interrupt] 32).drew hb); have L1 := hide hb; clear hb; obtain ⟨c1, f1, g1⟩ := unhide X1; clear f1 g1) | (go_at_call_of 79 n; refine (unhide D2 _).mono ?_; rintro e w2 ⟨rfl, hb⟩; have X2 := hide (Box.next (unhide X1) hb); have L2 := hide hb; clear hb; obtain ⟨c2, f2, g2⟩ := unhide X2; clear f2 g2) | (go_at_call_of 79 input; refine (unhide D3 _).mono ?_; rintro e w3 ⟨rfl, hb⟩; have X3 := hide (Box.next (unhide X2) hb); have L3 := hide hb; clear hb; obtain ⟨c3, f3, g3⟩ := unhide X3; clear f3 g3) | (go_at_call_of 79 ticks; refine (unhide D4 _).mono ?_; rintro e w4 ⟨rfl, hb⟩; have X4 := hide (Box.next (unhide X3) hb); have L4 := hide hb; clear hb; obtain ⟨c4, f4, g4⟩ := unhide X4; clear f4 g4) | (go_at_call_of 80 interrupt; refine (unhide D5 _).mono ?_; rintro e w' ⟨rfl, rfl⟩) | (go_at_call_of 79 p1; refine (unhide D6 _).mono ?_; rintro e w5 ⟨rfl, hb⟩; have X5 := hide (Box.next (unhide X4) hb); have L5 := hide hb; clear hb; obtain ⟨c5, f5, g5⟩ := unhide X5; clear f5 g5) | (go_at_call 81; refine (zeros26_ref _).mono ?_; rintro e w6 ⟨rfl, hb⟩; have X6 := hide (Box.next (unhide X5) hb); have L6 := hide hb; clear hb; obtain ⟨c6, f6, g6⟩ := unhide X6; clear f6 g6))
  go_wp2_with (go_at_call 82; refine (sealed_ref _ (by simp only [ByteArray.size_append, z1, z2, z3, z4, z5, z6]; decide) _).mono ?_; rintro e w9 ⟨rfl, hb9⟩)
  go_ret
  refine ⟨by rw [HF.out]; rfl, ?_⟩
  have r1 := bel_then (bel_then (bel_then (bel_then (bel_then (bel_undrew (unhide L1)) (unhide L2)) (unhide L3)) (unhide L4)) (unhide L5)) (unhide L6)
  exact bel_alloc (bel_then r1 hb9)

end Go.Proofs.YtcmoffiigpchiaaGreat

namespace Go.Proofs.YtcmoffiigpchiaaGreat
open Go.RowKit

set_option maxRecDepth 100000 in
set_option maxHeartbeats 4000000 in
theorem ofChoice_far (k : Nat) (hk : k < 9223372036854775807) (n : Int) (n0 : 0 ≤ n) (n1 : n < 4294967296) (c : ChV) (hc : Mach.Chosen c) (w : World) :
    Calls Tryz.prog 68 #[.int .i64 k, .int .i64 n, c.val] w fun e w' => e = .returned (.string (Frame.ofChoice k n.toNat c)) ∧ Below w.heap.size w w' := by
  obtain ⟨input, ticks, interrupt⟩ := c
  obtain ⟨i0, i1, t0, t1⟩ := hc
  simp only at i0 i1 t0 t1
  have hkm : (k : Int) % 65536 = ((k % 65536 : Nat) : Int) := by omega
  have hkt : (k : Int).tmod 65536 = ((k % 65536 : Nat) : Int) := by rw [Int.tmod_eq_emod_of_nonneg (by omega)]; omega
  have hkw := i64_wrap_nat (k % 65536) (by omega)
  have hkl : k % 65536 < 65536 := by omega
  have D1 := hide (low2 ((k % 65536 : Nat) : Int) (by omega) (by omega))
  have D2 := hide (low4 n n0 (by omega))
  have D3 := hide (low1 input i0 (by omega))
  have D4 := hide (low1 ticks t0 (by omega))
  have D5 := hide (bit_ref interrupt)
  have pl1 : Frame.bitN interrupt ≤ 1 := by cases interrupt <;> decide
  have D6 := hide (low1 (Frame.bitN interrupt : Int) (by omega) (by omega))
  rw [Int.toNat_natCast] at D1 D6
  have z1 := Frame.lowB_size (k % 65536) 2
  have z2 := Frame.lowB_size n.toNat 4
  have z3 := Frame.lowB_size input.toNat 1
  have z4 := Frame.lowB_size ticks.toNat 1
  have z5 := Frame.lowB_size (Frame.bitN interrupt) 1
  have z6 := Frame.zeroB_size 26
  have HF : Hid (Frame.ofChoice k n.toNat ⟨input, ticks, interrupt⟩ = Frame.sealed (⟨#[69]⟩ ++ Frame.lowB (k % 65536) 2 ++ Frame.lowB n.toNat 4 ++ Frame.lowB input.toNat 1 ++ Frame.lowB ticks.toNat 1 ++ Frame.lowB (Frame.bitN interrupt) 1 ++ Frame.zeroB 26)) := rfl
  generalize Frame.lowB (k % 65536) 2 = b1 at *
  generalize Frame.lowB n.toNat 4 = b2 at *
  generalize Frame.lowB input.toNat 1 = b3 at *
  generalize Frame.lowB ticks.toNat 1 = b4 at *
  generalize Frame.lowB (Frame.bitN interrupt) 1 = b5 at *
  generalize Frame.bitN interrupt = p1 at *
  generalize k % 65536 = km at *
  go_enter Tryz.func68, Tryz.ntmps68
  go_wp2_with fail
  go_region_held3 (fun w' => w'.cell? ⟨w.heap.size, 0, none⟩ = some (.int .i64 input) ∧ w'.cell? ⟨w.heap.size, 1, none⟩ = some (.int .i64 ticks) ∧ w'.cell? ⟨w.heap.size, 2, none⟩ = some (.bool interrupt)) (go_keep) (first | (go_at_call_of 79 km; refine (unhide D1 _).mono ?_; rintro e w1 ⟨rfl, hb⟩; have X1 := hide (Box.next (Box.new w #[.int .i64 input, .int .i64 ticks, .bool interrupt] 32).drew hb); have L1 := hide hb; clear hb; obtain ⟨c1, f1, g1⟩ := unhide X1; clear f1 g1) | (go_at_call_of 79 n; refine (unhide D2 _).mono ?_; rintro e w2 ⟨rfl, hb⟩; have X2 := hide (Box.next (unhide X1) hb); have L2 := hide hb; clear hb; obtain ⟨c2, f2, g2⟩ := unhide X2; clear f2 g2) | (go_at_call_of 79 input; refine (unhide D3 _).mono ?_; rintro e w3 ⟨rfl, hb⟩; have X3 := hide (Box.next (unhide X2) hb); have L3 := hide hb; clear hb; obtain ⟨c3, f3, g3⟩ := unhide X3; clear f3 g3) | (go_at_call_of 79 ticks; refine (unhide D4 _).mono ?_; rintro e w4 ⟨rfl, hb⟩; have X4 := hide (Box.next (unhide X3) hb); have L4 := hide hb; clear hb; obtain ⟨c4, f4, g4⟩ := unhide X4; clear f4 g4) | (go_at_call_of 80 interrupt; refine (unhide D5 _).mono ?_; rintro e w' ⟨rfl, rfl⟩) | (go_at_call_of 79 p1; refine (unhide D6 _).mono ?_; rintro e w5 ⟨rfl, hb⟩; have X5 := hide (Box.next (unhide X4) hb); have L5 := hide hb; clear hb; obtain ⟨c5, f5, g5⟩ := unhide X5; clear f5 g5) | (go_at_call 81; refine (zeros26_ref _).mono ?_; rintro e w6 ⟨rfl, hb⟩; have X6 := hide (Box.next (unhide X5) hb); have L6 := hide hb; clear hb; obtain ⟨c6, f6, g6⟩ := unhide X6; clear f6 g6))
  go_wp2_with (go_at_call 82; refine (sealed_ref _ (by simp only [ByteArray.size_append, z1, z2, z3, z4, z5, z6]; decide) _).mono ?_; rintro e w9 ⟨rfl, hb9⟩)
  go_ret
  refine ⟨by rw [HF.out]; rfl, ?_⟩
  have r1 := bel_then (bel_then (bel_then (bel_then (bel_then (bel_undrew (unhide L1)) (unhide L2)) (unhide L3)) (unhide L4)) (unhide L5)) (unhide L6)
  exact bel_alloc (bel_then r1 hb9)

theorem ofChoice_any (k : Nat) (hk : k < 65536) (n : Nat) (hn : n < 4294967296) (c : ChV) (hc : Mach.Chosen c) (w : World) :
    Calls Tryz.prog 68 #[.int .i64 k, .int .i64 n, c.val] w fun e w' => e = .returned (.string (Frame.ofChoice k n c)) ∧ Below w.heap.size w w' := by
  have := ofChoice_far k (by omega) n (by omega) (by omega) c hc w
  rw [Int.toNat_natCast] at this
  exact this
end Go.Proofs.YtcmoffiigpchiaaGreat
