import Derived.Test.YtcmoffiigpchiaaGreatOfW
namespace Go.Proofs.YtcmoffiigpchiaaGreat
open Go.RowKit

set_option maxRecDepth 100000 in
set_option maxHeartbeats 4000000 in
theorem ofChoice_far (k : Nat) (hk : k < 9223372036854775807) (n : Int) (n0 : 0 ≤ n) (n1 : n < 4294967296) (c : ChV) (hc : Mach.Chosen c) (w : World) :
    Calls Tryz.prog 68 #[.int .i64 k, .int .i64 n, c.val] w fun e w' => e = .returned (.string (Frame.ofChoice k n.toNat c)) ∧ Below w.heap.size w w' := by
  obtain ⟨input, ticks, interrupt⟩ := c
  obtain ⟨i0, i1, t0, t1⟩ := hc
  simp only at i0 i1 t0 t1
  have hkm : (k : Int) % 65536 = ((k % 65536 : Nat) : Int) := by omega
  have hkt : (k : Int).tmod 65536 = ((k % 65536 : Nat) : Int) := by rw [Int.tmod_eq_emod_of_nonneg (by omega)]; omega
  have hkw := i64_wrap_nat (k % 65536) (by omega)
  have hkl : k % 65536 < 65536 := by omega
  have D1 := hide (low2 ((k % 65536 : Nat) : Int) (by omega) (by omega))
  have D2 := hide (low4 n n0 (by omega))
  have D3 := hide (low1 input i0 (by omega))
  have D4 := hide (low1 ticks t0 (by omega))
  have D5 := hide (bit_ref interrupt)
  have pl1 : Frame.bitN interrupt ≤ 1 := by cases interrupt <;> decide
  have D6 := hide (low1 (Frame.bitN interrupt : Int) (by omega) (by omega))
  rw [Int.toNat_natCast] at D1 D6
  have z1 := Frame.lowB_size (k % 65536) 2
  have z2 := Frame.lowB_size n.toNat 4
  have z3 := Frame.lowB_size input.toNat 1
  have z4 := Frame.lowB_size ticks.toNat 1
  have z5 := Frame.lowB_size (Frame.bitN interrupt) 1
  have z6 := Frame.zeroB_size 26
  have HF : Hid (Frame.ofChoice k n.toNat ⟨input, ticks, interrupt⟩ = Frame.sealed (⟨#[69]⟩ ++ Frame.lowB (k % 65536) 2 ++ Frame.lowB n.toNat 4 ++ Frame.lowB input.toNat 1 ++ Frame.lowB ticks.toNat 1 ++ Frame.lowB (Frame.bitN interrupt) 1 ++ Frame.zeroB 26)) := rfl
  generalize Frame.lowB (k % 65536) 2 = b1 at *
  generalize Frame.lowB n.toNat 4 = b2 at *
  generalize Frame.lowB input.toNat 1 = b3 at *
  generalize Frame.lowB ticks.toNat 1 = b4 at *
  generalize Frame.lowB (Frame.bitN interrupt) 1 = b5 at *
  generalize Frame.bitN interrupt = p1 at *
  generalize k % 65536 = km at *
  go_enter Tryz.func68, Tryz.ntmps68
  go_wp2_with fail
  go_region_held3 (fun w' => w'.cell? ⟨w.heap.size, 0, none⟩ = some (.int .i64 input) ∧ w'.cell? ⟨w.heap.size, 1, none⟩ = some (.int .i64 ticks) ∧ w'.cell? ⟨w.heap.size, 2, none⟩ = some (.bool interrupt)) (go_keep) (first | (go_at_call_of 79 km; refine (unhide D1 _).mono ?_; rintro e w1 ⟨rfl, hb⟩; have X1 := hide (Box.next (Box.new w #[.int .i64 input, .int .i64 ticks, .bool interrupt] 32).drew hb); have L1 := hide hb; clear hb; obtain ⟨c1, f1, g1⟩ := unhide X1; clear f1 g1) | (go_at_call_of 79 n; refine (unhide D2 _).mono ?_; rintro e w2 ⟨rfl, hb⟩; have X2 := hide (Box.next (unhide X1) hb); have L2 := hide hb; clear hb; obtain ⟨c2, f2, g2⟩ := unhide X2; clear f2 g2) | (go_at_call_of 79 input; refine (unhide D3 _).mono ?_; rintro e w3 ⟨rfl, hb⟩; have X3 := hide (Box.next (unhide X2) hb); have L3 := hide hb; clear hb; obtain ⟨c3, f3, g3⟩ := unhide X3; clear f3 g3) | (go_at_call_of 79 ticks; refine (unhide D4 _).mono ?_; rintro e w4 ⟨rfl, hb⟩; have X4 := hide (Box.next (unhide X3) hb); have L4 := hide hb; clear hb; obtain ⟨c4, f4, g4⟩ := unhide X4; clear f4 g4) | (go_at_call_of 80 interrupt; refine (unhide D5 _).mono ?_; rintro e w' ⟨rfl, rfl⟩) | (go_at_call_of 79 p1; refine (unhide D6 _).mono ?_; rintro e w5 ⟨rfl, hb⟩; have X5 := hide (Box.next (unhide X4) hb); have L5 := hide hb; clear hb; obtain ⟨c5, f5, g5⟩ := unhide X5; clear f5 g5) | (go_at_call 81; refine (zeros26_ref _).mono ?_; rintro e w6 ⟨rfl, hb⟩; have X6 := hide (Box.next (unhide X5) hb); have L6 := hide hb; clear hb; obtain ⟨c6, f6, g6⟩ := unhide X6; clear f6 g6))
  go_wp2_with (go_at_call 82; refine (sealed_ref _ (by simp only [ByteArray.size_append, z1, z2, z3, z4, z5, z6]; decide) _).mono ?_; rintro e w9 ⟨rfl, hb9⟩)
  go_ret
  refine ⟨by rw [HF.out]; rfl, ?_⟩
  have r1 := bel_then (bel_then (bel_then (bel_then (bel_then (bel_undrew (unhide L1)) (unhide L2)) (unhide L3)) (unhide L4)) (unhide L5)) (unhide L6)
  exact bel_alloc (bel_then r1 hb9)

theorem ofChoice_any (k : Nat) (hk : k < 65536) (n : Nat) (hn : n < 4294967296) (c : ChV) (hc : Mach.Chosen c) (w : World) :
    Calls Tryz.prog 68 #[.int .i64 k, .int .i64 n, c.val] w fun e w' => e = .returned (.string (Frame.ofChoice k n c)) ∧ Below w.heap.size w w' := by
  have := ofChoice_far k (by omega) n (by omega) (by omega) c hc w
  rw [Int.toNat_natCast] at this
  exact this
end Go.Proofs.YtcmoffiigpchiaaGreat
