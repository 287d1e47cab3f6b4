import Derived.Test.YtbjplijhoibclaaFrameC
namespace Go.Proofs.Ytbjplijhoibclaa
open Go.RowKit

set_option maxRecDepth 100000 in
set_option maxHeartbeats 2000000 in
theorem ofState_code (k : Nat) (s : StV) (hs : Mach.Legal s) (w : World) :
    Calls Try.prog 65 #[.int .i64 ((k % 65536 : Nat) : Int), s.val] w fun e w' => e = .returned (.string (Frame.ofState k s)) ∧ Below w.heap.size w w' := by
  have DF := hide (flags_code s)
  obtain ⟨n, pc, regs, cells, clock, handler, back, pending, halted⟩ := s
  obtain ⟨n0, n1, pc0, pc1, hregs, hcells, hc0, hc1, hh0, hh1, hb0, hb1⟩ := hs
  simp only at n0 n1 pc0 pc1 hregs hcells hc0 hc1 hh0 hh1 hb0 hb1 DF
  have D1 := hide (head_code 67 ((k % 65536 : Nat) : Int) n (by omega) (by omega) n0)
  have D2 := hide (low_1 pc pc0)
  have D3 := hide (low_2 clock hc0)
  have D4 := hide (low_1 (handler + 1) (by omega))
  have D5 := hide (low_1 (back + 1) (by omega))
  have D6 := hide (low_1 ((Frame.bitN pending + 2 * Frame.bitN halted : Nat) : Int) (by omega))
  rw [Int.toNat_natCast] at D1 D6
  rw [show (67 : Int).toNat = 67 from rfl, Frame.lowB_c] at D1
  have z1 : ((⟨#[67]⟩ : ByteArray) ++ Frame.lowB (k % 65536) 2 ++ Frame.lowB n.toNat 4).size = 7 := by simp only [ByteArray.size_append, Frame.lowB_size]; rfl
  have z2 := Frame.lowB_size pc.toNat 1
  have z3 := Frame.lowB_size clock.toNat 2
  have z4 := Frame.lowB_size (handler + 1).toNat 1
  have z5 := Frame.lowB_size (back + 1).toNat 1
  have z6 := Frame.lowB_size (Frame.bitN pending + 2 * Frame.bitN halted) 1
  have HF : Hid (Frame.ofState k ⟨n, pc, regs, cells, clock, handler, back, pending, halted⟩ = Frame.sealed (((((((⟨#[67]⟩ ++ Frame.lowB (k % 65536) 2 ++ Frame.lowB n.toNat 4) ++ Frame.lowB pc.toNat 1) ++ regs ++ cells) ++ Frame.lowB clock.toNat 2) ++ Frame.lowB (handler + 1).toNat 1) ++ Frame.lowB (back + 1).toNat 1) ++ Frame.lowB (Frame.bitN pending + 2 * Frame.bitN halted) 1 ++ Frame.zeroB 3)) := rfl
  generalize (⟨#[67]⟩ : ByteArray) ++ Frame.lowB (k % 65536) 2 ++ Frame.lowB n.toNat 4 = b1 at *
  generalize Frame.lowB pc.toNat 1 = b2 at *
  generalize Frame.lowB clock.toNat 2 = b3 at *
  generalize Frame.lowB (handler + 1).toNat 1 = b4 at *
  generalize Frame.lowB (back + 1).toNat 1 = b5 at *
  generalize Frame.lowB (Frame.bitN pending + 2 * Frame.bitN halted) 1 = b6 at *
  generalize Frame.bitN pending + 2 * Frame.bitN halted = fl at *
  generalize k % 65536 = km at *
  have zz : (((((((b1 ++ b2) ++ regs) ++ cells) ++ b3) ++ b4) ++ b5) ++ b6).size = 33 := by simp only [ByteArray.size_append, z1, z2, z3, z4, z5, z6, hregs, hcells]
  have DW := hide (whole_code (((((((b1 ++ b2) ++ regs) ++ cells) ++ b3) ++ b4) ++ b5) ++ b6) (by omega))
  rw [zz] at DW
  clear zz
  have X0 := hide (Box.new w #[.int .i64 n, .int .i64 pc, .string regs, .string cells, .int .i64 clock, .int .i64 handler, .int .i64 back, .bool pending, .bool halted] 41)
  go_enter Try.func65, Try.ntmps65
  go_wp2_with fail
  refine (unhide D1 _).mono ?_
  rintro e w1 ⟨rfl, hb⟩
  have L1 := hide (bel_alloc hb)
  have X1 := hide ((unhide X0).next hb)
  clear hb
  obtain ⟨c1, f1, g1⟩ := unhide X1
  go_wp2_with fail
  refine (unhide D2 _).mono ?_
  rintro e w2 ⟨rfl, hb⟩
  have L2 := hide (bel_then (unhide L1) hb)
  have X2 := hide ((unhide X1).next hb)
  clear hb c1 f1 g1
  obtain ⟨c2, f2, g2⟩ := unhide X2
  go_wp2_with fail
  refine (unhide D3 _).mono ?_
  rintro e w3 ⟨rfl, hb⟩
  have L3 := hide (bel_then (unhide L2) hb)
  have X3 := hide ((unhide X2).next hb)
  clear hb c2 f2 g2
  obtain ⟨c3, f3, g3⟩ := unhide X3
  go_wp2_with fail
  refine (unhide D4 _).mono ?_
  rintro e w4 ⟨rfl, hb⟩
  have L4 := hide (bel_then (unhide L3) hb)
  have X4 := hide ((unhide X3).next hb)
  clear hb c3 f3 g3
  obtain ⟨c4, f4, g4⟩ := unhide X4
  go_wp2_with fail
  refine (unhide D5 _).mono ?_
  rintro e w5 ⟨rfl, hb⟩
  have L5 := hide (bel_then (unhide L4) hb)
  have X5 := hide ((unhide X4).next hb)
  clear hb c4 f4 g4
  obtain ⟨c5, f5, g5⟩ := unhide X5
  go_wp2_with fail
  refine (unhide DF _).mono ?_
  rintro e w6 ⟨rfl, hb⟩
  have L6 := hide (bel_then (unhide L5) hb)
  clear hb c5 f5 g5
  go_wp2_with fail
  refine (unhide D6 _).mono ?_
  rintro e w7 ⟨rfl, hb⟩
  have L7 := hide (bel_then (unhide L6) hb)
  clear hb
  go_wp2_with fail
  refine (unhide DW _).mono ?_
  rintro e w8 ⟨rfl, hb⟩
  have L8 := hide (bel_then (unhide L7) hb)
  clear hb
  go_wp2_with fail
  go_ret
  exact ⟨by rw [HF.out]; rfl, unhide L8⟩

set_option maxRecDepth 100000 in
set_option maxHeartbeats 2000000 in
theorem ofChoice_code (k : Nat) (n : Int) (n0 : 0 ≤ n) (c : ChV) (hc : Mach.Chosen c) (w : World) :
    Calls Try.prog 71 #[.int .i64 ((k % 65536 : Nat) : Int), .int .i64 n, c.val] w fun e w' => e = .returned (.string (Frame.ofChoice k n.toNat c)) ∧ Below w.heap.size w w' := by
  obtain ⟨input, ticks, interrupt⟩ := c
  obtain ⟨i0, i1, t0, t1⟩ := hc
  simp only at i0 i1 t0 t1
  have D1 := hide (head_code 69 ((k % 65536 : Nat) : Int) n (by omega) (by omega) n0)
  have D2 := hide (low_1 input i0)
  have D3 := hide (low_1 ticks t0)
  have D4 := hide (low_1 1 (by omega))
  rw [Int.toNat_natCast] at D1
  rw [show (69 : Int).toNat = 69 from rfl, Frame.lowB_e] at D1
  rw [show (1 : Int).toNat = 1 from rfl] at D4
  have z1 : ((⟨#[69]⟩ : ByteArray) ++ Frame.lowB (k % 65536) 2 ++ Frame.lowB n.toNat 4).size = 7 := by simp only [ByteArray.size_append, Frame.lowB_size]; rfl
  have z2 := Frame.lowB_size input.toNat 1
  have z3 := Frame.lowB_size ticks.toNat 1
  have z4 := Frame.lowB_size 1 1
  have HF : Hid (∀ b, Frame.ofChoice k n.toNat ⟨input, ticks, b⟩ = Frame.sealed ((((⟨#[69]⟩ ++ Frame.lowB (k % 65536) 2 ++ Frame.lowB n.toNat 4) ++ Frame.lowB input.toNat 1) ++ Frame.lowB ticks.toNat 1) ++ (if b then Frame.lowB 1 1 ++ Frame.zeroB 26 else Frame.zeroB 27))) := hide (by
    intro b
    have assoc : ∀ x y z : ByteArray, x ++ y ++ z = x ++ (y ++ z) := fun _ _ _ => ByteArray.append_assoc
    unfold Frame.ofChoice Frame.bodyE
    cases b
    · rw [assoc _ (Frame.lowB (Frame.bitN false) 1) _]
      have : Frame.lowB (Frame.bitN false) 1 ++ Frame.zeroB 26 = Frame.zeroB 27 := by
        rw [show Frame.bitN false = 0 from rfl, Frame.lowB_nought, Frame.zeroB_add]
      simp only [this]
      rfl
    · rw [assoc _ (Frame.lowB (Frame.bitN true) 1) _]
      rfl)
  generalize (⟨#[69]⟩ : ByteArray) ++ Frame.lowB (k % 65536) 2 ++ Frame.lowB n.toNat 4 = b1 at *
  generalize Frame.lowB input.toNat 1 = b2 at *
  generalize Frame.lowB ticks.toNat 1 = b3 at *
  generalize Frame.lowB 1 1 = b4 at *
  generalize k % 65536 = km at *
  have y1 : ((b1 ++ b2) ++ b3).size = 9 := by simp only [ByteArray.size_append, z1, z2, z3]
  have y2 : (((b1 ++ b2) ++ b3) ++ b4).size = 10 := by simp only [ByteArray.size_append, z1, z2, z3, z4]
  have W1 := hide (whole_code ((b1 ++ b2) ++ b3) (by omega))
  have W2 := hide (whole_code (((b1 ++ b2) ++ b3) ++ b4) (by omega))
  rw [y1] at W1
  rw [y2] at W2
  clear y1 y2
  have X0 := hide (Box.new w #[.int .i64 input, .int .i64 ticks, .bool interrupt] 43)
  go_enter Try.func71, Try.ntmps71
  go_wp2_with fail
  refine (unhide D1 _).mono ?_
  rintro e w1 ⟨rfl, hb⟩
  have L1 := hide (bel_alloc hb)
  have X1 := hide ((unhide X0).next hb)
  clear hb
  obtain ⟨c1, f1, g1⟩ := unhide X1
  go_wp2_with fail
  refine (unhide D2 _).mono ?_
  rintro e w2 ⟨rfl, hb⟩
  have L2 := hide (bel_then (unhide L1) hb)
  have X2 := hide ((unhide X1).next hb)
  clear hb c1 f1 g1
  obtain ⟨c2, f2, g2⟩ := unhide X2
  go_wp2_with fail
  refine (unhide D3 _).mono ?_
  rintro e w3 ⟨rfl, hb⟩
  have L3 := hide (bel_then (unhide L2) hb)
  have X3 := hide ((unhide X2).next hb)
  clear hb c2 f2 g2
  obtain ⟨c3, f3, g3⟩ := unhide X3
  cases interrupt with
  | false =>
    go_wp2_with fail
    refine (unhide W1 _).mono ?_
    rintro e w4 ⟨rfl, hb⟩
    have L4 := hide (bel_then (unhide L3) hb)
    clear hb
    go_wp2_with fail
    go_ret
    exact ⟨by rw [unhide HF]; rfl, unhide L4⟩
  | true =>
    go_wp2_with fail
    refine (unhide D4 _).mono ?_
    rintro e w4 ⟨rfl, hb⟩
    have L4 := hide (bel_then (unhide L3) hb)
    clear hb
    go_wp2_with fail
    refine (unhide W2 _).mono ?_
    rintro e w5 ⟨rfl, hb⟩
    have L5 := hide (bel_then (unhide L4) hb)
    clear hb
    go_wp2_with fail
    go_ret
    exact ⟨by rw [unhide HF, if_pos rfl, ← ByteArray.append_assoc]; rfl, unhide L5⟩
end Go.Proofs.Ytbjplijhoibclaa
