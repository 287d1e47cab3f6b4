import Derived.Test.YtcmoffiigpchiaaGreatMovedA
namespace Go.Proofs.YtcmoffiigpchiaaGreat
open Go.RowKit

set_option maxRecDepth 100000 in
set_option maxHeartbeats 1000000 in
theorem moved62 (i : ByteArray) (b1 b2 : Nat) (s : StV) (c : ChV) (hi : i.size = 3) (h0 : Code.byt i 0 = 62) (h1 : Code.byt i 1 = b1) (h2 : Code.byt i 2 = b2) (l1 : 97 ≤ b1) (l2 : b1 ≤ 100) (lb : b2 ≤ 118) (tv : Nat) (htv : tv < 16) (hval : ∀ w : World, Calls Tryz.prog 107 #[.int .u8 b2] w fun e w' => e = .returned (.int .i64 (tv : Nat)) ∧ w' = w) (hs : Mach.Legal s) (hc : Mach.Chosen c) (w : World) :
    Calls Tryz.prog 76 #[s.val, .string i, c.val] w fun e w' => e = .returned (StV.val { s with cells := Mach.setB s.cells tv (Code.byt s.regs (b1 - 97)) }) ∧ Below w.heap.size w w' := by
  have HVAL := hide hval
  clear hval
  obtain ⟨n, pc, regs, cells, clock, handler, back, pending, halted⟩ := s
  obtain ⟨input, ticks, interrupt⟩ := c
  obtain ⟨n0, n1, pc0, pc1, hregs, hcells, hc0, hc1, hh0, hh1, hb0, hb1⟩ := hs
  obtain ⟨i0, i1, t0, t1⟩ := hc
  simp only at n0 n1 pc0 pc1 hregs hcells hc0 hc1 hh0 hh1 hb0 hb1 i0 i1 t0 t1 ⊢
  have e0 := Code.byt_eq i 0 (by omega)
  have e1 := Code.byt_eq i 1 (by omega)
  have e2 := Code.byt_eq i 2 (by omega)
  rw [h0] at e0
  rw [h1] at e1
  rw [h2] at e2
  clear h0 h1 h2
  have q1 : ((b1 : Int) - 97).toNat = b1 - 97 := by omega
  have br := Code.byt_eq regs (b1 - 97) (by omega)
  have bl := Code.byt_lt regs (b1 - 97)
  have bq : ∀ h : b2 - 97 < regs.size, regs[b2 - 97].toNat = Code.byt regs (b2 - 97) := fun h => Code.byt_eq regs (b2 - 97) h
  have bql := Code.byt_lt regs (b2 - 97)
  go_enter Tryz.func76, Tryz.ntmps76
  go_upto_region 7 with fail
  go_cut [35] (fun x wx => x = .bool (decide (97 ≤ b2 ∧ b2 ≤ 100)) ∧ wx = W0 w ⟨n, pc, regs, cells, clock, handler, back, pending, halted⟩ ⟨input, ticks, interrupt⟩)
  case first =>
    go_wp2
    all_goals
      go_meet
      case rel => exact ⟨congrArg Value.bool (by rw [Bool.eq_iff_iff]; simp; omega), rfl⟩
  case rest =>
    obtain ⟨rfl, rfl⟩ := hcut
    go_upto_if 35 with fail
    go_cut [10] (fun x wx => x = .int .i64 ((if 97 ≤ b2 ∧ b2 ≤ 100 then Code.byt regs (b2 - 97) else 0 : Nat) : Int) ∧ wx = W0 w ⟨n, pc, regs, cells, clock, handler, back, pending, halted⟩ ⟨input, ticks, interrupt⟩)
    case first =>
      go_wp2
      all_goals
        go_meet
        case rel => first | exact ⟨by rw [if_pos ‹_›], rfl⟩ | exact ⟨by rw [if_neg ‹_›]; rfl, rfl⟩
    case rest =>
      obtain ⟨rfl, rfl⟩ := hcut
      clear bq
      have hot : (if 97 ≤ b2 ∧ b2 ≤ 100 then Code.byt regs (b2 - 97) else 0 : Nat) < 256 := by split <;> omega
      generalize (if 97 ≤ b2 ∧ b2 ≤ 100 then Code.byt regs (b2 - 97) else 0 : Nat) = ot at *
      go_wp2_with fail
      go_region_with (first | (go_at_call 107; refine (unhide HVAL _).mono ?_; rintro e w' ⟨rfl, rfl⟩) | (go_at_call 106; refine (set_small _ _ _ (by omega) (by omega) (by omega) (by omega) (by omega) _).mono ?_; rintro e w1 ⟨rfl, hb⟩; simp only [Int.toNat_natCast]; have HX := hide (boxes3d hb); clear hb; obtain ⟨c0, c1, c2, f0, f1, f2, hs1, hbl⟩ := unhide HX; clear hbl hs1))
      all_goals
        go_wp2
        refine bodyPost_ret (v := StV.val ⟨n, pc, regs, Mach.setB cells tv (Code.byt regs (b1 - 97)), clock, handler, back, pending, halted⟩) ?_ rfl ⟨rfl, ?_⟩
        · simp [results, Tryz.results76, go_sem, c2]
        · repeat (refine Below.setCell ?_ (by simp <;> omega) _)
          exact (unhide HX).bel
end Go.Proofs.YtcmoffiigpchiaaGreat

namespace Go.Proofs.YtcmoffiigpchiaaGreat
open Go.RowKit

set_option maxRecDepth 100000 in
set_option maxHeartbeats 1000000 in
theorem moved40 (i : ByteArray) (b1 b2 : Nat) (s : StV) (c : ChV) (hi : i.size = 3) (h0 : Code.byt i 0 = 40) (h1 : Code.byt i 1 = b1) (h2 : Code.byt i 2 = b2) (l1 : 97 ≤ b1) (l2 : b1 ≤ 100) (l3 : 97 ≤ b2) (l4 : b2 ≤ 100) (hs : Mach.Legal s) (hc : Mach.Chosen c) (w : World) :
    Calls Tryz.prog 76 #[s.val, .string i, c.val] w fun e w' => e = .returned (StV.val { s with regs := Mach.setB s.regs (b1 - 97) (Code.byt s.cells (Code.byt s.regs (b2 - 97) % 16)) }) ∧ Below w.heap.size w w' := by
  obtain ⟨n, pc, regs, cells, clock, handler, back, pending, halted⟩ := s
  obtain ⟨input, ticks, interrupt⟩ := c
  obtain ⟨n0, n1, pc0, pc1, hregs, hcells, hc0, hc1, hh0, hh1, hb0, hb1⟩ := hs
  obtain ⟨i0, i1, t0, t1⟩ := hc
  simp only at n0 n1 pc0 pc1 hregs hcells hc0 hc1 hh0 hh1 hb0 hb1 i0 i1 t0 t1 ⊢
  have e0 := Code.byt_eq i 0 (by omega)
  have e1 := Code.byt_eq i 1 (by omega)
  have e2 := Code.byt_eq i 2 (by omega)
  rw [h0] at e0
  rw [h1] at e1
  rw [h2] at e2
  clear h0 h1 h2
  have q1 : ((b1 : Int) - 97).toNat = b1 - 97 := by omega
  have br := Code.byt_eq regs (b1 - 97) (by omega)
  have bl := Code.byt_lt regs (b1 - 97)
  have bq := Code.byt_eq regs (b2 - 97) (by omega)
  have bql := Code.byt_lt regs (b2 - 97)
  have qt : (Code.byt regs (b2 - 97) : Int).tmod 16 = ((Code.byt regs (b2 - 97) % 16 : Nat) : Int) := by rw [Int.tmod_eq_emod_of_nonneg (by omega)]; omega
  have qm : (Code.byt regs (b2 - 97) : Int) % 16 = ((Code.byt regs (b2 - 97) % 16 : Nat) : Int) := by omega
  have hk : Code.byt regs (b2 - 97) % 16 < 16 := by omega
  generalize Code.byt regs (b2 - 97) % 16 = k at *
  have bc := Code.byt_eq cells k (by omega)
  have bcl := Code.byt_lt cells k
  have qw := i64_wrap_nat (Code.byt cells k) (by omega)
  have qk := i64_wrap_nat k (by omega)
  go_enter Tryz.func76, Tryz.ntmps76
  go_wp2_with fail
  go_region_with ((go_at_call 106; refine (set_small _ _ _ (by omega) (by omega) (by omega) (by omega) (by omega) _).mono ?_; rintro e w1 ⟨rfl, hb⟩; simp only [Int.toNat_natCast]; have HX := hide (boxes3d hb); clear hb; obtain ⟨c0, c1, c2, f0, f1, f2, hs1, hbl⟩ := unhide HX; clear hbl hs1))
  all_goals
    go_wp2
    refine bodyPost_ret (v := StV.val ⟨n, pc, Mach.setB regs (b1 - 97) (Code.byt cells k), cells, clock, handler, back, pending, halted⟩) ?_ rfl ⟨rfl, ?_⟩
    · simp [results, Tryz.results76, go_sem, c2]
    · repeat (refine Below.setCell ?_ (by simp <;> omega) _)
      exact (unhide HX).bel
end Go.Proofs.YtcmoffiigpchiaaGreat
