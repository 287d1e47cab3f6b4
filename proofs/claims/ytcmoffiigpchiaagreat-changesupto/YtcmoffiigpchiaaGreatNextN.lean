import Derived.Test.YtcmoffiigpchiaaGreatMovedA
import Derived.Test.YtcmoffiigpchiaaGreatStepW
namespace Go.Proofs.YtcmoffiigpchiaaGreat
open Go.RowKit

set_option maxRecDepth 100000 in
set_option maxHeartbeats 2000000 in
theorem next_none (p : ByteArray) (_g : Mach.Good p) (s : StV) (c : ChV) (hs : Mach.Legal s) (hc : Mach.Chosen c) (hn : s.n < 10000) (hh : s.halted = false) (h : ¬ 3 * (Mach.arrive s c).pc.toNat < p.size) (w : World) :
    Calls Tryz.prog 51 #[.string p, s.val, c.val] w fun e w' => e = .returned (.tuple #[(Mach.next p s c).val, .string ⟨#[]⟩, .bool true]) ∧ Below w.heap.size w w' := by
  have hl := Mach.arrive_legal hs hc
  have hnx : Mach.next p s c = ⟨(Mach.arrive s c).n + 1, (Mach.arrive s c).pc, (Mach.arrive s c).regs, (Mach.arrive s c).cells, (Mach.arrive s c).clock, (Mach.arrive s c).handler, (Mach.arrive s c).back, (Mach.arrive s c).pending, true⟩ := by
    unfold Mach.next Mach.exec
    simp only [h, if_false]
  rw [hnx]
  have HA : Hid (Mach.arrive s c = Mach.arrive s c) := rfl
  clear hnx
  obtain ⟨n, pc, regs, cells, clock, handler, back, pending, halted⟩ := s
  obtain ⟨input, ticks, interrupt⟩ := c
  obtain ⟨n0, n1, pc0, pc1, hregs, hcells, hc0, hc1, hh0, hh1, hb0, hb1⟩ := hs
  obtain ⟨i0, i1, t0, t1⟩ := hc
  simp only at n0 n1 pc0 pc1 hregs hcells hc0 hc1 hh0 hh1 hb0 hb1 i0 i1 t0 t1 hn hh
  subst hh
  generalize hs' : Mach.arrive ⟨n, pc, regs, cells, clock, handler, back, pending, false⟩ ⟨input, ticks, interrupt⟩ = s' at *
  have HS' := hide hs'
  clear hs' HA
  go_enter Tryz.func51, Tryz.ntmps51
  go_upto_if 26 with fail
  go_cut [] (fun wx => wx = W0 w ⟨n, pc, regs, cells, (clock + ticks) % 65536, handler, back, pending || interrupt, false⟩ ⟨input, ticks, interrupt⟩)
  case first =>
    cases interrupt
    · go_wp2
      go_meet
      case rel => simp
    · go_wp2
      go_meet
      case rel => simp
  case rest =>
    subst hcut
    go_upto_region 6 with fail
    go_cut [39] (fun x wx => x = .bool (decide ((pending || interrupt) = true ∧ handler ≠ -1 ∧ back = -1)) ∧ wx = W0 w ⟨n, pc, regs, cells, (clock + ticks) % 65536, handler, back, pending || interrupt, false⟩ ⟨input, ticks, interrupt⟩)
    case first =>
      generalize (pending || interrupt) = pd at *
      by_cases a1 : handler = -1
      · have d1 : (handler != -1) = false := by simp [a1]
        have A1 := hide a1
        clear a1
        cases pd
        · go_wp2
          go_meet
          case rel => exact ⟨congrArg Value.bool (by simp), rfl⟩
        · go_wp2
          go_meet
          case rel => exact ⟨congrArg Value.bool (by simp [unhide A1]), rfl⟩
      · have d1 : (handler != -1) = true := by simp [a1]
        have A1 := hide a1
        clear a1
        by_cases a2 : back = -1
        · have d2 : (back == -1) = true := by simp [a2]
          have A2 := hide a2
          clear a2
          cases pd
          · go_wp2
            go_meet
            case rel => exact ⟨congrArg Value.bool (by simp), rfl⟩
          · go_wp2
            go_meet
            case rel => exact ⟨congrArg Value.bool (by simp [unhide A1, unhide A2]), rfl⟩
        · have d2 : (back == -1) = false := by simp [a2]
          have A2 := hide a2
          clear a2
          cases pd
          · go_wp2
            go_meet
            case rel => exact ⟨congrArg Value.bool (by simp), rfl⟩
          · go_wp2
            go_meet
            case rel => exact ⟨congrArg Value.bool (by simp [unhide A1, unhide A2]), rfl⟩
    case rest =>
      obtain ⟨rfl, rfl⟩ := hcut
      go_upto_if 39 with fail
      go_cut [] (fun wx => wx = W0 w s' ⟨input, ticks, interrupt⟩)
      case first =>
        by_cases hq : (pending || interrupt) = true ∧ handler ≠ -1 ∧ back = -1
        · have dq : decide ((pending || interrupt) = true ∧ handler ≠ -1 ∧ back = -1) = true := decide_eq_true hq
          have es : s' = ⟨n, handler, regs, cells, (clock + ticks) % 65536, handler, pc, false, false⟩ := by
            rw [← unhide HS']; unfold Mach.arrive; simp only; rw [if_pos hq]
          subst es
          clear hq
          generalize decide ((pending || interrupt) = true ∧ handler ≠ -1 ∧ back = -1) = dd at *
          subst dq
          go_wp2
          go_meet
          case rel => rfl
        · have dq : decide ((pending || interrupt) = true ∧ handler ≠ -1 ∧ back = -1) = false := decide_eq_false hq
          have es : s' = ⟨n, pc, regs, cells, (clock + ticks) % 65536, handler, back, pending || interrupt, false⟩ := by
            rw [← unhide HS']; unfold Mach.arrive; simp only; rw [if_neg hq]
          subst es
          clear hq
          generalize decide ((pending || interrupt) = true ∧ handler ≠ -1 ∧ back = -1) = dd at *
          subst dq
          go_wp2
          go_meet
          case rel => rfl
      case rest =>
        subst hcut
        have hn' : s'.n < 10000 := by rw [← unhide HS', Mach.arrive_n]; exact hn
        clear HS'
        obtain ⟨n', pc', regs', cells', clock', handler', back', pending', halted'⟩ := s'
        obtain ⟨m0, m1, p0, p1, -, -, -, -, -, -, -, -⟩ := hl
        simp only at h hn' m0 m1 p0 p1 ⊢
        have hd : (p.size : Int) ≤ 3 * pc' := by omega
        go_wp2
        exact bodyPost_ret (v := .tuple #[StV.val ⟨n' + 1, pc', regs', cells', clock', handler', back', pending', true⟩, .string ⟨#[]⟩, .bool true]) (by simp [results, Tryz.results51, go_sem]) rfl ⟨rfl, bel3⟩
end Go.Proofs.YtcmoffiigpchiaaGreat
