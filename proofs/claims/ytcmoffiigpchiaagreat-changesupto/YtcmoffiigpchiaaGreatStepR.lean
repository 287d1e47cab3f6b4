import Derived.Test.YtcmoffiigpchiaaGreatNextF
import Derived.Test.YtcmoffiigpchiaaGreatRefCheckW
namespace Go.Proofs.YtcmoffiigpchiaaGreat
open Go.RowKit

def insOf (p : ByteArray) (s : StV) (c : ChV) : ByteArray := if 3 * (Mach.arrive s c).pc.toNat < p.size then p.extract (3 * (Mach.arrive s c).pc.toNat) (3 * (Mach.arrive s c).pc.toNat + 3) else ⟨#[]⟩

theorem next_ref (p : ByteArray) (g : Mach.Good p) (s : StV) (c : ChV) (hs : Mach.Legal s) (hc : Mach.Chosen c) (hn : s.n < 10000) (hh : s.halted = false) (w : World) :
    Calls Tryz.prog 51 #[.string p, s.val, c.val] w fun e w' => e = .returned (.tuple #[(Mach.next p s c).val, .string (insOf p s c), .bool true]) ∧ Below w.heap.size w w' := by
  unfold insOf
  split
  · rename_i h
    exact next_found p g s c hs hc hn hh h w
  · rename_i h
    exact next_none p g s c hs hc hn hh h w

set_option maxRecDepth 100000 in
set_option maxHeartbeats 1000000 in
theorem next_halt (p : ByteArray) (s : StV) (c : ChV) (h : s.halted = true ∨ 10000 ≤ s.n) (w : World) :
    Calls Tryz.prog 51 #[.string p, s.val, c.val] w fun e w' => e = .returned (.tuple #[s.val, .string ⟨#[]⟩, .bool false]) ∧ Below w.heap.size w w' := by
  obtain ⟨n, pc, regs, cells, clock, handler, back, pending, halted⟩ := s
  obtain ⟨input, ticks, interrupt⟩ := c
  simp only at h
  cases halted with
  | true =>
    clear h
    go_enter Tryz.func51, Tryz.ntmps51
    go_wp2
    exact bodyPost_ret (v := .tuple #[StV.val ⟨n, pc, regs, cells, clock, handler, back, pending, true⟩, .string ⟨#[]⟩, .bool false]) (by simp [results, Tryz.results51, go_sem]) rfl ⟨rfl, bel3⟩
  | false =>
    have hn : 10000 ≤ n := by simpa using h
    clear h
    go_enter Tryz.func51, Tryz.ntmps51
    go_wp2
    exact bodyPost_ret (v := .tuple #[StV.val ⟨n, pc, regs, cells, clock, handler, back, pending, false⟩, .string ⟨#[]⟩, .bool false]) (by simp [results, Tryz.results51, go_sem]) rfl ⟨rfl, bel3⟩

set_option maxRecDepth 100000 in
set_option maxHeartbeats 2000000 in
theorem refstep_err (p : ByteArray) (s : StV) (c : ChV) (hp : p.size ≤ maxLen) (hr : Mach.refusal p s c ≠ 0) (w : World) :
    Calls Tryz.prog 27 #[.string p, s.val, c.val] w fun e w' => e = .returned (.tuple #[Mach.zero.val, .int .i64 (Mach.refusal p s c)]) ∧ Below w.heap.size w w' := by
  have HL := hide (legal_ref s)
  have HC := hide (chosen_ref c)
  have hr2 : Mach.refusal p s c = if (Code.chk p).1 ≠ 0 then (Code.chk p).1 else if Mach.legal s = false then 4 else if Mach.chosen c = false then 3 else if s.halted = true ∨ 10000 ≤ s.n then 5 else 0 := rfl
  by_cases h1 : (Code.chk p).1 = 0
  · have h1' : ((Code.chk p).1 != 0) = false := by simp [h1]
    cases hl : Mach.legal s with
    | false =>
      rw [hl] at HL
      have e : Mach.refusal p s c = 4 := by rw [hr2]; simp [h1, hl]
      rw [e]
      clear e hr hr2 hl h1
      obtain ⟨n, pc, regs, cells, clock, handler, back, pending, halted⟩ := s
      obtain ⟨input, ticks, interrupt⟩ := c
      go_enter Tryz.func27, Tryz.ntmps27
      go_wp2_with (first | (go_at_call 24; refine (check_ref _ _ hp).mono ?_; rintro e w1 ⟨rfl, hb⟩; have HX := hide (boxes3 hb); clear hb; obtain ⟨c0, c1, c2, f0, f1, f2, hs1, hbl⟩ := unhide HX; clear hbl hs1) | (go_at_call 49; refine (unhide HL _).mono ?_; rintro e w2 ⟨rfl, hb2⟩; have HY := hide ((unhide HX).next hb2); clear hb2 c0 c1 c2 f0 f1 f2; obtain ⟨c0, c1, c2, f0, f1, f2, hs1, hbl⟩ := unhide HY; clear hbl hs1))
      refine bodyPost_ret (v := .tuple #[Mach.zero.val, .int .i64 4]) (by simp [results, Tryz.results27, go_sem, c2, Mach.zero]; rfl) rfl ⟨rfl, ?_⟩
      repeat (refine Below.setCell ?_ (by simp <;> omega) _)
      exact (unhide HY).bel
    | true =>
      rw [hl] at HL
      cases hc : Mach.chosen c with
      | false =>
        rw [hc] at HC
        have e : Mach.refusal p s c = 3 := by rw [hr2]; simp [h1, hl, hc]
        rw [e]
        clear e hr hr2 hl hc h1
        obtain ⟨n, pc, regs, cells, clock, handler, back, pending, halted⟩ := s
        obtain ⟨input, ticks, interrupt⟩ := c
        go_enter Tryz.func27, Tryz.ntmps27
        go_wp2_with (first | (go_at_call 24; refine (check_ref _ _ hp).mono ?_; rintro e w1 ⟨rfl, hb⟩; have HX := hide (boxes3 hb); clear hb; obtain ⟨c0, c1, c2, f0, f1, f2, hs1, hbl⟩ := unhide HX; clear hbl hs1) | (go_at_call 49; refine (unhide HL _).mono ?_; rintro e w2 ⟨rfl, hb2⟩; have HY := hide ((unhide HX).next hb2); clear hb2 c0 c1 c2 f0 f1 f2; obtain ⟨c0, c1, c2, f0, f1, f2, hs1, hbl⟩ := unhide HY; clear hbl hs1) | (go_at_call 50; refine (unhide HC _).mono ?_; rintro e w3 ⟨rfl, hb3⟩; have HZ := hide ((unhide HY).next hb3); clear hb3 c0 c1 c2 f0 f1 f2; obtain ⟨c0, c1, c2, f0, f1, f2, hs1, hbl⟩ := unhide HZ; clear hbl hs1))
        refine bodyPost_ret (v := .tuple #[Mach.zero.val, .int .i64 3]) (by simp [results, Tryz.results27, go_sem, c2, Mach.zero]; rfl) rfl ⟨rfl, ?_⟩
        repeat (refine Below.setCell ?_ (by simp <;> omega) _)
        exact (unhide HZ).bel
      | true =>
        rw [hc] at HC
        by_cases hn : s.halted = true ∨ 10000 ≤ s.n
        · have e : Mach.refusal p s c = 5 := by rw [hr2]; simp [h1, hl, hc, hn]
          have HN := hide (next_halt p s c hn)
          rw [e]
          clear e hr hr2 hl hc h1 hn
          obtain ⟨n, pc, regs, cells, clock, handler, back, pending, halted⟩ := s
          obtain ⟨input, ticks, interrupt⟩ := c
          go_enter Tryz.func27, Tryz.ntmps27
          go_wp2_with (first | (go_at_call 24; refine (check_ref _ _ hp).mono ?_; rintro e w1 ⟨rfl, hb⟩; have HX := hide (boxes3 hb); clear hb; obtain ⟨c0, c1, c2, f0, f1, f2, hs1, hbl⟩ := unhide HX; clear hbl hs1) | (go_at_call 49; refine (unhide HL _).mono ?_; rintro e w2 ⟨rfl, hb2⟩; have HY := hide ((unhide HX).next hb2); clear hb2 c0 c1 c2 f0 f1 f2; obtain ⟨c0, c1, c2, f0, f1, f2, hs1, hbl⟩ := unhide HY; clear hbl hs1) | (go_at_call 50; refine (unhide HC _).mono ?_; rintro e w3 ⟨rfl, hb3⟩; have HZ := hide ((unhide HY).next hb3); clear hb3 c0 c1 c2 f0 f1 f2; obtain ⟨c0, c1, c2, f0, f1, f2, hs1, hbl⟩ := unhide HZ; clear hbl hs1) | (go_at_call 51; refine (unhide HN _).mono ?_; rintro e w4 ⟨rfl, hb4⟩; have HU := hide ((unhide HZ).next hb4); clear hb4 c0 c1 c2 f0 f1 f2; obtain ⟨c0, c1, c2, f0, f1, f2, hs1, hbl⟩ := unhide HU; have z0 : w.heap.size < w4.heap.size := (by omega); have z1 : w.heap.size + 1 < w4.heap.size := (by omega); have z2 : w.heap.size + 1 + 1 < w4.heap.size := (by omega); clear hbl hs1))
          refine bodyPost_ret (v := .tuple #[Mach.zero.val, .int .i64 5]) (by simp [results, Tryz.results27, go_sem, c2, Mach.zero, z2]; rfl) rfl ⟨rfl, ?_⟩
          refine Below.alloc ?_ (by have := (unhide HU).size; simp; omega) _
          repeat (refine Below.setCell ?_ (by simp <;> omega) _)
          exact (unhide HU).bel
        · exact absurd (by rw [hr2]; simp [h1, hl, hc, hn]) hr
  · have h1' : ((Code.chk p).1 != 0) = true := by simp [h1]
    have e : Mach.refusal p s c = (Code.chk p).1 := by rw [hr2, if_pos h1]
    rw [e]
    clear e hr hr2 h1
    obtain ⟨n, pc, regs, cells, clock, handler, back, pending, halted⟩ := s
    obtain ⟨input, ticks, interrupt⟩ := c
    go_enter Tryz.func27, Tryz.ntmps27
    go_wp2_with (first | (go_at_call 24; refine (check_ref _ _ hp).mono ?_; rintro e w1 ⟨rfl, hb⟩; have HX := hide (boxes3 hb); clear hb; obtain ⟨c0, c1, c2, f0, f1, f2, hs1, hbl⟩ := unhide HX; clear hbl hs1))
    refine bodyPost_ret (v := .tuple #[Mach.zero.val, .int .i64 (Code.chk p).1]) (by simp [results, Tryz.results27, go_sem, c2, Mach.zero]; rfl) rfl ⟨rfl, ?_⟩
    repeat (refine Below.setCell ?_ (by simp <;> omega) _)
    exact (unhide HX).bel

set_option maxRecDepth 100000 in
set_option maxHeartbeats 2000000 in
theorem refstep_ok (p : ByteArray) (s : StV) (c : ChV) (hp : p.size ≤ maxLen) (hr : Mach.refusal p s c = 0) (w : World) :
    Calls Tryz.prog 27 #[.string p, s.val, c.val] w fun e w' => e = .returned (.tuple #[(Mach.next p s c).val, .int .i64 0]) ∧ Below w.heap.size w w' := by
  have HL := hide (legal_ref s)
  have HC := hide (chosen_ref c)
  obtain ⟨hg, hs, hc, hh⟩ := Mach.refusal_zero hr
  have HN := hide (next_ref p hg s c hs hc hh.2 hh.1)
  have h1' : ((Code.chk p).1 != 0) = false := by
    have := Mach.refusal_chk hr
    simp [this]
  rw [(Mach.legal_iff s).2 hs] at HL
  rw [(Mach.chosen_iff c).2 hc] at HC
  clear hr hg hs hc hh
  generalize Mach.next p s c = s' at *
  generalize insOf p s c = i at *
  obtain ⟨n, pc, regs, cells, clock, handler, back, pending, halted⟩ := s
  obtain ⟨n', pc', regs', cells', clock', handler', back', pending', halted'⟩ := s'
  obtain ⟨input, ticks, interrupt⟩ := c
  go_enter Tryz.func27, Tryz.ntmps27
  go_wp2_with (first | (go_at_call 24; refine (check_ref _ _ hp).mono ?_; rintro e w1 ⟨rfl, hb⟩; have HX := hide (boxes3 hb); clear hb; obtain ⟨c0, c1, c2, f0, f1, f2, hs1, hbl⟩ := unhide HX; clear hbl hs1) | (go_at_call 49; refine (unhide HL _).mono ?_; rintro e w2 ⟨rfl, hb2⟩; have HY := hide ((unhide HX).next hb2); clear hb2 c0 c1 c2 f0 f1 f2; obtain ⟨c0, c1, c2, f0, f1, f2, hs1, hbl⟩ := unhide HY; clear hbl hs1) | (go_at_call 50; refine (unhide HC _).mono ?_; rintro e w3 ⟨rfl, hb3⟩; have HZ := hide ((unhide HY).next hb3); clear hb3 c0 c1 c2 f0 f1 f2; obtain ⟨c0, c1, c2, f0, f1, f2, hs1, hbl⟩ := unhide HZ; clear hbl hs1) | (go_at_call 51; refine (unhide HN _).mono ?_; rintro e w4 ⟨rfl, hb4⟩; have HU := hide ((unhide HZ).next hb4); clear hb4 c0 c1 c2 f0 f1 f2; obtain ⟨c0, c1, c2, f0, f1, f2, hs1, hbl⟩ := unhide HU; have z0 : w.heap.size < w4.heap.size := (by omega); have z1 : w.heap.size + 1 < w4.heap.size := (by omega); have z2 : w.heap.size + 1 + 1 < w4.heap.size := (by omega); clear hbl hs1))
  refine bodyPost_ret (v := .tuple #[StV.val ⟨n', pc', regs', cells', clock', handler', back', pending', halted'⟩, .int .i64 0]) (by simp [results, Tryz.results27, go_sem, c2, z2]) rfl ⟨rfl, ?_⟩
  refine Below.alloc ?_ (by have := (unhide HU).size; simp; omega) _
  repeat (refine Below.setCell ?_ (by simp <;> omega) _)
  exact (unhide HU).bel

theorem step_ref (p : ByteArray) (s : StV) (c : ChV) (hp : p.size ≤ maxLen) (w : World) :
    Calls Tryz.prog 27 #[.string p, s.val, c.val] w fun e w' => e = .returned (.tuple #[(Mach.step p s c).1.val, .int .i64 (Mach.step p s c).2]) ∧ Below w.heap.size w w' := by
  by_cases hr : Mach.refusal p s c = 0
  · have hst : Mach.step p s c = (Mach.next p s c, 0) := by simp [Mach.step, hr]
    rw [hst]
    exact refstep_ok p s c hp hr w
  · have hst : Mach.step p s c = (Mach.zero, Mach.refusal p s c) := by simp [Mach.step, hr]
    rw [hst]
    exact refstep_err p s c hp hr w
end Go.Proofs.YtcmoffiigpchiaaGreat
