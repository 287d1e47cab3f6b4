import Derived.Test.YtcmoffiigpchiaaStP
namespace Go.Proofs.Ytcmoffiigpchiaa
open Go.RowKit

set_option maxRecDepth 100000 in
set_option maxHeartbeats 1000000 in
theorem arrive_code (s : StV) (c : ChV) (hs : Mach.Legal s) (hc : Mach.Chosen c) (w : World) :
    Calls Try.prog 55 #[s.val, c.val] w fun e w' => e = .returned (Mach.arrive s c).val ∧ Below w.heap.size w w' := by
  obtain ⟨n, pc, regs, cells, clock, handler, back, pending, halted⟩ := s
  obtain ⟨input, ticks, interrupt⟩ := c
  obtain ⟨n0, n1, pc0, pc1, hregs, hcells, hc0, hc1, hh0, hh1, hb0, hb1⟩ := hs
  obtain ⟨i0, i1, t0, t1⟩ := hc
  simp only at n0 n1 pc0 pc1 hregs hcells hc0 hc1 hh0 hh1 hb0 hb1 i0 i1 t0 t1
  cases interrupt <;> cases pending
  · go_enter Try.func55, Try.ntmps55
    go_wp2
    exact bodyPost_ret (v := StV.val ⟨n, pc, regs, cells, (clock + ticks) % 65536, handler, back, false, halted⟩) (by simp [results, Try.results55, go_sem]) rfl ⟨ret_val (by simp [Mach.arrive]), bel3⟩
  all_goals
    by_cases h1 : 0 ≤ handler
    · by_cases h2 : back < 0
      · go_enter Try.func55, Try.ntmps55
        go_wp2
        exact bodyPost_ret (v := StV.val ⟨n, handler, regs, cells, (clock + ticks) % 65536, handler, pc, false, halted⟩) (by simp [results, Try.results55, go_sem]) rfl ⟨ret_val (by simp [Mach.arrive, show ¬ handler = -1 by omega, show back = -1 by omega]), bel3⟩
      · go_enter Try.func55, Try.ntmps55
        go_wp2
        exact bodyPost_ret (v := StV.val ⟨n, pc, regs, cells, (clock + ticks) % 65536, handler, back, true, halted⟩) (by simp [results, Try.results55, go_sem]) rfl ⟨ret_val (by simp [Mach.arrive, show ¬ back = -1 by omega]), bel3⟩
    · go_enter Try.func55, Try.ntmps55
      go_wp2
      exact bodyPost_ret (v := StV.val ⟨n, pc, regs, cells, (clock + ticks) % 65536, handler, back, true, halted⟩) (by simp [results, Try.results55, go_sem]) rfl ⟨ret_val (by simp [Mach.arrive, show handler = -1 by omega]), bel3⟩
end Go.Proofs.Ytcmoffiigpchiaa

namespace Go.Proofs.Ytcmoffiigpchiaa
open Go.RowKit

theorem result_lt {o r t : Nat} {s : StV} {input : Int} (ho : o = 61 ∨ o = 43 ∨ o = 45 ∨ o = 60 ∨ o = 40 ∨ o = 63 ∨ o = 35) (hf : Mach.Fits o r t) (hi1 : input ≤ 255) : resultOf o r t s input < 256 := by
  rcases ho with rfl | rfl | rfl | rfl | rfl | rfl | rfl
  · have := hf.t16 (by decide); simp [resultOf]; omega
  · simp [resultOf]; omega
  · simp [resultOf]; omega
  · simpa [resultOf] using Code.byt_lt _ _
  · simpa [resultOf] using Code.byt_lt _ _
  · simp [resultOf]; omega
  · simp [resultOf]; omega

/-- THREE BOXES that were made one behind the other, as a later world holds them. -/
structure Boxes3 (w w1 : World) (ca cb cc : Array Value) : Prop where
  c0 : ∀ o, w1.cell? ⟨w.heap.size, o, none⟩ = ca[o]?
  c1 : ∀ o, w1.cell? ⟨w.heap.size + 1, o, none⟩ = cb[o]?
  c2 : ∀ o, w1.cell? ⟨w.heap.size + 2, o, none⟩ = cc[o]?
  f0 : ∀ o, w1.frozen? ⟨w.heap.size, o, none⟩ = false
  f1 : ∀ o, w1.frozen? ⟨w.heap.size + 1, o, none⟩ = false
  f2 : ∀ o, w1.frozen? ⟨w.heap.size + 2, o, none⟩ = false
  size : w.heap.size + 2 < w1.heap.size
  bel : Below w.heap.size w w1
theorem boxes3 {w w1 : World} {ca cb cc : Array Value} {ta tb tc : TypeId} (hb : Below (((w.alloc (.cells ca ta)).alloc (.cells cb tb)).alloc (.cells cc tc)).heap.size (((w.alloc (.cells ca ta)).alloc (.cells cb tb)).alloc (.cells cc tc)) w1) : Boxes3 w w1 ca cb cc := by
  have hs := hb.size
  simp at hs
  refine ⟨fun o => ?_, fun o => ?_, fun o => ?_, fun o => ?_, fun o => ?_, fun o => ?_, by omega, bel3.trans (hb.mono (by simp; omega))⟩
  · rw [hb.cell (p := ⟨w.heap.size, o, none⟩) (by simp; omega)]; go_simp
  · rw [hb.cell (p := ⟨w.heap.size + 1, o, none⟩) (by simp)]; go_simp
  · rw [hb.cell (p := ⟨w.heap.size + 2, o, none⟩) (by simp)]; go_simp
  · rw [hb.frozen (p := ⟨w.heap.size, o, none⟩) (by simp; omega)]; go_simp
  · rw [hb.frozen (p := ⟨w.heap.size + 1, o, none⟩) (by simp)]; go_simp
  · rw [hb.frozen (p := ⟨w.heap.size + 2, o, none⟩) (by simp)]; go_simp
theorem Boxes3.next {w w1 w2 : World} {ca cb cc : Array Value} (h : Boxes3 w w1 ca cb cc) (hb : Below w1.heap.size w1 w2) : Boxes3 w w2 ca cb cc := by
  have hs := h.size
  refine ⟨fun o => ?_, fun o => ?_, fun o => ?_, fun o => ?_, fun o => ?_, fun o => ?_, by have := hb.size; omega, h.bel.trans (hb.mono (by omega))⟩
  · rw [hb.cell (p := ⟨w.heap.size, o, none⟩) (by show w.heap.size < _; omega)]; exact h.c0 o
  · rw [hb.cell (p := ⟨w.heap.size + 1, o, none⟩) (by show w.heap.size + 1 < _; omega)]; exact h.c1 o
  · rw [hb.cell (p := ⟨w.heap.size + 2, o, none⟩) (by show w.heap.size + 2 < _; omega)]; exact h.c2 o
  · rw [hb.frozen (p := ⟨w.heap.size, o, none⟩) (by show w.heap.size < _; omega)]; exact h.f0 o
  · rw [hb.frozen (p := ⟨w.heap.size + 1, o, none⟩) (by show w.heap.size + 1 < _; omega)]; exact h.f1 o
  · rw [hb.frozen (p := ⟨w.heap.size + 2, o, none⟩) (by show w.heap.size + 2 < _; omega)]; exact h.f2 o

set_option maxRecDepth 100000 in
set_option maxHeartbeats 1000000 in
theorem do_set (o r t : Nat) (s : StV) (input : Int) (ho : o = 61 ∨ o = 43 ∨ o = 45 ∨ o = 60 ∨ o = 40 ∨ o = 63 ∨ o = 35) (hf : Mach.Fits o r t) (hs : Mach.Legal s) (hi0 : 0 ≤ input) (hi1 : input ≤ 255) (w : World) :
    Calls Try.prog 57 #[insVal o r t, s.val, .int .i64 input] w fun e w' => e = .returned (StV.val ⟨s.n, s.pc + 1, Mach.setB s.regs r (resultOf o r t s input), s.cells, s.clock, s.handler, s.back, s.pending, s.halted⟩) ∧ Below w.heap.size w w' := by
  obtain ⟨n, pc, regs, cells, clock, handler, back, pending, halted⟩ := s
  obtain ⟨n0, n1, pc0, pc1, hregs, hcells, hc0, hc1, hh0, hh1, hb0, hb1⟩ := hs
  simp only at n0 n1 pc0 pc1 hregs hcells hc0 hc1 hh0 hh1 hb0 hb1
  have hr : r < 4 := by rcases ho with rfl | rfl | rfl | rfl | rfl | rfl | rfl <;> exact hf.r4 (by decide)
  have hres := result_code o r t ⟨n, pc + 1, regs, cells, clock, handler, back, pending, halted⟩ input ho hf hregs hcells hc0 hi0
  have hv : resultOf o r t ⟨n, pc, regs, cells, clock, handler, back, pending, halted⟩ input < 256 := result_lt ho hf hi1
  have he : resultOf o r t ⟨n, pc + 1, regs, cells, clock, handler, back, pending, halted⟩ input = resultOf o r t ⟨n, pc, regs, cells, clock, handler, back, pending, halted⟩ input := rfl
  rw [he] at hres
  generalize resultOf o r t ⟨n, pc, regs, cells, clock, handler, back, pending, halted⟩ input = v at *
  have HR := hide hres
  clear hres he hf
  rcases ho with rfl | rfl | rfl | rfl | rfl | rfl | rfl
  all_goals
    go_enter Try.func57, Try.ntmps57
    go_wp2_with (first | (go_at_call 78; refine (unhide HR _).mono ?_; rintro e w1 ⟨rfl, hb⟩; have HX := hide (boxes3 hb); clear hb; obtain ⟨c0, c1, c2, f0, f1, f2, hs1, hbl⟩ := unhide HX; clear hbl hs1) | (go_at_call 79; refine (put_code _ _ _ (by omega) (by omega) (by omega) (by omega) _).mono ?_; rintro e w2 ⟨rfl, hb2⟩; have HY := hide ((unhide HX).next hb2); clear hb2 c0 c1 c2 f0 f1 f2 HX; obtain ⟨c0, c1, c2, f0, f1, f2, hs1, hbl⟩ := unhide HY; clear hbl hs1; simp only [Int.toNat_natCast]))
    refine bodyPost_ret (v := StV.val ⟨n, pc + 1, Mach.setB regs r v, cells, clock, handler, back, pending, halted⟩) (by simp [results, Try.results57, go_sem, c2]) rfl ⟨rfl, ?_⟩
    repeat (refine Below.setCell ?_ (by simp <;> omega) _)
    exact (unhide HY).bel

set_option maxRecDepth 100000 in
set_option maxHeartbeats 1000000 in
theorem do_cell (r t : Nat) (s : StV) (input : Int) (hf : Mach.Fits 62 r t) (hs : Mach.Legal s) (w : World) :
    Calls Try.prog 57 #[insVal 62 r t, s.val, .int .i64 input] w fun e w' => e = .returned (StV.val ⟨s.n, s.pc + 1, s.regs, Mach.setB s.cells t (Code.byt s.regs r), s.clock, s.handler, s.back, s.pending, s.halted⟩) ∧ Below w.heap.size w w' := by
  obtain ⟨n, pc, regs, cells, clock, handler, back, pending, halted⟩ := s
  obtain ⟨n0, n1, pc0, pc1, hregs, hcells, hc0, hc1, hh0, hh1, hb0, hb1⟩ := hs
  simp only at n0 n1 pc0 pc1 hregs hcells hc0 hc1 hh0 hh1 hb0 hb1
  have hr : r < 4 := hf.r4 (by decide)
  have ht : t < 16 := hf.t16 (by decide)
  have hv := Code.byt_lt regs r
  clear hf
  go_enter Try.func57, Try.ntmps57
  go_wp2_with (first | (go_at_call 80; refine (get_code _ _ (by omega) (by omega) _).mono ?_; rintro e w' ⟨rfl, rfl⟩; simp only [Int.toNat_natCast]) | (go_at_call 79; refine (put_code _ _ _ (by omega) (by omega) (by omega) (by omega) _).mono ?_; rintro e w2 ⟨rfl, hb2⟩; have HY := hide (boxes3 hb2); clear hb2; obtain ⟨c0, c1, c2, f0, f1, f2, hs1, hbl⟩ := unhide HY; clear hbl hs1; simp only [Int.toNat_natCast]))
  refine bodyPost_ret (v := StV.val ⟨n, pc + 1, regs, Mach.setB cells t (Code.byt regs r), clock, handler, back, pending, halted⟩) (by simp [results, Try.results57, go_sem, c2]) rfl ⟨rfl, ?_⟩
  repeat (refine Below.setCell ?_ (by simp <;> omega) _)
  exact (unhide HY).bel

set_option maxRecDepth 100000 in
set_option maxHeartbeats 1000000 in
theorem do_cells (r t : Nat) (s : StV) (input : Int) (hf : Mach.Fits 41 r t) (hs : Mach.Legal s) (w : World) :
    Calls Try.prog 57 #[insVal 41 r t, s.val, .int .i64 input] w fun e w' => e = .returned (StV.val ⟨s.n, s.pc + 1, s.regs, Mach.setB s.cells (Code.byt s.regs t % 16) (Code.byt s.regs r), s.clock, s.handler, s.back, s.pending, s.halted⟩) ∧ Below w.heap.size w w' := by
  obtain ⟨n, pc, regs, cells, clock, handler, back, pending, halted⟩ := s
  obtain ⟨n0, n1, pc0, pc1, hregs, hcells, hc0, hc1, hh0, hh1, hb0, hb1⟩ := hs
  simp only at n0 n1 pc0 pc1 hregs hcells hc0 hc1 hh0 hh1 hb0 hb1
  have hr : r < 4 := hf.r4 (by decide)
  have ht : t < 4 := hf.t4 (by decide)
  have hv := Code.byt_lt regs r
  have hv2 := Code.byt_lt regs t
  have e16 : ((Code.byt regs t : Int) % 16).toNat = Code.byt regs t % 16 := by omega
  have E16 := hide e16
  clear hf e16
  go_enter Try.func57, Try.ntmps57
  go_wp2_with (first | (go_at_call 80; refine (get_code _ _ (by omega) (by omega) _).mono ?_; rintro e w' ⟨rfl, rfl⟩; simp only [Int.toNat_natCast]) | (go_at_call 79; refine (put_code _ _ _ (by omega) (by omega) (by omega) (by omega) _).mono ?_; rintro e w2 ⟨rfl, hb2⟩; have HY := hide (boxes3 hb2); clear hb2; obtain ⟨c0, c1, c2, f0, f1, f2, hs1, hbl⟩ := unhide HY; clear hbl hs1; simp only [Int.toNat_natCast, unhide E16]))
  refine bodyPost_ret (v := StV.val ⟨n, pc + 1, regs, Mach.setB cells (Code.byt regs t % 16) (Code.byt regs r), clock, handler, back, pending, halted⟩) (by simp [results, Try.results57, go_sem, c2]) rfl ⟨rfl, ?_⟩
  repeat (refine Below.setCell ?_ (by simp <;> omega) _)
  exact (unhide HY).bel

set_option maxRecDepth 100000 in
set_option maxHeartbeats 1000000 in
theorem do_turn (o r t : Nat) (s : StV) (input : Int) (ho : o = 106 ∨ o = 122 ∨ o = 105 ∨ o = 109 ∨ o = 101 ∨ o = 104) (hf : Mach.Fits o r t) (hs : Mach.Legal s) (w : World) :
    Calls Try.prog 57 #[insVal o r t, s.val, .int .i64 input] w fun e w' => e = .returned (Mach.turned o r t ⟨s.n, s.pc + 1, s.regs, s.cells, s.clock, s.handler, s.back, s.pending, s.halted⟩).val ∧ Below w.heap.size w w' := by
  obtain ⟨n, pc, regs, cells, clock, handler, back, pending, halted⟩ := s
  obtain ⟨n0, n1, pc0, pc1, hregs, hcells, hc0, hc1, hh0, hh1, hb0, hb1⟩ := hs
  simp only at n0 n1 pc0 pc1 hregs hcells hc0 hc1 hh0 hh1 hb0 hb1
  have hres := turn_code o r t ⟨n, pc + 1, regs, cells, clock, handler, back, pending, halted⟩ ho hf hregs hb0
  simp only
  generalize Mach.turned o r t ⟨n, pc + 1, regs, cells, clock, handler, back, pending, halted⟩ = s' at *
  obtain ⟨n', pc', regs', cells', clock', handler', back', pending', halted'⟩ := s'
  have HR := hide hres
  clear hres hf
  rcases ho with rfl | rfl | rfl | rfl | rfl | rfl
  all_goals
    go_enter Try.func57, Try.ntmps57
    go_wp2_with (go_at_call 81; refine (unhide HR _).mono ?_; rintro e w1 ⟨rfl, hb⟩; have HY := hide (boxes3 hb); clear hb; obtain ⟨c0, c1, c2, f0, f1, f2, hs1, hbl⟩ := unhide HY; clear hbl hs1)
    refine bodyPost_ret (v := StV.val ⟨n', pc', regs', cells', clock', handler', back', pending', halted'⟩) (by simp [results, Try.results57, go_sem, c2]) rfl ⟨rfl, ?_⟩
    repeat (refine Below.setCell ?_ (by simp <;> omega) _)
    exact (unhide HY).bel

theorem do_code (o r t : Nat) (s : StV) (input : Int) (hf : Mach.Fits o r t) (hs : Mach.Legal s) (hi0 : 0 ≤ input) (hi1 : input ≤ 255) (w : World) :
    Calls Try.prog 57 #[insVal o r t, s.val, .int .i64 input] w fun e w' => e = .returned (Mach.doIns o r t s input).val ∧ Below w.heap.size w w' := by
  rcases Mach.sign_cases hf.sign with h | h | h | h | h | h | h | h | h | h | h | h | h | h | h
  · refine (do_set o r t s input (by omega) hf hs hi0 hi1 w).mono ?_
    rintro e w' ⟨rfl, hb⟩
    subst h
    exact ⟨ret_val (by simp [Mach.doIns, Mach.moved, Mach.turned, resultOf]), hb⟩
  · refine (do_set o r t s input (by omega) hf hs hi0 hi1 w).mono ?_
    rintro e w' ⟨rfl, hb⟩
    subst h
    exact ⟨ret_val (by simp [Mach.doIns, Mach.moved, Mach.turned, resultOf]), hb⟩
  · refine (do_set o r t s input (by omega) hf hs hi0 hi1 w).mono ?_
    rintro e w' ⟨rfl, hb⟩
    subst h
    exact ⟨ret_val (by simp [Mach.doIns, Mach.moved, Mach.turned, resultOf]), hb⟩
  · refine (do_set o r t s input (by omega) hf hs hi0 hi1 w).mono ?_
    rintro e w' ⟨rfl, hb⟩
    subst h
    exact ⟨ret_val (by simp [Mach.doIns, Mach.moved, Mach.turned, resultOf]), hb⟩
  · subst h
    refine (do_cell r t s input hf hs w).mono ?_
    rintro e w' ⟨rfl, hb⟩
    exact ⟨ret_val (by simp [Mach.doIns, Mach.moved, Mach.turned]), hb⟩
  · refine (do_set o r t s input (by omega) hf hs hi0 hi1 w).mono ?_
    rintro e w' ⟨rfl, hb⟩
    subst h
    exact ⟨ret_val (by simp [Mach.doIns, Mach.moved, Mach.turned, resultOf]), hb⟩
  · subst h
    refine (do_cells r t s input hf hs w).mono ?_
    rintro e w' ⟨rfl, hb⟩
    exact ⟨ret_val (by simp [Mach.doIns, Mach.moved, Mach.turned]), hb⟩
  · refine (do_set o r t s input (by omega) hf hs hi0 hi1 w).mono ?_
    rintro e w' ⟨rfl, hb⟩
    subst h
    exact ⟨ret_val (by simp [Mach.doIns, Mach.moved, Mach.turned, resultOf]), hb⟩
  · refine (do_set o r t s input (by omega) hf hs hi0 hi1 w).mono ?_
    rintro e w' ⟨rfl, hb⟩
    subst h
    exact ⟨ret_val (by simp [Mach.doIns, Mach.moved, Mach.turned, resultOf]), hb⟩
  all_goals
    refine (do_turn o r t s input (by omega) hf hs w).mono ?_
    rintro e w' ⟨rfl, hb⟩
    subst h
    exact ⟨ret_val (by simp [Mach.doIns, Mach.moved]), hb⟩

end Go.Proofs.Ytcmoffiigpchiaa
