import Derived.Test.YtcmoffiigpchiaaMaC
namespace Go.Proofs.Ytcmoffiigpchiaa
open Go.RowKit

theorem Box.off4' {w : World} {b x : Nat} {ca : Array Value} (h : Box w b ca) (hx : b ≠ x) (v0 v1 v2 v3 : Value) :
    Box ((((w.setCell ⟨x, 11, none⟩ v0).setCell ⟨x, 12, none⟩ v1).setCell ⟨x, 13, none⟩ v2).setCell ⟨x, 14, none⟩ v3) b ca :=
  (((h.off hx v0).off hx v1).off hx v2).off hx v3

set_option maxRecDepth 100000 in
set_option maxHeartbeats 2000000 in
theorem stepC_plain (b : Nat) (m : RM) (hi : RM.Inv m) (hl : m.all.length < 4611686018427387902) (c : ChV) (hc : Mach.Chosen c) (hh : m.s.halted = false) (hn : m.s.n < 10000) (hct : RM.counts m.p m.s c = false) (w : World) (h : Box w b m.ccells) :
    Calls Try.prog 28 #[.pointer (some ⟨b, 0, none⟩), c.val] w fun e w' => e = .returned (.int .i64 0) ∧ Box w' b (RM.stepped m c).ccells ∧ Keeps w w' [b] := by
  have hsh := hi.ok.good.short
  have HX := hide (step_code m.p m.s c (by unfold maxLen; omega))
  have hst : Mach.step m.p m.s c = (Mach.next m.p m.s c, 0) := by
    unfold Mach.step
    rw [RM.stepErr_eq hi.ok c, if_pos]
    unfold RM.stepErr
    rw [(Mach.chosen_iff c).2 hc]
    simp [hh]
    omega
  rw [hst] at HX
  simp only at HX
  have HN := hide (counts_code m.p hi.ok.good m.s hi.ok.legal c hc)
  rw [hct] at HN
  obtain ⟨wi, ws, wp, wpe, -⟩ := RM.went_inv hi hc hn hl
  have HV := hide (fun W => save_code b (RM.went m c) wi.ok (fun _ => wi.head) W)
  have HG : Hid ((RM.stepped m c).ccells = if m.period ≤ (Mach.next m.p m.s c).n - (RM.went m c).last then (RM.save (RM.went m c)).ccells else cmc m.p m.period (Mach.next m.p m.s c) (RM.traceOf (RM.went m c)) (RM.went m c).last (RM.went m c).room ((RM.went m c).all.length % 65536)) := hide (by
    unfold RM.stepped
    rw [ws]
    split
    · rfl
    · unfold RM.ccells
      rw [ws, wp, wpe])
  have wl0 := wi.ok.last0
  have wl1 := wi.ok.last1
  have wn1 := wi.ok.legal.n1
  have p0 := hi.ok.period0
  have p1 := hi.ok.period1
  rw [ws] at wl1 wn1
  generalize (RM.save (RM.went m c)).ccells = GV at *
  unfold RM.ccells at HV
  rw [ws, wp, wpe] at HV
  have hq : RM.went m c = { m with s := Mach.next m.p m.s c } := by
    unfold RM.went
    simp [hct]
  have q1 : RM.traceOf (RM.went m c) = RM.traceOf m := by rw [hq]; rfl
  have q2 : (RM.went m c).last = m.last := by rw [hq]
  have q3 : (RM.went m c).room = m.room := by rw [hq]
  have q4 : (RM.went m c).all.length = m.all.length := by rw [hq]
  rw [q1, q2, q3, q4] at HV HG
  rw [q2] at wl0 wl1
  clear hq q1 q2 q3 q4
  unfold RM.ccells at h
  generalize (RM.stepped m c).ccells = GS at *
  clear wi ws wp wpe hst hct
  generalize Mach.next m.p m.s c = s' at *
  generalize RM.traceOf m = t1 at *
  generalize m.room = r1 at *
  generalize m.last = l1 at *
  generalize m.all.length % 65536 = n1 at *
  generalize m.s = s at *
  generalize m.p = p at *
  generalize m.period = pe at *
  clear hi hl hc hh hn
  obtain ⟨n, pc, regs, cells, clock, handler, back, pending, halted⟩ := s
  obtain ⟨input, ticks, interrupt⟩ := c
  obtain ⟨n', pc', regs', cells', clock', handler', back', pending', halted'⟩ := s'
  simp only at wl0 wl1 wn1
  have B0 := hide h
  obtain ⟨c0, f0, g0⟩ := h
  have nb : ¬ b = w.heap.size := by omega
  have nb2 : ¬ w.heap.size = b := by omega
  have nb3 : ¬ b = w.heap.size + 1 := by omega
  have nb4 : ¬ w.heap.size + 1 = b := by omega
  have HB0 := hide g0
  clear g0
  go_enter Try.func28, Try.ntmps28
  go_upto_region 1 with fail
  go_cut [5, 6] (fun x5 x6 wx => Stood w b (cmc p pe ⟨n, pc, regs, cells, clock, handler, back, pending, halted⟩ t1 l1 r1 n1) ⟨input, ticks, interrupt⟩ ⟨n', pc', regs', cells', clock', handler', back', pending', halted'⟩ 0 x5 x6 wx)
  case first =>
    go_region_held3 (fun w' => w'.cell? ⟨b, 0, none⟩ = some (.string p) ∧ w'.cell? ⟨b, 2, none⟩ = some (.int .i64 n) ∧ w'.cell? ⟨b, 3, none⟩ = some (.int .i64 pc) ∧ w'.cell? ⟨b, 4, none⟩ = some (.string regs) ∧ w'.cell? ⟨b, 5, none⟩ = some (.string cells) ∧ w'.cell? ⟨b, 6, none⟩ = some (.int .i64 clock) ∧ w'.cell? ⟨b, 7, none⟩ = some (.int .i64 handler) ∧ w'.cell? ⟨b, 8, none⟩ = some (.int .i64 back) ∧ w'.cell? ⟨b, 9, none⟩ = some (.bool pending) ∧ w'.cell? ⟨b, 10, none⟩ = some (.bool halted) ∧ w'.cell? ⟨w.heap.size, 0, none⟩ = some (.int .i64 input) ∧ w'.cell? ⟨w.heap.size, 1, none⟩ = some (.int .i64 ticks) ∧ w'.cell? ⟨w.heap.size, 2, none⟩ = some (.bool interrupt)) (first | go_keep | (go_simp; done)) (first | (go_at_call 37; refine (unhide HX _).mono ?_; rintro e w2 ⟨rfl, hb⟩; have HB := hide hb; clear hb; (first | (have X2 := hide (((unhide B0).alloc _).drew.next (unhide HB)); have C2 := hide ((Box.new w _ _).drew.next (unhide HB)); have L2 : Hid (Below w.heap.size w w2) := bel_alloc (bel_undrew (unhide HB))) | (have X2 := hide ((((unhide B0).alloc _).alloc _).drew.next (unhide HB)); have C2 := hide (((Box.new w _ _).alloc _).drew.next (unhide HB)); have L2 : Hid (Below w.heap.size w w2) := bel_alloc (bel_alloc (bel_undrew (unhide HB))); have S2 := hide (second_box (unhide HB)); obtain ⟨c5, f5, g5⟩ := unhide S2)); obtain ⟨cx, fx, gx⟩ := unhide X2; obtain ⟨cc, fc, gc⟩ := unhide C2))
    all_goals
      have hbw := unhide HB0
      go_wp2_with fail
      go_meet
      case rel => first | exact ⟨rfl, w.heap.size + 1, rfl, by omega, nine_box (unhide S2) _ _ _ _ _ _ _ _ _, (unhide X2).off9 (by omega) _ _ _ _ _ _ _ _ _, (unhide C2).off9 (by omega) _ _ _ _ _ _ _ _ _, bel_put9 (unhide L2) (by omega) _ _ _ _ _ _ _ _ _⟩ | exact ⟨rfl, w2.heap.size, rfl, gc, Box.new w2 _ _, (unhide X2).alloc _, (unhide C2).alloc _, (unhide L2).alloc (unhide L2).size _⟩
  case rest =>
    obtain ⟨rfl, k, rfl, hk, x1, y1, z1, d1⟩ := hcut
    have X1 := hide x1
    have Y1 := hide y1
    have Z1 := hide z1
    have D1 := hide d1
    clear x1 y1 z1 d1 c0 f0
    obtain ⟨c0, f0, g0⟩ := unhide Y1
    obtain ⟨cc, fc, gc⟩ := unhide Z1
    clear g0 gc
    have kb : ¬ b = k := by have := unhide HB0; omega
    have kb2 : ¬ k = b := by have := unhide HB0; omega
    go_upto_region 4 with fail
    go_cut [32] (fun x wx => x = .bool false ∧ Box wx k #[.int .i64 n', .int .i64 pc', .string regs', .string cells', .int .i64 clock', .int .i64 handler', .int .i64 back', .bool pending', .bool halted'] ∧ Box wx b (cmc p pe ⟨n, pc, regs, cells, clock, handler, back, pending, halted⟩ t1 l1 r1 n1) ∧ Box wx w.heap.size #[.int .i64 input, .int .i64 ticks, .bool interrupt] ∧ Below w.heap.size w wx)
    case first =>
      go_region_held3 (fun w' => w'.cell? ⟨b, 0, none⟩ = some (.string p) ∧ w'.cell? ⟨b, 2, none⟩ = some (.int .i64 n) ∧ w'.cell? ⟨b, 3, none⟩ = some (.int .i64 pc) ∧ w'.cell? ⟨b, 4, none⟩ = some (.string regs) ∧ w'.cell? ⟨b, 5, none⟩ = some (.string cells) ∧ w'.cell? ⟨b, 6, none⟩ = some (.int .i64 clock) ∧ w'.cell? ⟨b, 7, none⟩ = some (.int .i64 handler) ∧ w'.cell? ⟨b, 8, none⟩ = some (.int .i64 back) ∧ w'.cell? ⟨b, 9, none⟩ = some (.bool pending) ∧ w'.cell? ⟨b, 10, none⟩ = some (.bool halted) ∧ w'.cell? ⟨w.heap.size, 0, none⟩ = some (.int .i64 input) ∧ w'.cell? ⟨w.heap.size, 1, none⟩ = some (.int .i64 ticks) ∧ w'.cell? ⟨w.heap.size, 2, none⟩ = some (.bool interrupt)) (first | go_keep | (go_simp; done)) (first | (go_at_call 38; refine (unhide HN _).mono ?_; rintro e w3 ⟨rfl, hb⟩; have L3 := hide (bel_undrew hb); clear hb; have Y3 := hide ((unhide Y1).next (unhide L3)); have Z3 := hide ((unhide Z1).next (unhide L3)); obtain ⟨cx, fx, gx⟩ := unhide Y3; obtain ⟨cz, fz, gz⟩ := unhide Z3))
      all_goals
        go_wp2_with fail
        go_meet
        case rel => exact ⟨rfl, (unhide X1).next (unhide L3), unhide Y3, unhide Z3, (unhide D1).trans ((unhide L3).mono (unhide D1).size)⟩
    case rest =>
      obtain ⟨rfl, x2, y2, z2, d2⟩ := hcut
      have X2 := hide x2
      have Y2 := hide y2
      have Z2 := hide z2
      have D2 := hide d2
      clear x2 y2 z2 d2 c0 f0 cc fc X1 Y1 Z1 D1
      have X5 := X2
      have Y5 := Y2
      have D5 : Hid (Keeps w _ [b]) := hide (keeps_of (unhide D2) [b])
      clear X2 Y2 Z2 D2
      obtain ⟨c0, f0, g0⟩ := unhide Y5
      obtain ⟨cc, fc, gc⟩ := unhide X5
      clear g0 gc
      have hwr : wrap64 (n' - l1) = n' - l1 := by unfold wrap64; omega
      have Y6 := hide (box_st (s2 := ⟨n', pc', regs', cells', clock', handler', back', pending', halted'⟩) (unhide Y5))
      have D6 := hide (keeps_st (unhide D5) (.int .i64 n') (.int .i64 pc') (.string regs') (.string cells') (.int .i64 clock') (.int .i64 handler') (.int .i64 back') (.bool pending') (.bool halted'))
      go_upto_region 7 with fail
      go_quiet (fail)
      go_wp2_with fail
      · refine (unhide HV _ ((unhide Y6).drewN _)).mono ?_
        rintro e w7 ⟨rfl, h7, k7⟩
        have Y7 := hide h7
        have D7 := hide (((unhide D6).drewN nq).trans k7)
        clear h7 k7
        go_wp2_with fail
        go_ret
        refine ⟨rfl, ?_⟩
        rw [unhide HG, if_pos (by omega)]
        exact ⟨unhide Y7, unhide D7⟩
      · go_ret
        refine ⟨rfl, ?_⟩
        rw [unhide HG, if_neg (by omega)]
        exact ⟨(unhide Y6).drewN _, (unhide D6).drewN _⟩

end Go.Proofs.Ytcmoffiigpchiaa

namespace Go.Proofs.Ytcmoffiigpchiaa
open Go.RowKit

set_option maxRecDepth 100000 in
set_option maxHeartbeats 2000000 in
theorem stepC_counts (b : Nat) (m : RM) (hi : RM.Inv m) (hl : m.all.length < 4611686018427387902) (c : ChV) (hc : Mach.Chosen c) (hh : m.s.halted = false) (hn : m.s.n < 10000) (hct : RM.counts m.p m.s c = true) (w : World) (h : Box w b m.ccells) :
    Calls Try.prog 28 #[.pointer (some ⟨b, 0, none⟩), c.val] w fun e w' => e = .returned (.int .i64 0) ∧ Box w' b (RM.stepped m c).ccells ∧ Keeps w w' [b] := by
  have hsh := hi.ok.good.short
  have HX := hide (step_code m.p m.s c (by unfold maxLen; omega))
  have hst : Mach.step m.p m.s c = (Mach.next m.p m.s c, 0) := by
    unfold Mach.step
    rw [RM.stepErr_eq hi.ok c, if_pos]
    unfold RM.stepErr
    rw [(Mach.chosen_iff c).2 hc]
    simp [hh]
    omega
  rw [hst] at HX
  simp only at HX
  have HN := hide (counts_code m.p hi.ok.good m.s hi.ok.legal c hc)
  rw [hct] at HN
  obtain ⟨wi, ws, wp, wpe, -⟩ := RM.went_inv hi hc hn hl
  have HV := hide (fun W => save_code b (RM.went m c) wi.ok (fun _ => wi.head) W)
  have HG : Hid ((RM.stepped m c).ccells = if m.period ≤ (Mach.next m.p m.s c).n - (RM.went m c).last then (RM.save (RM.went m c)).ccells else cmc m.p m.period (Mach.next m.p m.s c) (RM.traceOf (RM.went m c)) (RM.went m c).last (RM.went m c).room ((RM.went m c).all.length % 65536)) := hide (by
    unfold RM.stepped
    rw [ws]
    split
    · rfl
    · unfold RM.ccells
      rw [ws, wp, wpe])
  have wl0 := wi.ok.last0
  have wl1 := wi.ok.last1
  have wn1 := wi.ok.legal.n1
  have p0 := hi.ok.period0
  have p1 := hi.ok.period1
  rw [ws] at wl1 wn1
  generalize (RM.save (RM.went m c)).ccells = GV at *
  unfold RM.ccells at HV
  rw [ws, wp, wpe] at HV
  have HW := hide (withChoice_code m hi hl c hc)
  have hq : RM.went m c = { RM.note m c with s := Mach.next m.p m.s c } := by
    unfold RM.went
    simp only [hct, if_true]
  have q1 : RM.traceOf (RM.went m c) = RM.traceOf (RM.note m c) := by rw [hq]; rfl
  have q2 : (RM.went m c).last = (RM.note m c).last := by rw [hq]
  have q3 : (RM.went m c).room = (RM.note m c).room := by rw [hq]
  have q4 : (RM.went m c).all.length = (RM.note m c).all.length := by rw [hq]
  rw [q1, q2, q3, q4] at HV HG
  rw [q2] at wl0 wl1
  clear hq q1 q2 q3 q4
  unfold RM.rcd at HW
  generalize RM.traceOf (RM.note m c) = t2 at *
  generalize (RM.note m c).room = r2 at *
  generalize (RM.note m c).last = l2 at *
  generalize (RM.note m c).all.length % 65536 = n2 at *
  unfold RM.ccells at h
  generalize (RM.stepped m c).ccells = GS at *
  clear wi ws wp wpe hst hct
  generalize Mach.next m.p m.s c = s' at *
  generalize RM.traceOf m = t1 at *
  generalize m.room = r1 at *
  generalize m.last = l1 at *
  generalize m.all.length % 65536 = n1 at *
  generalize m.s = s at *
  generalize m.p = p at *
  generalize m.period = pe at *
  clear hi hl hc hh hn
  obtain ⟨n, pc, regs, cells, clock, handler, back, pending, halted⟩ := s
  obtain ⟨input, ticks, interrupt⟩ := c
  obtain ⟨n', pc', regs', cells', clock', handler', back', pending', halted'⟩ := s'
  simp only at wl0 wl1 wn1
  have B0 := hide h
  obtain ⟨c0, f0, g0⟩ := h
  have nb : ¬ b = w.heap.size := by omega
  have nb2 : ¬ w.heap.size = b := by omega
  have nb3 : ¬ b = w.heap.size + 1 := by omega
  have nb4 : ¬ w.heap.size + 1 = b := by omega
  have HB0 := hide g0
  clear g0
  go_enter Try.func28, Try.ntmps28
  go_upto_region 1 with fail
  go_cut [5, 6] (fun x5 x6 wx => Stood w b (cmc p pe ⟨n, pc, regs, cells, clock, handler, back, pending, halted⟩ t1 l1 r1 n1) ⟨input, ticks, interrupt⟩ ⟨n', pc', regs', cells', clock', handler', back', pending', halted'⟩ 0 x5 x6 wx)
  case first =>
    go_region_held3 (fun w' => w'.cell? ⟨b, 0, none⟩ = some (.string p) ∧ w'.cell? ⟨b, 2, none⟩ = some (.int .i64 n) ∧ w'.cell? ⟨b, 3, none⟩ = some (.int .i64 pc) ∧ w'.cell? ⟨b, 4, none⟩ = some (.string regs) ∧ w'.cell? ⟨b, 5, none⟩ = some (.string cells) ∧ w'.cell? ⟨b, 6, none⟩ = some (.int .i64 clock) ∧ w'.cell? ⟨b, 7, none⟩ = some (.int .i64 handler) ∧ w'.cell? ⟨b, 8, none⟩ = some (.int .i64 back) ∧ w'.cell? ⟨b, 9, none⟩ = some (.bool pending) ∧ w'.cell? ⟨b, 10, none⟩ = some (.bool halted) ∧ w'.cell? ⟨w.heap.size, 0, none⟩ = some (.int .i64 input) ∧ w'.cell? ⟨w.heap.size, 1, none⟩ = some (.int .i64 ticks) ∧ w'.cell? ⟨w.heap.size, 2, none⟩ = some (.bool interrupt)) (first | go_keep | (go_simp; done)) (first | (go_at_call 37; refine (unhide HX _).mono ?_; rintro e w2 ⟨rfl, hb⟩; have HB := hide hb; clear hb; (first | (have X2 := hide (((unhide B0).alloc _).drew.next (unhide HB)); have C2 := hide ((Box.new w _ _).drew.next (unhide HB)); have L2 : Hid (Below w.heap.size w w2) := bel_alloc (bel_undrew (unhide HB))) | (have X2 := hide ((((unhide B0).alloc _).alloc _).drew.next (unhide HB)); have C2 := hide (((Box.new w _ _).alloc _).drew.next (unhide HB)); have L2 : Hid (Below w.heap.size w w2) := bel_alloc (bel_alloc (bel_undrew (unhide HB))); have S2 := hide (second_box (unhide HB)); obtain ⟨c5, f5, g5⟩ := unhide S2)); obtain ⟨cx, fx, gx⟩ := unhide X2; obtain ⟨cc, fc, gc⟩ := unhide C2))
    all_goals
      have hbw := unhide HB0
      go_wp2_with fail
      go_meet
      case rel => first | exact ⟨rfl, w.heap.size + 1, rfl, by omega, nine_box (unhide S2) _ _ _ _ _ _ _ _ _, (unhide X2).off9 (by omega) _ _ _ _ _ _ _ _ _, (unhide C2).off9 (by omega) _ _ _ _ _ _ _ _ _, bel_put9 (unhide L2) (by omega) _ _ _ _ _ _ _ _ _⟩ | exact ⟨rfl, w2.heap.size, rfl, gc, Box.new w2 _ _, (unhide X2).alloc _, (unhide C2).alloc _, (unhide L2).alloc (unhide L2).size _⟩
  case rest =>
    obtain ⟨rfl, k, rfl, hk, x1, y1, z1, d1⟩ := hcut
    have X1 := hide x1
    have Y1 := hide y1
    have Z1 := hide z1
    have D1 := hide d1
    clear x1 y1 z1 d1 c0 f0
    obtain ⟨c0, f0, g0⟩ := unhide Y1
    obtain ⟨cc, fc, gc⟩ := unhide Z1
    clear g0 gc
    have kb : ¬ b = k := by have := unhide HB0; omega
    have kb2 : ¬ k = b := by have := unhide HB0; omega
    go_upto_region 4 with fail
    go_cut [32] (fun x wx => x = .bool true ∧ Box wx k #[.int .i64 n', .int .i64 pc', .string regs', .string cells', .int .i64 clock', .int .i64 handler', .int .i64 back', .bool pending', .bool halted'] ∧ Box wx b (cmc p pe ⟨n, pc, regs, cells, clock, handler, back, pending, halted⟩ t1 l1 r1 n1) ∧ Box wx w.heap.size #[.int .i64 input, .int .i64 ticks, .bool interrupt] ∧ Below w.heap.size w wx)
    case first =>
      go_region_held3 (fun w' => w'.cell? ⟨b, 0, none⟩ = some (.string p) ∧ w'.cell? ⟨b, 2, none⟩ = some (.int .i64 n) ∧ w'.cell? ⟨b, 3, none⟩ = some (.int .i64 pc) ∧ w'.cell? ⟨b, 4, none⟩ = some (.string regs) ∧ w'.cell? ⟨b, 5, none⟩ = some (.string cells) ∧ w'.cell? ⟨b, 6, none⟩ = some (.int .i64 clock) ∧ w'.cell? ⟨b, 7, none⟩ = some (.int .i64 handler) ∧ w'.cell? ⟨b, 8, none⟩ = some (.int .i64 back) ∧ w'.cell? ⟨b, 9, none⟩ = some (.bool pending) ∧ w'.cell? ⟨b, 10, none⟩ = some (.bool halted) ∧ w'.cell? ⟨w.heap.size, 0, none⟩ = some (.int .i64 input) ∧ w'.cell? ⟨w.heap.size, 1, none⟩ = some (.int .i64 ticks) ∧ w'.cell? ⟨w.heap.size, 2, none⟩ = some (.bool interrupt)) (first | go_keep | (go_simp; done)) (first | (go_at_call 38; refine (unhide HN _).mono ?_; rintro e w3 ⟨rfl, hb⟩; have L3 := hide (bel_undrew hb); clear hb; have Y3 := hide ((unhide Y1).next (unhide L3)); have Z3 := hide ((unhide Z1).next (unhide L3)); obtain ⟨cx, fx, gx⟩ := unhide Y3; obtain ⟨cz, fz, gz⟩ := unhide Z3))
      all_goals
        go_wp2_with fail
        go_meet
        case rel => exact ⟨rfl, (unhide X1).next (unhide L3), unhide Y3, unhide Z3, (unhide D1).trans ((unhide L3).mono (unhide D1).size)⟩
    case rest =>
      obtain ⟨rfl, x2, y2, z2, d2⟩ := hcut
      have X2 := hide x2
      have Y2 := hide y2
      have Z2 := hide z2
      have D2 := hide d2
      clear x2 y2 z2 d2 c0 f0 cc fc X1 Y1 Z1 D1
      obtain ⟨c0, f0, g0⟩ := unhide Y2
      obtain ⟨cc, fc, gc⟩ := unhide Z2
      clear g0 gc
      go_upto_region 5 with fail
      go_cut [] (fun wx => Box wx k #[.int .i64 n', .int .i64 pc', .string regs', .string cells', .int .i64 clock', .int .i64 handler', .int .i64 back', .bool pending', .bool halted'] ∧ Box wx b (cmc p pe ⟨n, pc, regs, cells, clock, handler, back, pending, halted⟩ t2 l2 r2 n2) ∧ Keeps w wx [b])
      case first =>
        go_region_law (rw [if_pos (by simp [Region.wanted])]; go_wp2_with (go_at_call 39; refine (unhide HW _).mono ?_; rintro e w4 ⟨rfl, hb⟩; have L4 := hide (bel_undrew hb); clear hb; have Y4 := hide ((unhide Y2).next (unhide L4)); obtain ⟨cx, fx, gx⟩ := unhide Y4; clear gx))
        all_goals
          go_wp2_with fail
          go_meet
          case rel => exact ⟨((unhide X2).next (unhide L4)).off4' kb2 _ _ _ _, box_rec (unhide Y4), keeps_rec ((keeps_of (unhide D2) _).trans (keeps_of (unhide L4) _)) _ _ _ _⟩
      case rest =>
        obtain ⟨x5, y5, d5⟩ := hcut
        have X5 := hide x5
        have Y5 := hide y5
        have D5 := hide d5
        clear x5 y5 d5 c0 f0 cc fc X2 Y2 Z2 D2
        obtain ⟨c0, f0, g0⟩ := unhide Y5
        obtain ⟨cc, fc, gc⟩ := unhide X5
        clear g0 gc
        have hwr : wrap64 (n' - l2) = n' - l2 := by unfold wrap64; omega
        have Y6 := hide (box_st (s2 := ⟨n', pc', regs', cells', clock', handler', back', pending', halted'⟩) (unhide Y5))
        have D6 := hide (keeps_st (unhide D5) (.int .i64 n') (.int .i64 pc') (.string regs') (.string cells') (.int .i64 clock') (.int .i64 handler') (.int .i64 back') (.bool pending') (.bool halted'))
        go_upto_region 7 with fail
        go_quiet (fail)
        go_wp2_with fail
        · refine (unhide HV _ ((unhide Y6).drewN _)).mono ?_
          rintro e w7 ⟨rfl, h7, k7⟩
          have Y7 := hide h7
          have D7 := hide (((unhide D6).drewN nq).trans k7)
          clear h7 k7
          go_wp2_with fail
          go_ret
          refine ⟨rfl, ?_⟩
          rw [unhide HG, if_pos (by omega)]
          exact ⟨unhide Y7, unhide D7⟩
        · go_ret
          refine ⟨rfl, ?_⟩
          rw [unhide HG, if_neg (by omega)]
          exact ⟨(unhide Y6).drewN _, (unhide D6).drewN _⟩

theorem RM.stepErr_zero {m : RM} {c : ChV} (h : RM.stepErr m c = 0) : Mach.Chosen c ∧ m.s.halted = false ∧ m.s.n < 10000 := by
  unfold RM.stepErr at h
  split at h
  · simp at h
  · rename_i h1
    split at h
    · simp at h
    · rename_i h2
      refine ⟨(Mach.chosen_iff c).1 (by simpa using h1), ?_, ?_⟩
      · cases hx : m.s.halted with
        | false => rfl
        | true => exact absurd (Or.inl hx) h2
      · omega

theorem stepC_code (b : Nat) (m : RM) (hi : RM.Inv m) (hl : m.all.length < 4611686018427387902) (c : ChV) (w : World) (h : Box w b m.ccells) :
    Calls Try.prog 28 #[.pointer (some ⟨b, 0, none⟩), c.val] w fun e w' => e = .returned (.int .i64 (RM.step m c).2) ∧ Box w' b (RM.step m c).1.ccells ∧ Keeps w w' [b] := by
  unfold RM.step
  by_cases he : RM.stepErr m c = 0
  · rw [if_pos he]
    obtain ⟨hc, hh, hn⟩ := RM.stepErr_zero he
    cases hct : RM.counts m.p m.s c with
    | false => exact stepC_plain b m hi hl c hc hh hn hct w h
    | true => exact stepC_counts b m hi hl c hc hh hn hct w h
  · rw [if_neg he]
    refine (stepC_err b m hi.ok c he w h).mono ?_
    rintro e w' ⟨rfl, hb⟩
    exact ⟨rfl, h.next hb, keeps_of hb _⟩
end Go.Proofs.Ytcmoffiigpchiaa
