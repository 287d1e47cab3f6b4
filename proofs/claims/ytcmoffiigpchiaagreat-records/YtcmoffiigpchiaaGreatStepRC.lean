import Derived.Test.YtcmoffiigpchiaaGreatStepRB
import Derived.Deep.QuietTactic
import Derived.BigQuiet
namespace Go.Proofs.YtcmoffiigpchiaaGreat
open Go.RowKit

/-- The state is written down, and what lay there lies there yet. -/
theorem landed {w w1 w2 : World} {b g cap : Nat} {m : RM} (R0 : RefAt w b g cap m) (L1 : Below w.heap.size w w1) (L2 : Below w1.heap.size w1 w2) (s : StV) :
    RefAt (((((((((w2.setCell ⟨b, 3, none⟩ (.int .i64 s.n)).setCell ⟨b, 4, none⟩ (.int .i64 s.pc)).setCell ⟨b, 5, none⟩ (.string s.regs)).setCell ⟨b, 6, none⟩ (.string s.cells)).setCell ⟨b, 7, none⟩ (.int .i64 s.clock)).setCell ⟨b, 8, none⟩ (.int .i64 s.handler)).setCell ⟨b, 9, none⟩ (.int .i64 s.back)).setCell ⟨b, 10, none⟩ (.bool s.pending)).setCell ⟨b, 11, none⟩ (.bool s.halted)) b g cap { m with s := s } ∧
    Keeps w (((((((((w2.setCell ⟨b, 3, none⟩ (.int .i64 s.n)).setCell ⟨b, 4, none⟩ (.int .i64 s.pc)).setCell ⟨b, 5, none⟩ (.string s.regs)).setCell ⟨b, 6, none⟩ (.string s.cells)).setCell ⟨b, 7, none⟩ (.int .i64 s.clock)).setCell ⟨b, 8, none⟩ (.int .i64 s.handler)).setCell ⟨b, 9, none⟩ (.int .i64 s.back)).setCell ⟨b, 10, none⟩ (.bool s.pending)).setCell ⟨b, 11, none⟩ (.bool s.halted)) [b, g] := by
  refine ⟨((R0.keeps L1).keeps L2).setS s, ?_⟩
  repeat (refine Keeps.setCell ?_ (by simp) _)
  exact (keeps_of L1 _).trans (keeps_of L2 _)
theorem below9 {w w2 : World} {k x : Nat} (h : Below k w w2) (hx : k ≤ x) (v0 v1 v2 v3 v4 v5 v6 v7 v8 : Value) : Below k w (((((((((w2.setCell ⟨x, 0, none⟩ v0).setCell ⟨x, 1, none⟩ v1).setCell ⟨x, 2, none⟩ v2).setCell ⟨x, 3, none⟩ v3).setCell ⟨x, 4, none⟩ v4).setCell ⟨x, 5, none⟩ v5).setCell ⟨x, 6, none⟩ v6).setCell ⟨x, 7, none⟩ v7).setCell ⟨x, 8, none⟩ v8) := by
  repeat (refine Below.setCell ?_ (by simpa using hx) _)
  exact h
theorem RefAt.alloc {w : World} {b g cap : Nat} {m : RM} (h : RefAt w b g cap m) (X : Obj) : RefAt (w.alloc X) b g cap m :=
  h.keeps ((Below.refl _ _).alloc (Nat.le_refl _) X)
set_option maxRecDepth 100000 in
set_option maxHeartbeats 4000000 in
theorem mstep_plain (b g cap : Nat) (m : RM) (c : ChV) (hm : m.Ok) (hc : Mach.Chosen c) (hh : m.s.halted = false) (hn : m.s.n < 10000) (hct : RM.counts m.p m.s c = false) (hsz : m.all.length < 8796093022207) (w : World) (h : RefAt w b g cap m) :
    Calls Tryz.prog 40 #[.pointer (some ⟨b, 0, none⟩), c.val] w fun e w' => e = .returned (.int .i64 0) ∧ ∃ g' cap', RefAt w' b g' cap' (RM.stepped m c) ∧ (g' = g ∨ w.heap.size ≤ g') ∧ Keeps w w' [b, g] := by
  have HC := hide (chosen_ref c)
  rw [(Mach.chosen_iff c).2 hc] at HC
  have HX := hide (next_ref m.p hm.good m.s c hm.legal hc hn hh)
  have R0 := hide h
  have hgl := own_lt h.own
  have HV := hide (fun W => save_ref b g cap { m with s := Mach.next m.p m.s c } (went_ok hm hc hn) hsz W)
  have HA := hide (ask_facts hm.good hct)
  have hnn := Mach.next_n m.p m.s c
  have HST : Hid (RM.stepped m c = if m.period ≤ (Mach.next m.p m.s c).n - m.last then RM.save { m with s := Mach.next m.p m.s c } else { m with s := Mach.next m.p m.s c }) := by
    show _ = _
    simp [RM.stepped, RM.went, hct]
  have hn0 := hm.legal.n0
  have hl0 := hm.last0
  have hl1 := hm.last1
  have hp0 := hm.period0
  have hp1 := hm.period1
  have B0 := hide h.box
  have hlt := h.box.lt
  have hw : Hid (wrap64 (m.s.n + 1 - m.last) = m.s.n + 1 - m.last) := (by show _ = _; unfold wrap64; omega)
  clear hn h
  generalize Mach.next m.p m.s c = s' at *
  generalize insOf m.p m.s c = ii at *
  obtain ⟨p, room, period, ⟨n, pc, regs, cells, clock, handler, back, pending, halted⟩, all, from_, last⟩ := m
  obtain ⟨input, ticks, interrupt⟩ := c
  obtain ⟨n', pc', regs', cells', clock', handler', back', pending', halted'⟩ := s'
  simp only at HX hh hnn
  subst hh hnn
  have HCT := hide hct
  have HM := hide hm
  have HCC := hide hc
  clear hct hm hc
  go_enter Tryz.func40, Tryz.ntmps40
  go_wp2_with (go_at_call 50; refine (unhide HC _).mono ?_; rintro e w1 ⟨rfl, hb⟩; have B1 := hide (((unhide B0).alloc _).next hb); have C1 := hide ((Box.new _ _ _).next hb); have L1 := hide (bel_alloc hb); clear hb; obtain ⟨c1, f1, z1⟩ := unhide B1; obtain ⟨d1, e1, y1⟩ := unhide C1; have nb1 : ¬ w1.heap.size + 1 = b := (by omega); have nb2 : ¬ b = w1.heap.size + 1 := (by omega); have nw1 : ¬ w1.heap.size + 1 = w.heap.size := (by omega); have nw2 : ¬ w.heap.size = w1.heap.size + 1 := (by omega))
  go_region_held3 (fun w' => w'.cell? ⟨b, 0, none⟩ = some (.string p) ∧ w'.cell? ⟨b, 3, none⟩ = some (.int .i64 n) ∧ w'.cell? ⟨b, 4, none⟩ = some (.int .i64 pc) ∧ w'.cell? ⟨b, 5, none⟩ = some (.string regs) ∧ w'.cell? ⟨b, 6, none⟩ = some (.string cells) ∧ w'.cell? ⟨b, 7, none⟩ = some (.int .i64 clock) ∧ w'.cell? ⟨b, 8, none⟩ = some (.int .i64 handler) ∧ w'.cell? ⟨b, 9, none⟩ = some (.int .i64 back) ∧ w'.cell? ⟨b, 10, none⟩ = some (.bool pending) ∧ w'.cell? ⟨b, 11, none⟩ = some (.bool false) ∧ w'.cell? ⟨w.heap.size, 0, none⟩ = some (.int .i64 input) ∧ w'.cell? ⟨w.heap.size, 1, none⟩ = some (.int .i64 ticks) ∧ w'.cell? ⟨w.heap.size, 2, none⟩ = some (.bool interrupt)) (first | go_keep | (go_simp; done)) (first | (go_at_call 51; refine (unhide HX _).mono ?_; rintro e w2 ⟨rfl, hb⟩; (first | (have L2 : Hid (Below w1.heap.size w1 w2) := bel_alloc (bel_undrew hb)) | (have L2 : Hid (Below w1.heap.size w1 w2) := bel_alloc (bel_alloc (bel_undrew hb)); obtain ⟨c5, f5, z5⟩ := box_second hb)); clear hb; have B2 := hide ((unhide B1).next (unhide L2)); have C2 := hide ((unhide C1).next (unhide L2)); obtain ⟨c2, f2, z2⟩ := unhide B2; obtain ⟨d2, e2, y2⟩ := unhide C2))
  · obtain ⟨hi, ht, hask⟩ := unhide HA
    subst hi ht
    have hwr := unhide hw
    have F := hide (landed (unhide R0) (unhide L1) (unhide L2) ⟨n + 1, pc', regs', cells', clock', handler', back', pending', halted'⟩)
    rcases hask with hE | ⟨hpos, hE, h63⟩
    · go_wp2_with fail
      all_goals
        go_quiet (fail)
        go_wp2_with fail
        · refine (unhide HV _ (((unhide F).1.alloc _).drewN _)).mono ?_
          rintro e w3 ⟨rfl, g', cap', h3, h4, h5⟩
          have K3 := hide ((((unhide F).2.alloc _).drewN nq).trans h5)
          have G3 := hide (h4.imp id (fun h => Nat.le_trans (((unhide F).2.alloc _).drewN nq).size h) : g' = g ∨ w.heap.size ≤ g')
          have R3 := hide h3
          clear h3 h4 h5
          go_wp2_with fail
          go_ret
          refine ⟨rfl, ?_⟩
          rw [unhide HST, if_pos (by omega)]
          exact ⟨g', cap', unhide R3, unhide G3, unhide K3⟩
        · go_ret
          refine ⟨rfl, ?_⟩
          rw [unhide HST, if_neg (by omega)]
          exact ⟨g, cap, ((unhide F).1.alloc _).drewN _, Or.inl rfl, ((unhide F).2.alloc _).drewN _⟩
    · by_cases h6 : (ii[0].toNat : Int) = 63
      · have hin := h63 (by rw [← Code.byt_eq ii 0 hpos]; omega)
        subst hin
        go_wp2_with fail
        all_goals
          go_quiet (fail)
          go_wp2_with fail
          · refine (unhide HV _ (((unhide F).1.alloc _).drewN _)).mono ?_
            rintro e w3 ⟨rfl, g', cap', h3, h4, h5⟩
            have K3 := hide ((((unhide F).2.alloc _).drewN nq).trans h5)
            have G3 := hide (h4.imp id (fun h => Nat.le_trans (((unhide F).2.alloc _).drewN nq).size h) : g' = g ∨ w.heap.size ≤ g')
            have R3 := hide h3
            clear h3 h4 h5
            go_wp2_with fail
            go_ret
            refine ⟨rfl, ?_⟩
            rw [unhide HST, if_pos (by omega)]
            exact ⟨g', cap', unhide R3, unhide G3, unhide K3⟩
          · go_ret
            refine ⟨rfl, ?_⟩
            rw [unhide HST, if_neg (by omega)]
            exact ⟨g, cap, ((unhide F).1.alloc _).drewN _, Or.inl rfl, ((unhide F).2.alloc _).drewN _⟩
      · go_wp2_with fail
        all_goals
          go_quiet (fail)
          go_wp2_with fail
          · refine (unhide HV _ (((unhide F).1.alloc _).drewN _)).mono ?_
            rintro e w3 ⟨rfl, g', cap', h3, h4, h5⟩
            have K3 := hide ((((unhide F).2.alloc _).drewN nq).trans h5)
            have G3 := hide (h4.imp id (fun h => Nat.le_trans (((unhide F).2.alloc _).drewN nq).size h) : g' = g ∨ w.heap.size ≤ g')
            have R3 := hide h3
            clear h3 h4 h5
            go_wp2_with fail
            go_ret
            refine ⟨rfl, ?_⟩
            rw [unhide HST, if_pos (by omega)]
            exact ⟨g', cap', unhide R3, unhide G3, unhide K3⟩
          · go_ret
            refine ⟨rfl, ?_⟩
            rw [unhide HST, if_neg (by omega)]
            exact ⟨g, cap, ((unhide F).1.alloc _).drewN _, Or.inl rfl, ((unhide F).2.alloc _).drewN _⟩
  · obtain ⟨hi, ht, hask⟩ := unhide HA
    subst hi ht
    have hwr := unhide hw
    have F := hide (landed (unhide R0) (unhide L1) (below9 (unhide L2) (Nat.le_succ _) (.int .i64 (n + 1)) (.int .i64 pc') (.string regs') (.string cells') (.int .i64 clock') (.int .i64 handler') (.int .i64 back') (.bool pending') (.bool halted')) ⟨n + 1, pc', regs', cells', clock', handler', back', pending', halted'⟩)
    rcases hask with hE | ⟨hpos, hE, h63⟩
    · go_wp2_with fail
      all_goals
        go_quiet (fail)
        go_wp2_with fail
        · refine (unhide HV _ ((unhide F).1.drewN _)).mono ?_
          rintro e w3 ⟨rfl, g', cap', h3, h4, h5⟩
          have K3 := hide (((unhide F).2.drewN nq).trans h5)
          have G3 := hide (h4.imp id (fun h => Nat.le_trans ((unhide F).2.drewN nq).size h) : g' = g ∨ w.heap.size ≤ g')
          have R3 := hide h3
          clear h3 h4 h5
          go_wp2_with fail
          go_ret
          refine ⟨rfl, ?_⟩
          rw [unhide HST, if_pos (by omega)]
          exact ⟨g', cap', unhide R3, unhide G3, unhide K3⟩
        · go_ret
          refine ⟨rfl, ?_⟩
          rw [unhide HST, if_neg (by omega)]
          exact ⟨g, cap, (unhide F).1.drewN _, Or.inl rfl, (unhide F).2.drewN _⟩
    · by_cases h6 : (ii[0].toNat : Int) = 63
      · have hin := h63 (by rw [← Code.byt_eq ii 0 hpos]; omega)
        subst hin
        go_wp2_with fail
        all_goals
          go_quiet (fail)
          go_wp2_with fail
          · refine (unhide HV _ ((unhide F).1.drewN _)).mono ?_
            rintro e w3 ⟨rfl, g', cap', h3, h4, h5⟩
            have K3 := hide (((unhide F).2.drewN nq).trans h5)
            have G3 := hide (h4.imp id (fun h => Nat.le_trans ((unhide F).2.drewN nq).size h) : g' = g ∨ w.heap.size ≤ g')
            have R3 := hide h3
            clear h3 h4 h5
            go_wp2_with fail
            go_ret
            refine ⟨rfl, ?_⟩
            rw [unhide HST, if_pos (by omega)]
            exact ⟨g', cap', unhide R3, unhide G3, unhide K3⟩
          · go_ret
            refine ⟨rfl, ?_⟩
            rw [unhide HST, if_neg (by omega)]
            exact ⟨g, cap, (unhide F).1.drewN _, Or.inl rfl, (unhide F).2.drewN _⟩
      · go_wp2_with fail
        all_goals
          go_quiet (fail)
          go_wp2_with fail
          · refine (unhide HV _ ((unhide F).1.drewN _)).mono ?_
            rintro e w3 ⟨rfl, g', cap', h3, h4, h5⟩
            have K3 := hide (((unhide F).2.drewN nq).trans h5)
            have G3 := hide (h4.imp id (fun h => Nat.le_trans ((unhide F).2.drewN nq).size h) : g' = g ∨ w.heap.size ≤ g')
            have R3 := hide h3
            clear h3 h4 h5
            go_wp2_with fail
            go_ret
            refine ⟨rfl, ?_⟩
            rw [unhide HST, if_pos (by omega)]
            exact ⟨g', cap', unhide R3, unhide G3, unhide K3⟩
          · go_ret
            refine ⟨rfl, ?_⟩
            rw [unhide HST, if_neg (by omega)]
            exact ⟨g, cap, (unhide F).1.drewN _, Or.inl rfl, (unhide F).2.drewN _⟩

end Go.Proofs.YtcmoffiigpchiaaGreat
