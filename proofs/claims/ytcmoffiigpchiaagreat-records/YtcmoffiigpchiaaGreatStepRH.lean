import Derived.Test.YtcmoffiigpchiaaGreatRecW
import Derived.Test.YtcmoffiigpchiaaGreatBase
import Derived.Test.YtcmoffiigpchiaaGreatStepR
import Derived.Deep.RegionHeld3
import Derived.Test.YtcmoffiigpchiaaGreatOfW
import Derived.Test.YtcmoffiigpchiaaGreatSaveR
import Derived.Deep.QuietTactic
import Derived.BigQuiet
import Derived.Deep.DeepCutAuto
import Derived.Deep.RegionWith
namespace Go.Proofs.YtcmoffiigpchiaaGreat
open Go.RowKit

theorem box_second {w1 w2 : World} {X : Obj} {Y : Array Value} {ty : TypeId} (hb : Below ((w1.alloc X).alloc (.cells Y ty)).drew.heap.size ((w1.alloc X).alloc (.cells Y ty)).drew w2) : Box w2 (w1.heap.size + 1) Y := by
  have h := (Box.new (w1.alloc X) Y ty).drew.next hb
  have e : (w1.alloc X).heap.size = w1.heap.size + 1 := by simp
  rwa [e] at h
theorem Box.later {w1 w2 : World} {b : Nat} {ca : Array Value} {X : Obj} (h : Box w1 b ca) (hb : Below (w1.alloc X).drew.heap.size (w1.alloc X).drew w2) : Box w2 b ca := (h.alloc X).drew.next hb

set_option maxRecDepth 100000 in
set_option maxHeartbeats 2000000 in
theorem mstep_arg (b : Nat) (c : ChV) (hc : Mach.chosen c = false) (w : World) :
    Calls Tryz.prog 40 #[.pointer (some ⟨b, 0, none⟩), c.val] w fun e w' => e = .returned (.int .i64 3) ∧ Below w.heap.size w w' := by
  have HC := hide (chosen_ref c)
  rw [hc] at HC
  clear hc
  obtain ⟨input, ticks, interrupt⟩ := c
  go_enter Tryz.func40, Tryz.ntmps40
  go_wp2_with (go_at_call 50; refine (unhide HC _).mono ?_; rintro e w1 ⟨rfl, hb⟩)
  go_ret
  exact ⟨rfl, bel_alloc hb⟩

set_option maxRecDepth 100000 in
set_option maxHeartbeats 4000000 in
theorem mstep_halt (b g cap : Nat) (m : RM) (c : ChV) (hc : Mach.chosen c = true) (hn : m.s.halted = true ∨ 10000 ≤ m.s.n) (w : World) (h : RefAt w b g cap m) :
    Calls Tryz.prog 40 #[.pointer (some ⟨b, 0, none⟩), c.val] w fun e w' => e = .returned (.int .i64 5) ∧ Below w.heap.size w w' := by
  have HC := hide (chosen_ref c)
  rw [hc] at HC
  have HX := hide (next_halt m.p m.s c hn)
  have B0 := hide h.box
  have hlt := h.box.lt
  clear hc hn h
  obtain ⟨p, room, period, ⟨n, pc, regs, cells, clock, handler, back, pending, halted⟩, all, from_, last⟩ := m
  obtain ⟨input, ticks, interrupt⟩ := c
  simp only at HX
  go_enter Tryz.func40, Tryz.ntmps40
  go_wp2_with (go_at_call 50; refine (unhide HC _).mono ?_; rintro e w1 ⟨rfl, hb⟩; have B1 := hide (((unhide B0).alloc _).next hb); have C1 := hide ((Box.new _ _ _).next hb); have L1 := hide (bel_alloc hb); clear hb; obtain ⟨c1, f1, z1⟩ := unhide B1; obtain ⟨d1, e1, y1⟩ := unhide C1; have nb1 : ¬ w1.heap.size + 1 = b := (by omega); have nb2 : ¬ b = w1.heap.size + 1 := (by omega); have nw1 : ¬ w1.heap.size + 1 = w.heap.size := (by omega); have nw2 : ¬ w.heap.size = w1.heap.size + 1 := (by omega))
  go_region_held3 (fun w' => w'.cell? ⟨b, 0, none⟩ = some (.string p) ∧ w'.cell? ⟨b, 3, none⟩ = some (.int .i64 n) ∧ w'.cell? ⟨b, 4, none⟩ = some (.int .i64 pc) ∧ w'.cell? ⟨b, 5, none⟩ = some (.string regs) ∧ w'.cell? ⟨b, 6, none⟩ = some (.string cells) ∧ w'.cell? ⟨b, 7, none⟩ = some (.int .i64 clock) ∧ w'.cell? ⟨b, 8, none⟩ = some (.int .i64 handler) ∧ w'.cell? ⟨b, 9, none⟩ = some (.int .i64 back) ∧ w'.cell? ⟨b, 10, none⟩ = some (.bool pending) ∧ w'.cell? ⟨b, 11, none⟩ = some (.bool halted) ∧ w'.cell? ⟨w.heap.size, 0, none⟩ = some (.int .i64 input) ∧ w'.cell? ⟨w.heap.size, 1, none⟩ = some (.int .i64 ticks) ∧ w'.cell? ⟨w.heap.size, 2, none⟩ = some (.bool interrupt)) (first | go_keep | (go_simp; done)) (first | (go_at_call 51; refine (unhide HX _).mono ?_; rintro e w2 ⟨rfl, hb⟩; (first | (have L2 : Hid (Below w1.heap.size w1 w2) := bel_alloc (bel_undrew hb)) | (have L2 : Hid (Below w1.heap.size w1 w2) := bel_alloc (bel_alloc (bel_undrew hb)); obtain ⟨c5, f5, z5⟩ := box_second hb)); clear hb; have B2 := hide ((unhide B1).next (unhide L2)); have C2 := hide ((unhide C1).next (unhide L2)); obtain ⟨c2, f2, z2⟩ := unhide B2; obtain ⟨d2, e2, y2⟩ := unhide C2))
  all_goals
    go_wp2
    go_ret
    have s1 := (unhide L1).size
    have s2 := (unhide L2).size
    refine ⟨rfl, ?_⟩
    repeat (refine Below.setCell ?_ (by simp <;> omega) _)
    first | exact bel_then (unhide L1) (unhide L2) | exact (bel_then (unhide L1) (unhide L2)).alloc (Nat.le_trans s1 s2) _
end Go.Proofs.YtcmoffiigpchiaaGreat

namespace Go.Proofs.YtcmoffiigpchiaaGreat
open Go.RowKit

theorem RefAt.keeps {w w' : World} {b g cap : Nat} {m : RM} (h : RefAt w b g cap m) (k : Below w.heap.size w w') : RefAt w' b g cap m :=
  ⟨h.box.next k, own_block h.own (k.block g (own_lt h.own)), h.ne⟩
theorem fifteen (a0 a1 a2 a3 a4 a5 a6 a7 a8 a9 a10 a11 a12 a13 a14 v0 v1 v2 v3 v4 v5 v6 v7 v8 : Value) :
    ((((((((#[a0, a1, a2, a3, a4, a5, a6, a7, a8, a9, a10, a11, a12, a13, a14].setIfInBounds 3 v0).setIfInBounds 4 v1).setIfInBounds 5 v2).setIfInBounds 6 v3).setIfInBounds 7 v4).setIfInBounds 8 v5).setIfInBounds 9 v6).setIfInBounds 10 v7).setIfInBounds 11 v8 = #[a0, a1, a2, v0, v1, v2, v3, v4, v5, v6, v7, v8, a12, a13, a14] := by
  simp
theorem heap_set9 (w : World) (b g : Nat) (h : g ≠ b) (v0 v1 v2 v3 v4 v5 v6 v7 v8 : Value) :
    (((((((((w.setCell ⟨b, 3, none⟩ v0).setCell ⟨b, 4, none⟩ v1).setCell ⟨b, 5, none⟩ v2).setCell ⟨b, 6, none⟩ v3).setCell ⟨b, 7, none⟩ v4).setCell ⟨b, 8, none⟩ v5).setCell ⟨b, 9, none⟩ v6).setCell ⟨b, 10, none⟩ v7).setCell ⟨b, 11, none⟩ v8).heap[g]? = w.heap[g]? := by
  rw [Below.heap_setCell _ _ _ _ h, Below.heap_setCell _ _ _ _ h, Below.heap_setCell _ _ _ _ h, Below.heap_setCell _ _ _ _ h, Below.heap_setCell _ _ _ _ h, Below.heap_setCell _ _ _ _ h, Below.heap_setCell _ _ _ _ h, Below.heap_setCell _ _ _ _ h, Below.heap_setCell _ _ _ _ h]
/-- The state is written into the machine. -/
theorem RefAt.setS {w : World} {b g cap : Nat} {m : RM} (h : RefAt w b g cap m) (s : StV) :
    RefAt (((((((((w.setCell ⟨b, 3, none⟩ (.int .i64 s.n)).setCell ⟨b, 4, none⟩ (.int .i64 s.pc)).setCell ⟨b, 5, none⟩ (.string s.regs)).setCell ⟨b, 6, none⟩ (.string s.cells)).setCell ⟨b, 7, none⟩ (.int .i64 s.clock)).setCell ⟨b, 8, none⟩ (.int .i64 s.handler)).setCell ⟨b, 9, none⟩ (.int .i64 s.back)).setCell ⟨b, 10, none⟩ (.bool s.pending)).setCell ⟨b, 11, none⟩ (.bool s.halted)) b g cap { m with s := s } := by
  refine ⟨?_, own_block h.own (heap_set9 w b g (fun e => h.ne e.symm) _ _ _ _ _ _ _ _ _), h.ne⟩
  have := ((((((((h.box.set 3 (.int .i64 s.n) (by simp)).set 4 (.int .i64 s.pc) (by simp)).set 5 (.string s.regs) (by simp)).set 6 (.string s.cells) (by simp)).set 7 (.int .i64 s.clock) (by simp)).set 8 (.int .i64 s.handler) (by simp)).set 9 (.int .i64 s.back) (by simp)).set 10 (.bool s.pending) (by simp)).set 11 (.bool s.halted) (by simp)
  rw [fifteen] at this
  exact this
theorem went_ok {m : RM} {c : ChV} (hm : m.Ok) (hc : Mach.Chosen c) (hn : m.s.n < 10000) : ({ m with s := Mach.next m.p m.s c } : RM).Ok := by
  have hnn := Mach.next_n m.p m.s c
  obtain ⟨good, r0, r1, q0, q1, lg, f1, fr, l0, l1, sz, kp⟩ := hm
  exact ⟨good, r0, r1, q0, q1, Mach.next_legal good lg hc hn, f1, fr, l0, by simp only; omega, sz, kp⟩

theorem RefAt.keepsK {w w' : World} {b g cap : Nat} {m : RM} {o : List Nat} (h : RefAt w b g cap m) (k : Keeps w w' o) (hb : b ∉ o) (hg : g ∉ o) : RefAt w' b g cap m :=
  ⟨h.box.keeps k hb, own_block h.own (k.block g (own_lt h.own) hg), h.ne⟩
theorem keeps9 (w : World) (x : Nat) (v0 v1 v2 v3 v4 v5 v6 v7 v8 : Value) : Keeps w (((((((((w.setCell ⟨x, 0, none⟩ v0).setCell ⟨x, 1, none⟩ v1).setCell ⟨x, 2, none⟩ v2).setCell ⟨x, 3, none⟩ v3).setCell ⟨x, 4, none⟩ v4).setCell ⟨x, 5, none⟩ v5).setCell ⟨x, 6, none⟩ v6).setCell ⟨x, 7, none⟩ v7).setCell ⟨x, 8, none⟩ v8) [x] := by
  repeat (refine Keeps.setCell ?_ (by simp) _)
  exact Keeps.refl _ _
/-- What is done where the choice did not count. -/
theorem ask_facts {p : ByteArray} {s : StV} {c : ChV} (g : Mach.Good p) (h : RM.counts p s c = false) :
    c.interrupt = false ∧ c.ticks = 0 ∧ ((insOf p s c).toList.isEmpty = true ∨ (0 < (insOf p s c).size ∧ (insOf p s c).toList.isEmpty = false ∧ (Code.byt (insOf p s c) 0 = 63 → c.input = 0))) := by
  simp [RM.counts] at h
  obtain ⟨⟨h1, h2⟩, h3⟩ := h
  refine ⟨h1, h2, ?_⟩
  unfold insOf
  split
  · rename_i hp
    obtain ⟨_, hi⟩ := isIns_extract g hp
    right
    refine ⟨by rw [hi.size]; omega, ?_, fun e => ?_⟩
    · have hs := hi.size
      generalize p.extract (3 * (Mach.arrive s c).pc.toNat) (3 * (Mach.arrive s c).pc.toNat + 3) = x at *
      cases hx : x.toList.isEmpty with
      | false => rfl
      | true =>
        exfalso
        have hl : x.data.toList = [] := by rw [ByteArray.toList_eq] at hx; simpa using hx
        have hz : x.data.toList.length = x.size := by rw [Array.length_toList]; rfl
        rw [hl] at hz
        simp at hz
        omega
    · exact h3 (by simp [RM.asks, hp]; rw [← hi.b0]; exact e)
  · left
    rw [ByteArray.toList_eq]
    rfl

end Go.Proofs.YtcmoffiigpchiaaGreat

namespace Go.Proofs.YtcmoffiigpchiaaGreat
open Go.RowKit

/-- The state is written down, and what lay there lies there yet. -/
theorem landed {w w1 w2 : World} {b g cap : Nat} {m : RM} (R0 : RefAt w b g cap m) (L1 : Below w.heap.size w w1) (L2 : Below w1.heap.size w1 w2) (s : StV) :
    RefAt (((((((((w2.setCell ⟨b, 3, none⟩ (.int .i64 s.n)).setCell ⟨b, 4, none⟩ (.int .i64 s.pc)).setCell ⟨b, 5, none⟩ (.string s.regs)).setCell ⟨b, 6, none⟩ (.string s.cells)).setCell ⟨b, 7, none⟩ (.int .i64 s.clock)).setCell ⟨b, 8, none⟩ (.int .i64 s.handler)).setCell ⟨b, 9, none⟩ (.int .i64 s.back)).setCell ⟨b, 10, none⟩ (.bool s.pending)).setCell ⟨b, 11, none⟩ (.bool s.halted)) b g cap { m with s := s } ∧
    Keeps w (((((((((w2.setCell ⟨b, 3, none⟩ (.int .i64 s.n)).setCell ⟨b, 4, none⟩ (.int .i64 s.pc)).setCell ⟨b, 5, none⟩ (.string s.regs)).setCell ⟨b, 6, none⟩ (.string s.cells)).setCell ⟨b, 7, none⟩ (.int .i64 s.clock)).setCell ⟨b, 8, none⟩ (.int .i64 s.handler)).setCell ⟨b, 9, none⟩ (.int .i64 s.back)).setCell ⟨b, 10, none⟩ (.bool s.pending)).setCell ⟨b, 11, none⟩ (.bool s.halted)) [b, g] := by
  refine ⟨((R0.keeps L1).keeps L2).setS s, ?_⟩
  repeat (refine Keeps.setCell ?_ (by simp) _)
  exact (keeps_of L1 _).trans (keeps_of L2 _)
theorem below9 {w w2 : World} {k x : Nat} (h : Below k w w2) (hx : k ≤ x) (v0 v1 v2 v3 v4 v5 v6 v7 v8 : Value) : Below k w (((((((((w2.setCell ⟨x, 0, none⟩ v0).setCell ⟨x, 1, none⟩ v1).setCell ⟨x, 2, none⟩ v2).setCell ⟨x, 3, none⟩ v3).setCell ⟨x, 4, none⟩ v4).setCell ⟨x, 5, none⟩ v5).setCell ⟨x, 6, none⟩ v6).setCell ⟨x, 7, none⟩ v7).setCell ⟨x, 8, none⟩ v8) := by
  repeat (refine Below.setCell ?_ (by simpa using hx) _)
  exact h
theorem RefAt.alloc {w : World} {b g cap : Nat} {m : RM} (h : RefAt w b g cap m) (X : Obj) : RefAt (w.alloc X) b g cap m :=
  h.keeps ((Below.refl _ _).alloc (Nat.le_refl _) X)
set_option maxRecDepth 100000 in
set_option maxHeartbeats 4000000 in
theorem mstep_plain (b g cap : Nat) (m : RM) (c : ChV) (hm : m.Ok) (hc : Mach.Chosen c) (hh : m.s.halted = false) (hn : m.s.n < 10000) (hct : RM.counts m.p m.s c = false) (hsz : m.all.length < 8796093022207) (w : World) (h : RefAt w b g cap m) :
    Calls Tryz.prog 40 #[.pointer (some ⟨b, 0, none⟩), c.val] w fun e w' => e = .returned (.int .i64 0) ∧ ∃ g' cap', RefAt w' b g' cap' (RM.stepped m c) ∧ (g' = g ∨ w.heap.size ≤ g') ∧ Keeps w w' [b, g] := by
  have HC := hide (chosen_ref c)
  rw [(Mach.chosen_iff c).2 hc] at HC
  have HX := hide (next_ref m.p hm.good m.s c hm.legal hc hn hh)
  have R0 := hide h
  have hgl := own_lt h.own
  have HV := hide (fun W => save_ref b g cap { m with s := Mach.next m.p m.s c } (went_ok hm hc hn) hsz W)
  have HA := hide (ask_facts hm.good hct)
  have hnn := Mach.next_n m.p m.s c
  have HST : Hid (RM.stepped m c = if m.period ≤ (Mach.next m.p m.s c).n - m.last then RM.save { m with s := Mach.next m.p m.s c } else { m with s := Mach.next m.p m.s c }) := by
    show _ = _
    simp [RM.stepped, RM.went, hct]
  have hn0 := hm.legal.n0
  have hl0 := hm.last0
  have hl1 := hm.last1
  have hp0 := hm.period0
  have hp1 := hm.period1
  have B0 := hide h.box
  have hlt := h.box.lt
  have hw : Hid (wrap64 (m.s.n + 1 - m.last) = m.s.n + 1 - m.last) := (by show _ = _; unfold wrap64; omega)
  clear hn h
  generalize Mach.next m.p m.s c = s' at *
  generalize insOf m.p m.s c = ii at *
  obtain ⟨p, room, period, ⟨n, pc, regs, cells, clock, handler, back, pending, halted⟩, all, from_, last⟩ := m
  obtain ⟨input, ticks, interrupt⟩ := c
  obtain ⟨n', pc', regs', cells', clock', handler', back', pending', halted'⟩ := s'
  simp only at HX hh hnn
  subst hh hnn
  have HCT := hide hct
  have HM := hide hm
  have HCC := hide hc
  clear hct hm hc
  go_enter Tryz.func40, Tryz.ntmps40
  go_wp2_with (go_at_call 50; refine (unhide HC _).mono ?_; rintro e w1 ⟨rfl, hb⟩; have B1 := hide (((unhide B0).alloc _).next hb); have C1 := hide ((Box.new _ _ _).next hb); have L1 := hide (bel_alloc hb); clear hb; obtain ⟨c1, f1, z1⟩ := unhide B1; obtain ⟨d1, e1, y1⟩ := unhide C1; have nb1 : ¬ w1.heap.size + 1 = b := (by omega); have nb2 : ¬ b = w1.heap.size + 1 := (by omega); have nw1 : ¬ w1.heap.size + 1 = w.heap.size := (by omega); have nw2 : ¬ w.heap.size = w1.heap.size + 1 := (by omega))
  go_region_held3 (fun w' => w'.cell? ⟨b, 0, none⟩ = some (.string p) ∧ w'.cell? ⟨b, 3, none⟩ = some (.int .i64 n) ∧ w'.cell? ⟨b, 4, none⟩ = some (.int .i64 pc) ∧ w'.cell? ⟨b, 5, none⟩ = some (.string regs) ∧ w'.cell? ⟨b, 6, none⟩ = some (.string cells) ∧ w'.cell? ⟨b, 7, none⟩ = some (.int .i64 clock) ∧ w'.cell? ⟨b, 8, none⟩ = some (.int .i64 handler) ∧ w'.cell? ⟨b, 9, none⟩ = some (.int .i64 back) ∧ w'.cell? ⟨b, 10, none⟩ = some (.bool pending) ∧ w'.cell? ⟨b, 11, none⟩ = some (.bool false) ∧ w'.cell? ⟨w.heap.size, 0, none⟩ = some (.int .i64 input) ∧ w'.cell? ⟨w.heap.size, 1, none⟩ = some (.int .i64 ticks) ∧ w'.cell? ⟨w.heap.size, 2, none⟩ = some (.bool interrupt)) (first | go_keep | (go_simp; done)) (first | (go_at_call 51; refine (unhide HX _).mono ?_; rintro e w2 ⟨rfl, hb⟩; (first | (have L2 : Hid (Below w1.heap.size w1 w2) := bel_alloc (bel_undrew hb)) | (have L2 : Hid (Below w1.heap.size w1 w2) := bel_alloc (bel_alloc (bel_undrew hb)); obtain ⟨c5, f5, z5⟩ := box_second hb)); clear hb; have B2 := hide ((unhide B1).next (unhide L2)); have C2 := hide ((unhide C1).next (unhide L2)); obtain ⟨c2, f2, z2⟩ := unhide B2; obtain ⟨d2, e2, y2⟩ := unhide C2))
  · obtain ⟨hi, ht, hask⟩ := unhide HA
    subst hi ht
    have hwr := unhide hw
    have F := hide (landed (unhide R0) (unhide L1) (unhide L2) ⟨n + 1, pc', regs', cells', clock', handler', back', pending', halted'⟩)
    rcases hask with hE | ⟨hpos, hE, h63⟩
    · go_wp2_with fail
      all_goals
        go_quiet (fail)
        go_wp2_with fail
        · refine (unhide HV _ (((unhide F).1.alloc _).drewN _)).mono ?_
          rintro e w3 ⟨rfl, g', cap', h3, h4, h5⟩
          have K3 := hide ((((unhide F).2.alloc _).drewN nq).trans h5)
          have G3 := hide (h4.imp id (fun h => Nat.le_trans (((unhide F).2.alloc _).drewN nq).size h) : g' = g ∨ w.heap.size ≤ g')
          have R3 := hide h3
          clear h3 h4 h5
          go_wp2_with fail
          go_ret
          refine ⟨rfl, ?_⟩
          rw [unhide HST, if_pos (by omega)]
          exact ⟨g', cap', unhide R3, unhide G3, unhide K3⟩
        · go_ret
          refine ⟨rfl, ?_⟩
          rw [unhide HST, if_neg (by omega)]
          exact ⟨g, cap, ((unhide F).1.alloc _).drewN _, Or.inl rfl, ((unhide F).2.alloc _).drewN _⟩
    · by_cases h6 : (ii[0].toNat : Int) = 63
      · have hin := h63 (by rw [← Code.byt_eq ii 0 hpos]; omega)
        subst hin
        go_wp2_with fail
        all_goals
          go_quiet (fail)
          go_wp2_with fail
          · refine (unhide HV _ (((unhide F).1.alloc _).drewN _)).mono ?_
            rintro e w3 ⟨rfl, g', cap', h3, h4, h5⟩
            have K3 := hide ((((unhide F).2.alloc _).drewN nq).trans h5)
            have G3 := hide (h4.imp id (fun h => Nat.le_trans (((unhide F).2.alloc _).drewN nq).size h) : g' = g ∨ w.heap.size ≤ g')
            have R3 := hide h3
            clear h3 h4 h5
            go_wp2_with fail
            go_ret
            refine ⟨rfl, ?_⟩
            rw [unhide HST, if_pos (by omega)]
            exact ⟨g', cap', unhide R3, unhide G3, unhide K3⟩
          · go_ret
            refine ⟨rfl, ?_⟩
            rw [unhide HST, if_neg (by omega)]
            exact ⟨g, cap, ((unhide F).1.alloc _).drewN _, Or.inl rfl, ((unhide F).2.alloc _).drewN _⟩
      · go_wp2_with fail
        all_goals
          go_quiet (fail)
          go_wp2_with fail
          · refine (unhide HV _ (((unhide F).1.alloc _).drewN _)).mono ?_
            rintro e w3 ⟨rfl, g', cap', h3, h4, h5⟩
            have K3 := hide ((((unhide F).2.alloc _).drewN nq).trans h5)
            have G3 := hide (h4.imp id (fun h => Nat.le_trans (((unhide F).2.alloc _).drewN nq).size h) : g' = g ∨ w.heap.size ≤ g')
            have R3 := hide h3
            clear h3 h4 h5
            go_wp2_with fail
            go_ret
            refine ⟨rfl, ?_⟩
            rw [unhide HST, if_pos (by omega)]
            exact ⟨g', cap', unhide R3, unhide G3, unhide K3⟩
          · go_ret
            refine ⟨rfl, ?_⟩
            rw [unhide HST, if_neg (by omega)]
            exact ⟨g, cap, ((unhide F).1.alloc _).drewN _, Or.inl rfl, ((unhide F).2.alloc _).drewN _⟩
  · obtain ⟨hi, ht, hask⟩ := unhide HA
    subst hi ht
    have hwr := unhide hw
    have F := hide (landed (unhide R0) (unhide L1) (below9 (unhide L2) (Nat.le_succ _) (.int .i64 (n + 1)) (.int .i64 pc') (.string regs') (.string cells') (.int .i64 clock') (.int .i64 handler') (.int .i64 back') (.bool pending') (.bool halted')) ⟨n + 1, pc', regs', cells', clock', handler', back', pending', halted'⟩)
    rcases hask with hE | ⟨hpos, hE, h63⟩
    · go_wp2_with fail
      all_goals
        go_quiet (fail)
        go_wp2_with fail
        · refine (unhide HV _ ((unhide F).1.drewN _)).mono ?_
          rintro e w3 ⟨rfl, g', cap', h3, h4, h5⟩
          have K3 := hide (((unhide F).2.drewN nq).trans h5)
          have G3 := hide (h4.imp id (fun h => Nat.le_trans ((unhide F).2.drewN nq).size h) : g' = g ∨ w.heap.size ≤ g')
          have R3 := hide h3
          clear h3 h4 h5
          go_wp2_with fail
          go_ret
          refine ⟨rfl, ?_⟩
          rw [unhide HST, if_pos (by omega)]
          exact ⟨g', cap', unhide R3, unhide G3, unhide K3⟩
        · go_ret
          refine ⟨rfl, ?_⟩
          rw [unhide HST, if_neg (by omega)]
          exact ⟨g, cap, (unhide F).1.drewN _, Or.inl rfl, (unhide F).2.drewN _⟩
    · by_cases h6 : (ii[0].toNat : Int) = 63
      · have hin := h63 (by rw [← Code.byt_eq ii 0 hpos]; omega)
        subst hin
        go_wp2_with fail
        all_goals
          go_quiet (fail)
          go_wp2_with fail
          · refine (unhide HV _ ((unhide F).1.drewN _)).mono ?_
            rintro e w3 ⟨rfl, g', cap', h3, h4, h5⟩
            have K3 := hide (((unhide F).2.drewN nq).trans h5)
            have G3 := hide (h4.imp id (fun h => Nat.le_trans ((unhide F).2.drewN nq).size h) : g' = g ∨ w.heap.size ≤ g')
            have R3 := hide h3
            clear h3 h4 h5
            go_wp2_with fail
            go_ret
            refine ⟨rfl, ?_⟩
            rw [unhide HST, if_pos (by omega)]
            exact ⟨g', cap', unhide R3, unhide G3, unhide K3⟩
          · go_ret
            refine ⟨rfl, ?_⟩
            rw [unhide HST, if_neg (by omega)]
            exact ⟨g, cap, (unhide F).1.drewN _, Or.inl rfl, (unhide F).2.drewN _⟩
      · go_wp2_with fail
        all_goals
          go_quiet (fail)
          go_wp2_with fail
          · refine (unhide HV _ ((unhide F).1.drewN _)).mono ?_
            rintro e w3 ⟨rfl, g', cap', h3, h4, h5⟩
            have K3 := hide (((unhide F).2.drewN nq).trans h5)
            have G3 := hide (h4.imp id (fun h => Nat.le_trans ((unhide F).2.drewN nq).size h) : g' = g ∨ w.heap.size ≤ g')
            have R3 := hide h3
            clear h3 h4 h5
            go_wp2_with fail
            go_ret
            refine ⟨rfl, ?_⟩
            rw [unhide HST, if_pos (by omega)]
            exact ⟨g', cap', unhide R3, unhide G3, unhide K3⟩
          · go_ret
            refine ⟨rfl, ?_⟩
            rw [unhide HST, if_neg (by omega)]
            exact ⟨g, cap, (unhide F).1.drewN _, Or.inl rfl, (unhide F).2.drewN _⟩

end Go.Proofs.YtcmoffiigpchiaaGreat

namespace Go.Proofs.YtcmoffiigpchiaaGreat
open Go.RowKit

/-- Whether the step did the instruction that asks. -/
def AskOf (ii : ByteArray) (aq : Bool) : Prop := (ii.toList.isEmpty = true ∧ aq = false) ∨ (∃ _h : 0 < ii.size, ii.toList.isEmpty = false ∧ aq = decide (Code.byt ii 0 = 63))
theorem beq63 (x : Nat) : ((x : Int) == 63) = decide (x = 63) := by
  by_cases h : x = 63
  · simp [h]
  · have : ¬ (x : Int) = 63 := by omega
    simp [h, this]
theorem counts_facts {p : ByteArray} {s : StV} {c : ChV} (g : Mach.Good p) (h : RM.counts p s c = true) :
    ∃ aq : Bool, Hid (AskOf (insOf p s c) aq ∧ (c.interrupt || decide (c.ticks ≠ 0) || (aq && decide (c.input ≠ 0))) = true) := by
  refine ⟨RM.asks p s c, hide ⟨?_, h⟩⟩
  unfold insOf AskOf
  split
  · rename_i hp
    obtain ⟨_, hi⟩ := isIns_extract g hp
    right
    refine ⟨by rw [hi.size]; omega, ?_, ?_⟩
    · have hs := hi.size
      generalize p.extract (3 * (Mach.arrive s c).pc.toNat) (3 * (Mach.arrive s c).pc.toNat + 3) = x at *
      cases hx : x.toList.isEmpty with
      | false => rfl
      | true =>
        exfalso
        have hl : x.data.toList = [] := by rw [ByteArray.toList_eq] at hx; simpa using hx
        have hz : x.data.toList.length = x.size := by rw [Array.length_toList]; rfl
        rw [hl] at hz
        simp at hz
        omega
    · rw [hi.b0]
      simp [RM.asks, hp]
  · rename_i hp
    left
    refine ⟨by rw [ByteArray.toList_eq]; rfl, by simp [RM.asks, hp]⟩
namespace RM
theorem place_pp (m : RM) : (place m).1.p = m.p ∧ (place m).1.period = m.period := by
  unfold place
  split
  · exact ⟨rfl, rfl⟩
  · split <;> exact ⟨rfl, rfl⟩
theorem place_last' (m : RM) : (place m).1.last = m.last := by
  unfold place
  split
  · rfl
  · split <;> rfl
end RM
theorem nine_box' {w : World} {b : Nat} {a0 a1 a2 a3 a4 a5 a6 a7 a8 : Value} (h : Box w b #[a0, a1, a2, a3, a4, a5, a6, a7, a8]) (v0 v1 v2 v3 v4 v5 v6 v7 v8 : Value) :
    Box (((((((((w.setCell ⟨b, 0, none⟩ v0).setCell ⟨b, 1, none⟩ v1).setCell ⟨b, 2, none⟩ v2).setCell ⟨b, 3, none⟩ v3).setCell ⟨b, 4, none⟩ v4).setCell ⟨b, 5, none⟩ v5).setCell ⟨b, 6, none⟩ v6).setCell ⟨b, 7, none⟩ v7).setCell ⟨b, 8, none⟩ v8) b #[v0, v1, v2, v3, v4, v5, v6, v7, v8] := by
  rw [← nine a0 a1 a2 a3 a4 a5 a6 a7 a8 v0 v1 v2 v3 v4 v5 v6 v7 v8]
  exact ((((((((h.set 0 v0 (by simp)).set 1 v1 (by simp)).set 2 v2 (by simp)).set 3 v3 (by simp)).set 4 v4 (by simp)).set 5 v5 (by simp)).set 6 v6 (by simp)).set 7 v7 (by simp)).set 8 v8 (by simp)
/-- A block that was made behind may be written too. -/
theorem keeps_more {a b' c : World} {b g g1 : Nat} (h : Keeps a b' [b, g]) (k : Keeps b' c [b, g1]) (hg : g1 ∈ [b, g] ∨ a.heap.size ≤ g1) : Keeps a c [b, g] :=
  ⟨k.os.trans h.os, k.tape.trans h.tape, k.output.trans h.output, Nat.le_trans h.size k.size, fun i hi hn => by
    rw [k.block i (Nat.lt_of_lt_of_le hi h.size) (fun e => by
      simp at e hn
      rcases e with e | e
      · exact hn.1 e
      · rcases hg with hg | hg
        · simp at hg; omega
        · omega)]
    exact h.block i hi hn⟩
theorem Box.off' {w : World} {b : Nat} {ca : Array Value} (h : Box w b ca) {a : Addr} (ha : b ≠ a.block) (v : Value) : Box (w.setCell a v) b ca :=
  h.keeps ((Keeps.refl w [a.block]).setCell (by simp) v) (by simpa using ha)
theorem keepsS {w w1 : World} {b g : Nat} (h : Keeps w w1 [b, g]) (v0 v1 v2 v3 v4 v5 v6 v7 v8 : Value) :
    Keeps w (((((((((w1.setCell ⟨b, 3, none⟩ v0).setCell ⟨b, 4, none⟩ v1).setCell ⟨b, 5, none⟩ v2).setCell ⟨b, 6, none⟩ v3).setCell ⟨b, 7, none⟩ v4).setCell ⟨b, 8, none⟩ v5).setCell ⟨b, 9, none⟩ v6).setCell ⟨b, 10, none⟩ v7).setCell ⟨b, 11, none⟩ v8) [b, g] := by
  repeat (refine Keeps.setCell ?_ (by simp) _)
  exact h

end Go.Proofs.YtcmoffiigpchiaaGreat

namespace Go.Proofs.YtcmoffiigpchiaaGreat
open Go.RowKit

/-- What an append inside the document's Step leaves. -/
theorem app_done {w wc w2 w3 : World} {b g k k0 g1 cap1 g' cap' : Nat} {q : RM} {fr : ByteArray} {c2 c1 cz : Array Value}
    (R : RefAt wc b g1 cap1 q) (L2 : Below wc.heap.size wc w2)
    (O3 : w3.ownsRow 0 9 1 (.slice (some ⟨g', 0, none⟩) (q.all.length + 1) cap') (q.all.length + 1) (q.all.map Value.string ++ [.string fr]))
    (G3 : (w2.alloc (.cells #[.string fr] 9)).grownBy w3 (some g1)) (A3 : some g1 = some g' ∨ g' = (w2.alloc (.cells #[.string fr] 9)).heap.size)
    (X : Box wc k c2) (Y : Box wc k0 c1) (Z : Box wc w.heap.size cz) (K : Keeps w wc [b, g]) (nkb : k ≠ b) (nKb : k0 ≠ b) (nwb : w.heap.size ≠ b)
    (HG1 : (g1 = g ∨ w.heap.size ≤ g1) ∧ g1 ≠ k ∧ g1 ≠ k0 ∧ g1 ≠ w.heap.size) (HG2 : g1 ∈ [b, g] ∨ w.heap.size ≤ g1) :
    ∃ g2 cap2, RefAt (w3.setCell ⟨b, 12, none⟩ (.slice (some ⟨g', 0, none⟩) (q.all.length + 1) cap')) b g2 cap2 { q with all := q.all ++ [fr] } ∧ Box (w3.setCell ⟨b, 12, none⟩ (.slice (some ⟨g', 0, none⟩) (q.all.length + 1) cap')) k c2 ∧ Box (w3.setCell ⟨b, 12, none⟩ (.slice (some ⟨g', 0, none⟩) (q.all.length + 1) cap')) k0 c1 ∧ Box (w3.setCell ⟨b, 12, none⟩ (.slice (some ⟨g', 0, none⟩) (q.all.length + 1) cap')) w.heap.size cz ∧ Keeps w (w3.setCell ⟨b, 12, none⟩ (.slice (some ⟨g', 0, none⟩) (q.all.length + 1) cap')) [b, g] ∧ (g2 = g ∨ w.heap.size ≤ g2) ∧ g2 ≠ k ∧ g2 ≠ k0 ∧ g2 ≠ w.heap.size := by
  obtain ⟨a1, a2, a3⟩ := appended R L2 O3 G3 A3
  obtain ⟨q1, q2, q3, q4⟩ := HG1
  have ks := K.size
  have x1 := X.lt
  have y1 := Y.lt
  have z1 := Z.lt
  refine ⟨g', cap', a1, X.keeps a3 (by simp; omega), Y.keeps a3 (by simp; omega), Z.keeps a3 (by simp; omega), keeps_more K a3 HG2, ?_, ?_, ?_, ?_⟩
  · rcases a2 with h | h
    · rw [h]; exact q1
    · right; omega
  · rcases a2 with h | h <;> omega
  · rcases a2 with h | h <;> omega
  · rcases a2 with h | h <;> omega
end Go.Proofs.YtcmoffiigpchiaaGreat
