import Derived.Test.YtcmoffiigpchiaaGreatRecW
import Derived.Test.YtcmoffiigpchiaaGreatBase
import Derived.Test.YtcmoffiigpchiaaGreatStepR
import Derived.Deep.RegionHeld3
import Derived.Test.YtcmoffiigpchiaaGreatOfW
namespace Go.Proofs.YtcmoffiigpchiaaGreat
open Go.RowKit

theorem box_second {w1 w2 : World} {X : Obj} {Y : Array Value} {ty : TypeId} (hb : Below ((w1.alloc X).alloc (.cells Y ty)).drew.heap.size ((w1.alloc X).alloc (.cells Y ty)).drew w2) : Box w2 (w1.heap.size + 1) Y := by
  have h := (Box.new (w1.alloc X) Y ty).drew.next hb
  have e : (w1.alloc X).heap.size = w1.heap.size + 1 := by simp
  rwa [e] at h
theorem Box.later {w1 w2 : World} {b : Nat} {ca : Array Value} {X : Obj} (h : Box w1 b ca) (hb : Below (w1.alloc X).drew.heap.size (w1.alloc X).drew w2) : Box w2 b ca := (h.alloc X).drew.next hb

set_option maxRecDepth 100000 in
set_option maxHeartbeats 2000000 in
theorem mstep_arg (b : Nat) (c : ChV) (hc : Mach.chosen c = false) (w : World) :
    Calls Tryz.prog 40 #[.pointer (some ⟨b, 0, none⟩), c.val] w fun e w' => e = .returned (.int .i64 3) ∧ Below w.heap.size w w' := by
  have HC := hide (chosen_ref c)
  rw [hc] at HC
  clear hc
  obtain ⟨input, ticks, interrupt⟩ := c
  go_enter Tryz.func40, Tryz.ntmps40
  go_wp2_with (go_at_call 50; refine (unhide HC _).mono ?_; rintro e w1 ⟨rfl, hb⟩)
  go_ret
  exact ⟨rfl, bel_alloc hb⟩

set_option maxRecDepth 100000 in
set_option maxHeartbeats 4000000 in
theorem mstep_halt (b g cap : Nat) (m : RM) (c : ChV) (hc : Mach.chosen c = true) (hn : m.s.halted = true ∨ 10000 ≤ m.s.n) (w : World) (h : RefAt w b g cap m) :
    Calls Tryz.prog 40 #[.pointer (some ⟨b, 0, none⟩), c.val] w fun e w' => e = .returned (.int .i64 5) ∧ Below w.heap.size w w' := by
  have HC := hide (chosen_ref c)
  rw [hc] at HC
  have HX := hide (next_halt m.p m.s c hn)
  have B0 := hide h.box
  have hlt := h.box.lt
  clear hc hn h
  obtain ⟨p, room, period, ⟨n, pc, regs, cells, clock, handler, back, pending, halted⟩, all, from_, last⟩ := m
  obtain ⟨input, ticks, interrupt⟩ := c
  simp only at HX
  go_enter Tryz.func40, Tryz.ntmps40
  go_wp2_with (go_at_call 50; refine (unhide HC _).mono ?_; rintro e w1 ⟨rfl, hb⟩; have B1 := hide (((unhide B0).alloc _).next hb); have C1 := hide ((Box.new _ _ _).next hb); have L1 := hide (bel_alloc hb); clear hb; obtain ⟨c1, f1, z1⟩ := unhide B1; obtain ⟨d1, e1, y1⟩ := unhide C1; have nb1 : ¬ w1.heap.size + 1 = b := (by omega); have nb2 : ¬ b = w1.heap.size + 1 := (by omega); have nw1 : ¬ w1.heap.size + 1 = w.heap.size := (by omega); have nw2 : ¬ w.heap.size = w1.heap.size + 1 := (by omega))
  go_region_held3 (fun w' => w'.cell? ⟨b, 0, none⟩ = some (.string p) ∧ w'.cell? ⟨b, 3, none⟩ = some (.int .i64 n) ∧ w'.cell? ⟨b, 4, none⟩ = some (.int .i64 pc) ∧ w'.cell? ⟨b, 5, none⟩ = some (.string regs) ∧ w'.cell? ⟨b, 6, none⟩ = some (.string cells) ∧ w'.cell? ⟨b, 7, none⟩ = some (.int .i64 clock) ∧ w'.cell? ⟨b, 8, none⟩ = some (.int .i64 handler) ∧ w'.cell? ⟨b, 9, none⟩ = some (.int .i64 back) ∧ w'.cell? ⟨b, 10, none⟩ = some (.bool pending) ∧ w'.cell? ⟨b, 11, none⟩ = some (.bool halted) ∧ w'.cell? ⟨w.heap.size, 0, none⟩ = some (.int .i64 input) ∧ w'.cell? ⟨w.heap.size, 1, none⟩ = some (.int .i64 ticks) ∧ w'.cell? ⟨w.heap.size, 2, none⟩ = some (.bool interrupt)) (first | go_keep | (go_simp; done)) (first | (go_at_call 51; refine (unhide HX _).mono ?_; rintro e w2 ⟨rfl, hb⟩; (first | (have L2 : Hid (Below w1.heap.size w1 w2) := bel_alloc (bel_undrew hb)) | (have L2 : Hid (Below w1.heap.size w1 w2) := bel_alloc (bel_alloc (bel_undrew hb)); obtain ⟨c5, f5, z5⟩ := box_second hb)); clear hb; have B2 := hide ((unhide B1).next (unhide L2)); have C2 := hide ((unhide C1).next (unhide L2)); obtain ⟨c2, f2, z2⟩ := unhide B2; obtain ⟨d2, e2, y2⟩ := unhide C2))
  all_goals
    go_wp2
    go_ret
    have s1 := (unhide L1).size
    have s2 := (unhide L2).size
    refine ⟨rfl, ?_⟩
    repeat (refine Below.setCell ?_ (by simp <;> omega) _)
    first | exact bel_then (unhide L1) (unhide L2) | exact (bel_then (unhide L1) (unhide L2)).alloc (Nat.le_trans s1 s2) _
end Go.Proofs.YtcmoffiigpchiaaGreat
